import PyProof.Rows.All
import Wide.All
import OpenK.AllK
import Wide.FinOn
import Lean
import PyProof.EqAt
import PyProof.EqKinds
import PyProof.TupleCall
import PyProof.Rows.SetFrom
import PySem.Challenge.RW_spanways_k21_whole_no_tree_where_a_plan
set_option Elab.async false
set_option linter.all false
set_option maxRecDepth 100000
set_option bootstrap.genMatcherCode false
noncomputable section
set_option compiler.extract_closed false
namespace PySem.W.Fast
abbrev Z:=Nat
def tw4693130863601028424:=Z
def tw16170647894566305615:=Z
def tw2915715393121675941:=Z
def tw9795179055372119650:=Z
def tw13547536956497371752:=Z
def tw6478275777331242792:=Z
def tw13528865331335536056:=Z
def tw593263796923853483:=Z
def tw12282425619878350571:=Z
def tw17255278155927918470:=Z
def tw5623476738896475016:=Z
def tw12515056618530351033:=Z
def tw12918073249865760342:=Z
def tw6017525414829688326:=Z
def tw4014500698381012913:=Z
def tw3793104392492652718:=Z
def tw10422299855762542019:=Z
def tw12644672684419358161:=Z
def tw7173631562349816248:=Z
def tw8896370925981987583:=Z
def tw1509179399547897291:=Z
def tw15779461724314503273:=Z
def tw18385739145254926542:=Z
def tw14131441401005386178:=Z
def tw12433655054767032618:=Z
def tw2927039314870623049:=Z
def tw2350958838576287693:=Z
def tw2302569298223765454:=Z
def tw4465771884248459851:=Z
def tw14781649034807651417:=Z
def tw8718186769987493455:=Z
def tw8275060718327531043:=Z
def tw8324488706183161805:=Z
def tw11015990737022706119:=Z
def tw10116933839444719238:=Z
def tw5895400425177115771:=Z
def tw18405696631439443030:=Z
def tw1296176158859345280:=Z
def tw7685127472696750631:=Z
def tw10432533085117255780:=Z
def tw1251344082204690144:=Z
def tw15460333815464446848:=Z
def tw9572673993406926688:=Z
def tw10764378251969692676:=Z
def tw13084635549031313432:=Z
def tw13930924437440500026:=Z
def tw15495499240121054145:=Z
def tw4395760472741103842:=Z
def tw14813880863761742217:=Z
def tw12958643980188642639:=Z
def tw13678968767008608658:=Z
def tw8126667805348806683:=Z
def tw1547019822661182575:=Z
def tw13246858985539776394:=Z
def tw6684905976734294561:=Z
def tw5497699219023194625:=Z
def tw317960678885779111:=Z
def tw327234000237937042:=Z
def tw2291804006660781135:=Z
def tw1114522156665131556:=Z
def tw8068974789440006051:=Z
def tw12612148410459022993:=Z
def tw11908909619671293898:=Z
def tw9417797158322297068:=Z
def tw17620476414362475526:=Z
def tw9966972174314619599:=Z
def tw7165327866399109991:=Z
def tw7581170018950249788:=Z
def tw6380026900660851981:=Z
def tw16015477012909201012:=Z
def tw11188593832796566901:=Z
def tw6744351768497213514:=Z
def tw7989900739007413733:=Z
def tw14784705672626980608:=Z
def tw7869974037182583905:=Z
def tw13113601734884189525:=Z
def tw2990470793407698244:=Z
def tw11627309222810275671:=Z
def tw153140472011421736:=Z
def tw15332792308941419711:=Z
def tw14146749829162833154:=Z
def tw4122145506569895840:=Z
def tw8201228613970123873:=Z
def tw553452492073928104:=Z
def tw6922342483093619245:=Z
def tw5512166662126163742:=Z
def tw8831883142021904441:=Z
def tw1222315180578894543:=Z
def tw17741287923270866161:=Z
def tw8544290369592316651:=Z
def tw12550474516549861675:=Z
def tw6632814065717924725:=Z
def tw1161546877918226621:=Z
def tw8850751587293581244:=Z
def tw16244220046604018972:=Z
def tw14708752202725063564:=Z
def tw4180576485506812639:=Z
def tw6335440390719486030:=Z
def tw3126554122181917257:=Z
def tw12552479730718953232:=Z
def tw15869059448133539325:=Z
def tw1870213021094886:=Z
def tw2446381497961296399:=Z
def tw10812441723518384850:=Z
def tw18216861469469402262:=Z
def tw5765101137218607082:=Z
def tw2289546277419799928:=Z
def tw1820258076643708919:=Z
def tw5867554720145107348:=Z
def tw8396781727858813602:=Z
def tw2539305913590505081:=Z
def tw17056246729349481756:=Z
def tw2887632281789429451:=Z
def tw12254713359125145622:=Z
def tw11178401459889952152:=Z
def tw14102995696263203349:=Z
def tw8967352312546507901:=Z
def tw7005656228206431824:=Z
def tw896802361290877640:=Z
def tw16418650612920924653:=Z
def tw9015521503029734170:=Z
def tw3055702604872708023:=Z
def tw17906586257754338124:=Z
def tw11705425111018633889:=Z
def tw15759460806547950045:=Z
def tw14407499143370105454:=Z
def tw11448035070434086341:=Z
def tw16420986343155480922:=Z
def tw558399985684397537:=Z
def tw4705912498275473495:=Z
def tw17794199685491401359:=Z
def tw5970792400926914179:=Z
def tw4058229602550086592:=Z
def tw929564869909062196:=Z
def tw8700019194113035530:=Z
def tw12553678041490734991:=Z
def tw295577474216188706:=Z
def tw14086139908936268429:=Z
def tw16141551340344778686:=Z
def tw16832021133936047328:=Z
def tw5895909424944036415:=Z
def tw3360888212889893438:=Z
def tw11136730368821081228:=Z
def tw14942353762628614006:=Z
def tw7320512414362276880:=Z
def tw1972866476006695041:=Z
def tw781493671030509206:=Z
def tw13532648019009305486:=Z
def tw3303958322834562602:=Z
def tw7648127710975195932:=Z
def tw2070791568658262022:=Z
def tw4542598965148917752:=Z
def tw12198508406256302657:=Z
def tw8342736926829590999:=Z
def tw3758705368611621230:=Z
def tw15592996666815116225:=Z
def tw1013658454032598610:=Z
def tw3125037934898916732:=Z
def tw17049004761966536363:=Z
def tw1694307103488685114:=Z
def tw1291163912783348245:=Z
def tw5157662847743551828:=Z
def tw12157000327434877467:=Z
def tw5953282433225405975:=Z
def tw17375514094445833738:=Z
def tw10087844210974878378:=Z
def tw11489572547896912315:=Z
def tw16865328802772934376:=Z
def tw1597240003616838888:=Z
def tw10907943886922842217:=Z
def tw17978874668151618561:=Z
def tw17032207776983729476:=Z
def tw15418378133045338443:=Z
def tw16352324406197461349:=Z
def tw11304499576588225264:=Z
def tw16232079251155110489:=Z
def tw13248333945026183861:=Z
def tw15247247574952720918:=Z
def tw11928042734893665745:=Z
def tw17233503662512908843:=Z
def tw7857850001863311030:=Z
def tw11101489295276437594:=Z
def tw16590503415088518291:=Z
def tw940647754450494007:=Z
def tw14469641411719482179:=Z
def tw6869797793943462265:=Z
def tw13324126535618401260:=Z
def tw8055668985006831449:=Z
def tw18183656330412410696:=Z
def tw18134443252329515281:=Z
def tw1966039226310207423:=Z
def tw2994346106259121450:=Z
def tw928639224887971236:=Z
def tw12424629816452163946:=Z
def tw7974118988520775413:=Z
def tw15352030718626272864:=Z
def tw13832901979854992983:=Z
def tw1415932441481928628:=Z
def tw10945656232867582906:=Z
def tw8230454643153364440:=Z
def tw15769527837046169294:=Z
def tw1958905801869871987:=Z
def tw12252496605546830566:=Z
def tw6647115182836272309:=Z
def tw8893781133808940257:=Z
def tw5799277555848108399:=Z
def tw18236676282851432109:=Z
def tw8397276881336761098:=Z
def tw13576833006372561572:=Z
def tw1281115586233272714:=Z
def tw8778743440034050203:=Z
def tw1826663213625341826:=Z
def tw2309948955709473085:=Z
def tw2396320913129602173:=Z
def tw1227636907647961359:=Z
def tw14159373291709862096:=Z
def tw12595721506611410533:=Z
def tw18168519656048889844:=Z
def tw1946351823312840984:=Z
def tw16642122787251655302:=Z
def tw2686718306970304362:=Z
def tw9999643556898990709:=Z
def tw9281782223431725577:=Z
def tw2546999607715918929:=Z
def tw16724706564574866665:=Z
def tw13634754223242759781:=Z
def tw408800143085294967:=Z
def tw10102944445862110901:=Z
def tw9583899644131839384:=Z
def tw17150429625965850740:=Z
def tw16593814713242408880:=Z
def tw1217544712926974591:=Z
def tw12282074702116673726:=Z
def tw16022324365606404366:=Z
def tw16027264627361877212:=Z
def tw1545866875156548014:=Z
def tw7387029005800626542:=Z
def tw6073339469245708171:=Z
def tw16321395679782615700:=Z
def tw9847081847845829639:=Z
def tw15682259567527141435:=Z
def tw4993460105467863893:=Z
def tw10900684583868707938:=Z
def tw5964018678922265746:=Z
def tw6907152256578416981:=Z
def tw522055730667099791:=Z
def tw407940395306104196:=Z
def tw7866860854478456867:=Z
def tw7844072515823398255:=Z
def tw11440458767501294307:=Z
def tw12346497885810303058:=Z
def tw15684557908256162030:=Z
def tw829596473078023323:=Z
def tw5066209022831790924:=Z
def tw7875327555257789597:=Z
def tw15867816006562449264:=Z
def tw7849449869151430370:=Z
def tw5325348687389586828:=Z
def tw6998204137960214864:=Z
def tw13439756010769789340:=Z
def tw1100437102218569496:=Z
def tw6211780191064089064:=Z
def tw6910462528564862761:=Z
def tw16095206328609450412:=Z
def tw2241248414961902241:=Z
def tw13170570348186731349:=Z
def tw7484266240411235480:=Z
def tw16399597554469493805:=Z
def tw2461636001629756976:=Z
def tw11799768126496123139:=Z
def tw3849699882142883983:=Z
def tw16969993639073749321:=Z
def tw14094731538975336473:=Z
def tw4451767936814365106:=Z
def tw15035428289787188680:=Z
def tw6439242384107562556:=Z
def tw9238801245431355458:=Z
def tw5576884401245102559:=Z
def tw5600583553932322061:=Z
def tw6767537625991191393:=Z
def tw4205423256833558094:=Z
def tw3151349456603939727:=Z
def tw7248356593855656809:=Z
def tw3401101593280572958:=Z
def tw17562070958384117011:=Z
def tw13063877828675571041:=Z
def tw6643274647144584619:=Z
def tw14750920097790014141:=Z
def tw17849321832436457834:=Z
def tw15286407267451742564:=Z
def tw13950734710551005929:=Z
def tw14298581401991325248:=Z
def tw10266400732935254446:=Z
def tw16682739293409124559:=Z
def tw17042895638603828949:=Z
def tw12392725494062590007:=Z
def tw16655054523811263369:=Z
def tw8104246808951949798:=Z
def tw11922049995083750770:=Z
def tw17330770221827616412:=Z
def tw11524553399034573040:=Z
def tw2903326515315634833:=Z
def tw4551735046267310248:=Z
def tw11953089682455343697:=Z
def tw7776645561732115698:=Z
def tw17681054650700317884:=Z
def tw5932652184705541599:=Z
def tw3229091089185306448:=Z
def tw10659025942092211284:=Z
def tw5918313166543797248:=Z
def tw8351432814829305100:=Z
def tw17907987457826219913:=Z
def tw15310376189315153656:=Z
def tw1505725450010654627:=Z
def tw18372186744869067076:=Z
def tw1063757115541228308:=Z
def tw9104458671305014786:=Z
def tw9965129836556276039:=Z
def tw9644706316876777969:=Z
def tw11186916540365858192:=Z
def tw15304265307122054732:=Z
def tw14750466935173784643:=Z
def tw4771360944656101856:=Z
def tw12098082765811488578:=Z
def tw14093368640306699232:=Z
def tw5247491637827168672:=Z
def tw10903822073760868586:=Z
def tw7406608505350053481:=Z
def tw3811771945570407308:=Z
def tw7130828707367000119:=Z
def tw11374830996645650249:=Z
def tw7082139125443864067:=Z
def tw989847260976505271:=Z
def tw8158165250617181845:=Z
def tw14348832487217256326:=Z
def tw13839874143034899380:=Z
def tw11964459340895428977:=Z
def tw706721484022456635:=Z
def tw12066940572576104307:=Z
def tw6060795011382588529:=Z
def tw11668634155172235127:=Z
def tw1361123619690835528:=Z
def tw12010467009692164531:=Z
def tw5681165902013392982:=Z
def tw8645077953711218500:=Z
def tw5264549880589184751:=Z
def tw4519414380749629471:=Z
def tw12403505426211823786:=Z
def tw3587467406882451583:=Z
def tw16581833470636942449:=Z
def tw12946365823844678007:=Z
def tw5471914869857936696:=Z
def tw17862819942984108342:=Z
def tw14190154247576104171:=Z
def tw5468315191121962984:=Z
def tw16769080317169820766:=Z
def tw4921830461917789243:=Z
def tw11775520232559038985:=Z
def tw5726604686474771051:=Z
def tw6441122730571015119:=Z
def tw18149081499286950278:=Z
def tw7519724756239519975:=Z
def tw5992270635415726375:=Z
def tw10531980698994680069:=Z
def tw4367366145830290000:=Z
def tw1104162798751506668:=Z
def tw8171498741476532180:=Z
def tw1973523873920209364:=Z
def tw10933264241987758529:=Z
def tw11788396939170072541:=Z
def tw14622579461986566667:=Z
def tw16391933433458164192:=Z
def tw1748399877659998780:=Z
def tw6558633417024548685:=Z
end PySem.W.Fast
namespace L2
end L2
namespace SM
end SM
namespace BF
end BF
namespace G
end G
open PySem PySem.Spec PyProof.Rows L2 SM BF G List
universe u
def ao:=@wpAny_bind
def au:=@wpAny_pure
def cu:=@Heap.get?_push_of_some
def cG:=@size_toArray
def dh:=@if_pos
def dG:=@if_neg
def eG:=@if_true
def eH:=@if_false
def eN:=@decide_eq_false
def eO:=@decide_eq_true
def fu:=@Heap.lt_size
def g8:=@length_append
def iu:=@getElem?_eq_getElem
def je:=@Heap.get?_push_size
def ji:=@Nat.lt_of_lt_of_le
def jj:=@getElem?_eq_none
def jo:=@mem_of_getElem?
def ju:=@getElem?_set_ne
def lq:=@length_map
def lu:=@PassesOwn.never
def mq:=@Nat.zero_le
def m5:=@Ne.symm
def m6:=@Int.toNat_natCast
def m8:=@mem_cons_of_mem
def ni:=@Nat.ne_of_lt
def nu:=@append_assoc
def nW:=@Option.some.inj
def n7:=@Nat.le_trans
def ou:=@getElem?_set_self
def qd:=@mem_cons_self
def qe:=@Bool.not_false
def qg:=@Bool.not_true
def qu:=@getElem?_map
def rz:=@Bool.and_eq_true
def su:=@Prod.mk.injEq
def tu:=@Heap.get?_update_other
def uo:=@mem_append_right
def uq:=@mem_append_left
def vm:=@Nat.lt_succ_self
def vo:=@Array.length_toList
def wu:=@Nat.testBit_and
def xr:=@drop_eq_getElem_cons
def xu:=@Nat.zero_add
def yu:=@wpAny_newObj_type
def za:=@mem_of_find?_eq_some
def zc:=@mem_singleton
def zu:=@mem_cons
def Aa:=@mem_append
def Ae:=@mem_map
def Ai:=@mem_range
def Ao:=@sizeLine_eq
def Ba:=@length_take
def Bo:=@beq_self_eq_true
def Bs:=@Nat.le_of_lt
def Bu:=@Nat.sub_self
def Ca:=@Nat.lt_of_le_of_lt
def Ce:=@Nat.ne_of_gt
def Ci:=@absurd
def Cu:=@List.getElem?_eq_none_iff
def Di:=@beq_eq_false_iff_ne
def Ds:=@wpAny_holding
def Du:=@Nat.lt_irrefl
def Ea:=@False.elim
def Ei:=@length_range
def Eo:=@wpAny_truthy_bool
def Es:=@Option.some.injEq
def Eu:=@Option.map_eq_some_iff
def Fd:=@Heap.get?_update_self
def Fe:=@map_append
def Fi:=@Bool.true_and
def Fo:=@wpAny_field
def Ga:=@Bool.false_and
def Ge:=@Bool.and_false
def Gi:=@Around.under_plainId
def Gs:=@Nat.lt_succ_of_lt
def Gu:=@wpAny_mono
def Hi:=@Int.cast_ofNat_Int
def Ho:=@codeAny_builtin
def Hs:=@Nat.eq_of_testBit_eq
def Hu:=@range_succ
def Ia:=@find?_cons
def Ie:=@Nat.not_lt
def Ii:=@Nat.mul_le_mul
def Io:=@Nat.add_sub_cancel_left
def Iu:=@Nat.mod_lt
def Ja:=@True.intro
def Je:=@take_of_length_le
def Ji:=@range_succ_eq_map
def Jo:=@any_cons
def Js:=@all_cons
def Ju:=@length_set
def Ka:=@take_length
def Ke:=@replicate_succ
def Ko:=@Heap.size_push
def Ks:=@Option.join_some
def Ku:=@Nat.le_add_right
def La:=@nodup_cons
def Le:=@List.cons.injEq
def Li:=@mem_flatMap
def Ls:=@getElem?_range
def Ma:=@drop_eq_nil_of_le
def Mi:=@wpAny_updateSeq
abbrev Ms(a:Type u):=List a
abbrev Mu:=Value
abbrev Ni(a:Type u):=Option a
abbrev Nu:=Shared
abbrev Oa:=Addr
abbrev Oe:=Expr
abbrev Oi:=PySem.W.Frag
abbrev Oo:=Program
abbrev Ou:=Stmt
abbrev O4:=World
abbrev Pa:=Around
abbrev Pb(a:Type u):=Array a
abbrev Pu:=Heap
set_option hygiene false
local macro_rules|`(ε $x*)=>`(some $x*)
local macro_rules|`(tactic|dsimp![$x,*]$[$l]?)=>`(tactic|simp only[List.replicate,Nat.reduceAdd,Nat.reduceSub,Qa,Qu,Ru,eG,fA,gA,iA,pB,$x,*]$[$l]?)
set_option hygiene true
local macro_rules|`(tactic|unhygienic $t)=>`(tactic|with_unfolding_all $t)
local macro_rules|`(nofun)=>`(by omega)
local macro_rules|`(⋯)=>`(by simp)
local macro_rules|`(tactic|simp![$x,*]$[$l]?)=>`(tactic|simp only[$x,*]$[$l]?)
theorem Å(_:True:=by rfl):True:=⟨⟩
def Æ:=Å._auto_1
theorem Ð(_:True:=by decide):True:=⟨⟩
def Ñ:=Ð._auto_1
theorem Ö(_:True:=by decide +kernel):True:=⟨⟩
def Ø:=Ö._auto_1
theorem Þ(_:True:=by intro _;rfl):True:=⟨⟩
def å:=Þ._auto_1
theorem æ(_:True:=by first | exact .inl rfl | exact .inr rfl | assumption):True:=⟨⟩
def ð:=æ._auto_1
theorem ñ(_:True:=by exact rfl):True:=⟨⟩
def ö:=ñ._auto_1
theorem ø(_:True:=by first | exact Or.inl rfl | exact Or.inr rfl):True:=⟨⟩
def þ:=ø._auto_1
theorem Qa{b:Type _}{a:b}{l:Ms b}:(a::l)[0]?=ε a:=rfl
theorem Qo{b:Type _}{a:b}{l:Ms b}{i:Nat}:(a::l)[i+1]?=l[i]?:=rfl
theorem Qu{b:Type _}{a:b}{l:Ms b}:(a::l).length=l.length+1:=rfl
theorem Ru{a:Type _}:([]:Ms a).length=0:=rfl
theorem Qs{b d:Type _}{f:b->d}{a:b}{l:Ms b}:(a::l).map f=f a::l.map f:=rfl
theorem Uu{b a:Type _}{f:b->a}:[].map f=[]:=rfl
theorem Ua{d:Type _}{a b:d}{l:Ms d}:(a::l).set 0 b=b::l:=rfl
theorem Us{d:Type _}{a b:d}{l:Ms d}{i:Nat}:(a::l).set (i+1) b=a::l.set i b:=rfl
theorem Ro{b d:Type _}{f:b->d}{a:b}:(ε a).map f=ε (f a):=rfl
theorem Ss{b d:Type _}{a:b}{f:b->Ni d}:(ε a).bind f=f a:=rfl
theorem Ui{a:Type _}{l:Ms a}:[]++l=l:=rfl
theorem Ve{b:Type _}{a:b}{l k:Ms b}:a::l++k=a::(l++k):=rfl
theorem Uo{b:Type _}{l:Ms b}{i:Nat}{a:b}:l[i]?=ε a->∃h:i<l.length,l[i]=a:=List.getElem?_eq_some_iff.mp
theorem Vo{a:Type _}{l k:Ms a}{i:Nat}(h:i<l.length):(l++k)[i]?=l[i]?:=List.getElem?_append_left h
theorem Va:false≠true:=Bool.false_ne_true
theorem Ra(n:Nat):n<=n:=Nat.le_refl n
theorem Ye{a:Type _}{l k:Ms a}{i:Nat}(h:l.length<=i):(l++k)[i]?=k[i-l.length]?:=List.getElem?_append_right h
theorem Ri{a:Type _}(l:Ms a):l++[]=l:=List.append_nil l
theorem Vs:(false=true)=False:=Bool.false_eq_true
open PySem.W (Frag nsIn findIn keepIn fnOf mg_none_of)
namespace L2
noncomputable abbrev fC:=Sum Int Str
noncomputable def HK:fC->Mu->Bool
 | .inl k,v=>Value.isInt k v
 | .inr x,v=>Value.isStrOf x v
noncomputable def u5(w:O4):fC->Int
 | .inl k=>hashInt k
 | .inr x=>hashStr w x
theorem xH:∀{k:fC}{v:Mu},HK k v=true->(∃i t,k=Sum.inl i/\v=Value.int i t)\/(∃x t,k=Sum.inr x/\v=Value.str x t)
 | .inl i,v,h=>by obtain⟨t,e⟩:=Value.isInt_shape (k:=i) (v:=v) h;exact .inl ⟨i,t,rfl,e⟩
 | .inr x,v,h=>by obtain⟨t,e⟩:=Value.isStrOf_shape (x:=x) (v:=v) h;exact .inr ⟨x,t,rfl,e⟩
theorem bw(i:Int)(t:Tok):HK (.inl i) (.int i t)=true:=by simp[HK,Value.isInt]
theorem dw(x:Str)(t:Tok):HK (.inr x) (.str x t)=true:=by simp[HK,Value.isStrOf]
theorem h8(a b:Int):decide ((Sum.inl a:fC)=Sum.inl b)=(a==b):=by
 by_cases e:a=b
 . subst e;simp
 . have h:¬(Sum.inl a:fC)=Sum.inl b:=fun q=>e (Sum.inl.inj q)
   rw[eN h];exact(Di.mpr e).symm
theorem W6(a b:Str):decide ((Sum.inr a:fC)=Sum.inr b)=decide (a=b):=by
 by_cases e:a=b
 . subst e;simp
 . have h:¬(Sum.inr a:fC)=Sum.inr b:=fun q=>e (Sum.inr.inj q)
   rw[eN h,eN e]
theorem T6(a:Int)(b:Str):decide ((Sum.inl a:fC)=Sum.inr b)=false:=eN (fun q=>nomatch q)
theorem V6(a:Str)(b:Int):decide ((Sum.inr a:fC)=Sum.inl b)=false:=eN (fun q=>nomatch q)
def KE(prog:Oo)(w:O4):PySem.KeyKind prog w fC where
 is:=HK
 hash:=u5 w
 inj:=fun v a b n g=>by
  rcases xH n with⟨i,t,rfl,rfl⟩ | ⟨x,t,rfl,rfl⟩
  . rcases xH g with⟨j,u,rfl,e⟩ | ⟨y,u,rfl,e⟩
    . injection e with d _;rw[d]
    . exact nomatch e
  . rcases xH g with⟨j,u,rfl,e⟩ | ⟨y,u,rfl,e⟩
    . exact nomatch e
    . injection e with d _;rw[d]
 byValue:=fun k v h=>by rcases xH h with⟨i,t,rfl,rfl⟩ | ⟨x,t,rfl,rfl⟩<;>rfl
 pyHash:=fun f h=>by
  rcases xH f with⟨i,t,rfl,rfl⟩ | ⟨x,t,rfl,rfl⟩
  . exact wpAny_pyHash_int h
  . exact wpAny_pyHash_str h
 eqBool:=fun m f h=>by
  rcases xH m with⟨i,t,rfl,rfl⟩ | ⟨x,t,rfl,rfl⟩
  . rcases xH f with⟨j,u,rfl,rfl⟩ | ⟨y,u,rfl,rfl⟩
    . rw[h8]at h;exact wpAny_eqBool_int h
    . rw[T6]at h;exact SeqAt.EqAt.int_str i t y u _ _ _ _ h
  . rcases xH f with⟨j,u,rfl,rfl⟩ | ⟨y,u,rfl,rfl⟩
    . rw[V6]at h;exact SeqAt.EqAt.str_int x t j u _ _ _ _ h
    . rw[W6]at h;exact wpAny_eqBool_str h
 «strs»:=fun k x t v h=>by
  rcases xH h with⟨i,u,rfl,e⟩ | ⟨y,u,rfl,e⟩
  . exact nomatch e
  . injection e with d _
    subst d;cases v<;>rfl
theorem Vx(prog:Oo)(w:O4)(i:Int)(t:Tok):(KE prog w).is (.inl i) (.int i t)=true:=bw i t
theorem Wx(prog:Oo)(w:O4)(x:Str)(t:Tok):(KE prog w).is (.inr x) (.str x t)=true:=dw x t
inductive V where
 | non | bl (b:Bool) | int (i:Int) | str (x:Str) | byt (b:Array UInt8) | flt (b:UInt64) | ref (a:Addr) | ty (n:String)
 deriving DecidableEq
noncomputable def qf:V->Mu->Prop
 | .non,u=>u=Value.none
 | .bl b,u=>u=Value.bool b
 | .int i,u=>∃t,u=Value.int i t
 | .str x,u=>∃t,u=Value.str x t
 | .byt b,u=>∃t,u=Value.bytes b t
 | .flt b,u=>∃t,u=Value.float b t
 | .ref a,u=>u=Value.ref a
 | .ty n,u=>u=Value.type n
abbrev p3:Ms V->Ms Mu->Prop:=Paired qf
theorem p3.length{xs:Ms V}{us:Ms Mu}(r:p3 xs us):xs.length=us.length:=Paired.length r
theorem p3.get:∀{xs:Ms V}{us:Ms Mu}{i:Nat}{x:V},p3 xs us->xs[i]?=ε x->∃u,us[i]?=ε u/\qf x u
 | _,_,_,_,.nil,e=>by simp at e
 | _,_,0,_,.cons r _,e=>by simp at e;subst e;exact⟨_,rfl,r⟩
 | _,_,i+1,x,.cons _ t,e=>by obtain⟨u,b,a⟩:=p3.get (i:=i) (x:=x) t (by simpa using e);exact⟨u,by simpa using b,a⟩
theorem p3.set{x:V}{u:Mu}(r:qf x u):∀{xs:Ms V}{us:Ms Mu}(i:Nat),p3 xs us->p3 (xs.set i x) (us.set i u)
 | _,_,_,.nil=>.nil
 | _,_,0,.cons _ t=>.cons r t
 | _,_,i+1,.cons q t=>.cons q (p3.set r i t)
theorem p3.append:∀{xs ys:Ms V}{us a:Ms Mu},p3 xs us->p3 ys a->p3 (xs++ys) (us++a)
 | _,_,_,_,.nil,s=>s
 | _,_,_,_,.cons r t,s=>.cons r (p3.append t s)
theorem p3.take:∀{xs:Ms V}{us:Ms Mu}(n:Nat),p3 xs us->p3 (xs.take n) (us.take n)
 | _,_,0,_=>.nil
 | _,_,_+1,.nil=>.nil
 | _,_,n+1,.cons r t=>.cons r (p3.take n t)
theorem p3.drop:∀{xs:Ms V}{us:Ms Mu}(n:Nat),p3 xs us->p3 (xs.drop n) (us.drop n)
 | _,_,0,r=>r
 | _,_,_+1,.nil=>.nil
 | _,_,n+1,.cons _ t=>p3.drop n t
def af:Ni V->Ni Mu->Prop
 | some v,some u=>qf v u
 | none,none=>True
 | _,_=>False
def KV{a:Type}:Ms (a×V)->Ms (a×Mu)->Prop:=Paired fun(p:a×V) (q:a×Mu)=>p.1=q.1/\qf p.2 q.2
noncomputable def kV:fC->V
 | .inl i=>.int i
 | .inr x=>.str x
inductive HO where
 | lst (xs:List V)
 | tup (xs:List V)
 | dK (kvs:List (fC×V)) | dT (kvs:List (List fC×V))
 | set (S:Int->Bool) (n:Nat)
 | ins (C dx:Addr) (fs:List (Str×V))
 | own (x:Addr)
 | xd (fs:List (Str×V))
 | met (f x:Addr)
 | rng (lo hi:Int)
 | frz (o:Obj) (u:HO)
 | tbl (ps:Array Value)
 | ext (φ:Heap->Prop)
noncomputable abbrev Hp:=Oa->Ni HO
noncomputable def xB(H:Hp)(a:Oa)(o:HO):Hp:=fun b=>if b=a then ε o else H b
theorem AC{H:Hp}{a:Oa}{o:HO}:xB H a o a=ε o:=by unfold xB;rw[dh rfl]
theorem WA{H:Hp}{a b:Oa}{o:HO}(h:b≠a):xB H a o b=H b:=by unfold xB;rw[dG h]
theorem BV{H:Hp}{a b:Oa}{o u:HO}(h:H a=ε o)(h':H b=ε u)(d:o≠u):a≠b:=by intro e;subst e;rw[h]at h';exact d (nW h')
theorem kD{H:Hp}{a b:Oa}{o:HO}(h:H a=ε o)(h':H b=none):a≠b:=by intro e;subst e;rw[h]at h';cases h'
section
variable(P:Oo)(w:O4)
def Xa(H:Hp)(h:Pu)(a:Oa):HO->Prop
 | .lst e=>e.length<=sizeLine/\∃(d:Ms Mu) (n:Nat),p3 e d/\h.get? a=ε { cls:=.type "list",data:=.seq d.toArray n }
 | .tup e=>e.length<=sizeLine/\∃d:Ms Mu,p3 e d/\IsTup h a d.toArray
 | .dK b=>b.length<=sizeLine/\(a==sysModules)=false/\∃k,KV b k/\h.DictOf (KE P w) a k
 | .dT b=>b.length<=sizeLine/\(a==sysModules)=false/\∃e:Ms (Ms fC×Oa×Mu),
  Paired (fun(p:Ms fC×V) (q:Ms fC×Oa×Mu)=>p.1=q.1/\H q.2.1=ε (.tup (p.1.map kV))/\qf p.2 q.2.2) b e/\
  ∃o s E,h.get? a=ε o/\o.ExactDict/\o.data=.dict s E/\s.toList=e.map (entryOfKey (tupleKind (KE P w)))/\(e.map (·.1)).Nodup
 | .set S n=>h.SetOf (intKind P w) a S n
 | .ins C i fs=>H i=ε (.own a)/\fs.length<=1000/\i≠a/\h.get? a=ε (PySem.W.instObj C i)/\
  ∃g,h.Ns1 i g/\(∀f,af (fs.lookup f) (g f))/\PySem.Within g (fs.map (·.1))
 | .own _=>∃o,h.get? a=ε o
 | .xd fs=>∃g,h.Ns1 a g/\∀f,af (fs.lookup f) (g f)
 | .rng B D=>∃t u v,h.get? a=ε { cls:=.type "range",data:=.fields #[.int B t,.int D u,.int 1 v] }
 | .frz o u=>h.get? a=ε o/\Xa H h a u
 | .tbl y=>h.get? a=ε { cls:=.none,data:=.fields y }
 | .met f x=>h.get? a=ε (PySem.W.methodObj (.ref f) (.ref x))
 | .ext j=>j h/\(∃o,h.get? a=ε o)/\∀r m:Pu,j r->(∀o,r.get? a=ε o->m.get? a=ε o)->j m
def rg(H:Hp)(h:Pu):Prop:=∀a o,H a=ε o->Xa P w H h a o
end
section
variable{P:Oo}{w:O4}{H g:Hp}{h h':Pu}{a:Oa}{o:HO}
theorem Xa.lt(x:Xa P w H h a o):a<h.objs.size:=by
 cases o with
 | lst d=>obtain⟨_,_,_,_,e⟩:=x;exact fu e
 | tup d=>obtain⟨_,_,_,p⟩:=x;exact p.lt
 | dK b=>obtain⟨_,_,_,_,o,_,_,e,_⟩:=x;exact fu e
 | dT b=>obtain⟨_,_,_,_,o,_,_,e,_⟩:=x;exact fu e
 | set S n=>obtain⟨o,_,_,_,e,_⟩:=x;exact fu e
 | ins C q fs=>obtain⟨_,_,_,e,_⟩:=x;exact fu e
 | own y=>obtain⟨_,e⟩:=x;exact fu e
 | xd fs=>obtain⟨_,⟨_,_,_,e,_⟩,_⟩:=x;exact fu e
 | rng k m=>obtain⟨_,_,_,e⟩:=x;exact fu e
 | frz ob u=>obtain⟨e,_⟩:=x;exact fu e
 | tbl j=>exact fu (show h.get? a=ε _ from x)
 | met f y=>exact fu (show h.get? a=ε _ from x)
 | ext i=>obtain⟨_,⟨_,e⟩,_⟩:=x;exact fu e
theorem Paired.zdt{j i:Type}{F G:j->i->Prop}:∀{e:Ms j}{d:Ms i},Paired F e d->(∀a b,F a b->G a b)->Paired G e d
 | _,_,.nil,_=>.nil
 | _,_,.cons r t,f=>.cons (f _ _ r) (Paired.zdt t f)
theorem Xa.stay(x:Xa P w H h a o)(k:∀b u,(b=a\/H b=ε (.own a))->h.get? b=ε u->h'.get? b=ε u)
 (J:∀b,H b=ε (.own a)->g b=ε (.own a)) (I:∀b s,H b=ε (.tup s)->g b=ε (.tup s)):Xa P w g h' a o:=by
 induction o with
 | lst s=>obtain⟨z,m,n,r,e⟩:=x;exact⟨z,m,n,r,k _ _ (.inl rfl) e⟩
 | tup s=>obtain⟨z,m,r,ob,e,c⟩:=x;exact⟨z,m,r,ob,k _ _ (.inl rfl) e,c⟩
 | dK E=>obtain⟨z,y,G,r,ob,i,j,e,c⟩:=x;exact⟨z,y,G,r,ob,i,j,k _ _ (.inl rfl) e,c⟩
 | dT E=>obtain⟨z,y,s,r,ob,i,j,e,c⟩:=x;exact⟨z,y,s,Paired.zdt r fun p q z=>⟨z.1,I _ _ z.2.1,z.2.2⟩,ob,i,j,k _ _ (.inl rfl) e,c⟩
 | set S n=>obtain⟨ob,i,j,t,e,c⟩:=x;exact⟨ob,i,j,t,k _ _ (.inl rfl) e,c⟩
 | ins C Q fs=>obtain⟨d,z,ne,e,D,⟨B,i,j,e2,c⟩,r⟩:=x;exact⟨J _ d,z,ne,k _ _ (.inl rfl) e,D,⟨B,i,j,k _ _ (.inr d) e2,c⟩,r⟩
 | own y=>obtain⟨ob,e⟩:=x;exact⟨ob,k _ _ (.inl rfl) e⟩
 | xd fs=>obtain⟨D,⟨B,i,j,e,c⟩,r⟩:=x;exact⟨D,⟨B,i,j,k _ _ (.inl rfl) e,c⟩,r⟩
 | rng M O=>obtain⟨t,u,v,e⟩:=x;exact⟨t,u,v,k _ _ (.inl rfl) e⟩
 | frz ob u ih=>obtain⟨e,q⟩:=x;exact⟨k _ _ (.inl rfl) e,ih q⟩
 | tbl F=>have e:h.get? a=ε { cls:=.none,data:=.fields F }:=x;show h'.get? a=ε { cls:=.none,data:=.fields F };exact k a _ (.inl rfl) e
 | met f y=>have e:h.get? a=ε (PySem.W.methodObj (.ref f) (.ref y)):=x;show h'.get? a=ε (PySem.W.methodObj (.ref f) (.ref y));exact k a _ (.inl rfl) e
 | ext L=>obtain⟨p,⟨o,e⟩,st⟩:=x;exact⟨st _ _ p fun o q=>k _ _ (.inl rfl) q,⟨o,k _ _ (.inl rfl) e⟩,st⟩
theorem rg.lt(x:rg P w H h)(e:H a=ε o):a<h.objs.size:=(x a o e).lt
theorem rg.fresh(x:rg P w H h)(e:h.objs.size<=a):H a=none:=by
 cases q:H a with
 | none=>rfl
 | some u=>exact Ci (ji (x.lt q) e) (Du _)
theorem rg.kept(x:rg P w H h)(k:∀b u,h.get? b=ε u->h'.get? b=ε u):rg P w H h':=fun a o e=>(x a o e).stay (fun b u _ q=>k b u q) (fun _ q=>q) fun _ _ q=>q
theorem rg.laid(x:rg P w H h)(k:∀b u,h.get? b=ε u->h'.get? b=ε u)(i:h.objs.size<=a)(new:Xa P w (xB H a o) h' a o):rg P w (xB H a o) h':=fun b u e=>by
 have d:=x.fresh i;by_cases f:b=a
 . subst f;rw[AC]at e;cases e;exact new
 . rw[WA f]at e;exact(x b u e).stay (fun c v _ q=>k c v q) (fun c q=>by rw[WA (kD q d)];exact q) fun c j q=>by rw[WA (kD q d)];exact q
end
def Rd(H:Hp)(a:Oa)(u:HO):Prop:=H a=ε u\/∃o,H a=ε (.frz o u)
theorem Rd.ok{P:Oo}{w:O4}{H:Hp}{h:Pu}{a:Oa}{u:HO}(r:Rd H a u)(x:rg P w H h):Xa P w H h a u:=by
 rcases r with r | ⟨o,r⟩
 . exact x a u r
 . obtain⟨_,q⟩:=x a _ r;exact q
noncomputable def RV:Ni HO->Prop
 | some (.lst _)=>True
 | some (.dK _)=>True
 | some (.dT _)=>True
 | some (.set _ _)=>True
 | some (.ins _ _ _)=>True
 | some (.ext _)=>True
 | _=>False
section
variable{P:Oo}{w:O4}{H:Hp}{h h':Pu}{x e:Oa}{a:HO}
theorem rg.write(ok:rg P w H h)(i:RV (H x))(he:e=x\/H e=ε (.own x))(k:∀b u,b≠e->h.get? b=ε u->h'.get? b=ε u)(n:∃u,h'.get? e=ε u)
 (new:Xa P w (xB H x a) h' x a):rg P w (xB H x a) h':=fun b u q=>by
 have f:∀c y,H c=ε (.own y)->c≠x:=fun c y r z=>by subst z;rw[r]at i;exact i
 have m:∀c g,H c=ε (.tup g)->c≠x:=fun c g r z=>by subst z;rw[r]at i;exact i
 by_cases j:b=x
 . subst j;rw[AC]at q;cases q;exact new
 . rw[WA j]at q;by_cases d:b=e
   . have o:H b=ε (.own x):=by
      rcases he with z | z
      . exact Ci (d.trans z) j
      . rw[d];exact z
     rw[q]at o;cases o;obtain⟨v,p⟩:=n;exact⟨v,by rw[d];exact p⟩
   . refine(ok b u q).stay (fun c v hc r=>k c v ?_ r) (fun c r=>by rw[WA (f c b r)];exact r) fun c g r=>by rw[WA (m c g r)];exact r
     rcases hc with rfl | hc
     . exact d
     . rintro rfl;rcases he with z | z
       . exact f c b hc z
       . rw[hc]at z;cases z;exact j rfl
end
structure Un(fs ex:List Addr)(H H':Hp)(h h':Heap):Prop where
 keep:∀b o,h.get? b=ε o->H b=none->b∉fs->b∉ex->h'.get? b=ε o
 slot:∀b o,h.get? b=ε o->H b=none->b∈fs->b∉ex->∃sl,h'.get? b=ε { o with slots:=sl }
 free:∀b o,h.get? b=ε o->H b=none->b∉ex->H' b=none
 there:∀b o,h.get? b=ε o->b∉ex->∃o',h'.get? b=ε o'
 tups:∀b xs,H b=ε (.tup xs)->H' b=ε (.tup xs)
 bp:∀b o u,H b=ε (.frz o u)->H' b=ε (.frz o u)
 bt:∀b ps,H b=ε (.tbl ps)->∃more,H' b=ε (.tbl (ps++more))
section
variable{fs fs' ex ex':Ms Oa}{H H1 H2:Hp}{h h1 h2 h':Pu}{a x e:Oa}{o:HO}
theorem Un.any(u:Un fs ex H H1 h h1){b:Oa}{ob:Obj}(q:h.get? b=ε ob)(n:H b=none)(d:b∉ex):∃g,h1.get? b=ε { ob with slots:=g }:=by
 by_cases f:b∈fs
 . exact u.slot b ob q n f d
 . exact⟨ob.slots,u.keep b ob q n f d⟩
theorem Un.kept(k:∀b u,h.get? b=ε u->h'.get? b=ε u):Un fs ex H H h h':=
 ⟨fun b ob q _ _ _=>k b ob q,fun b ob q _ _ _=>⟨ob.slots,k b ob q⟩,fun _ _ _ n _=>n,fun b ob q _=>⟨ob,k b ob q⟩,fun _ _ q=>q,fun _ _ _ q=>q,fun _ d q=>⟨#[],by rw[q];simp⟩⟩
theorem Un.refl:Un fs ex H H h h:=Un.kept fun _ _ q=>q
theorem Un.laid(k:∀b u,h.get? b=ε u->h'.get? b=ε u)(g:h.objs.size<=a)(d:H a=none):Un fs ex H (xB H a o) h h' where
 keep:=fun b u q _ _ _=>k b u q
 slot:=fun b u q _ _ _=>⟨u.slots,k b u q⟩
 free:=fun b u q n _=>by rw[WA (ni (ji (fu q) g))];exact n
 there:=fun b u q _=>⟨u,k b u q⟩
 tups:=fun b f q=>by rw[WA (kD q d)];exact q
 bp:=fun b u f q=>by rw[WA (kD q d)];exact q
 bt:=fun b i q=>⟨#[],by rw[WA (kD q d),q];simp⟩
theorem Un.write(f:RV (H x))(he:e=x\/H e=ε (.own x))(k:∀b u,b≠e->h.get? b=ε u->h'.get? b=ε u)(i:∃u,h'.get? e=ε u):Un fs ex H (xB H x o) h h':=by
 have j:∀b,H b=none->b≠x:=fun b n z=>by subst z;rw[n]at f;exact f
 have m:∀b,H b=none->b≠e:=fun b n z=>by
  subst z;rcases he with r | r
  . exact j b n r
  . rw[n]at r;cases r
 have g:∀b u,H b=ε u->¬RV (ε u)->b≠x:=fun b u q s z=>by subst z;rw[q]at f;exact s f
 refine⟨fun b u q n _ _=>k b u (m b n) q,fun b u q n _ _=>⟨u.slots,k b u (m b n) q⟩,fun b u q n _=>by rw[WA (j b n)];exact n,fun b u q _=>?_,
  fun b p q=>by rw[WA (g b _ q fun z=>z)];exact q,fun b u p q=>by rw[WA (g b _ q fun z=>z)];exact q,fun b y q=>⟨#[],by rw[WA (g b _ q fun z=>z),q];simp⟩⟩
 by_cases d:b=e
 . subst d;exact i
 . exact⟨u,k b u d q⟩
end
noncomputable def D4(h:Pu)(H:Hp):Ms Oa:=(List.range h.objs.size).filter fun a=>(H a).isSome
def qH(h:Pu)(H:Hp):Pu:=PySem.W.hideAll h (D4 h H)
theorem Kw(h:Pu)(H:Hp):(qH h H).objs.size=h.objs.size:=PySem.W.hideAll_size _ _
theorem Qh{h:Pu}{H:Hp}{b:Oa}{o:Obj}(e:h.get? b=ε o)(n:H b=none):(qH h H).get? b=ε o:=
 PySem.W.hideAll_get _ e fun a=>by have q:(H b).isSome=true:=(mem_filter.mp a).2;rw[n]at q;simp at q
theorem Yt{h:Pu}{H:Hp}{b:Oa}{o:Obj}(e:(qH h H).get? b=ε o):h.get? b=ε o/\H b=none:=by
 have a:h.get? b=ε o:=PySem.W.of_hideAll (D4 h H) e;refine⟨a,?_⟩;cases q:H b with
 | none=>rfl
 | some x=>have d:b∈D4 h H:=mem_filter.mpr ⟨Ai.mpr (fu a),by simp[q]⟩;have z:(qH h H).get? b=none:=PySem.W.hideAll_none (D4 h H) d;rw[z]at e;cases e
noncomputable def Hf(g h:Pu)(L:Oa):Ms (Oa×Obj):=(List.range h.objs.size).filterMap fun a=>if a=L\/(g.get? a).isSome=true then none else(h.get? a).map fun o=>(a,o)
def rest(g h:Pu)(L d:Oa):Ms (Oa×Obj):=(Hf g h L).filter fun p=>decide (p.1≠d)
structure Mod(K:Frag)(mg:Str->Option Value)(base:Heap):Prop where
 kin:K.In base
 glob:base.Ns mainGlobals mg
 blt:∃mb,base.Ns builtinsNs mb/\∀x:Str,x ≠ "__name__" ->mb x=bootBuiltins x
 nolimit:base.NoLimit
structure Cx where
 prog:Program
 w:World
 K:Frag
 mg:Str->Option Value
 base:Heap
 A:Around
 N:List Str
 s₀:Shared
 H₀:Hp
 env:Env
 outer:List Env
 stack:List Env
 ex:List Addr
 fn:Str->Bool
 calm:Bool
 pn:List (Addr×Obj)
 xe:Value->Shared->Prop
noncomputable def bL(l:Ms Env):Ms Oa:=l.filterMap (·.frame)
abbrev Cx.fs(X:Cx):Ms Oa:=bL X.outer
def X3(a:Scope)(x:Str):Prop:=a.names.lookup x=ε .local\/a.names.lookup x=ε .cell\/a.names.lookup x=ε .free
def aQ(a:Scope)(x:Str):Prop:=a.names.lookup x=ε .local\/a.names.lookup x=ε .cell
def J4(env:Env)(h:Pu)(m:Str->Ni Mu)(x:Str)(u:Mu):Prop:=
 (env.kindOf x=ε .local/\m x=ε u)\/((env.kindOf x=ε .cell\/env.kindOf x=ε .free)/\∃c,env.cells.lookup x=ε c/\h.IsCell c (ε u))
structure Cx.Ok(X:Cx):Prop where
 mod:Mod X.K X.mg X.base
 kind:X.env.scope.kind=.function
 glob:X.env.globals=mainGlobals
 blt:X.env.builtins=builtinsNs
 above:X.s₀.heap.objs.size<=X.env.locals
 inj:∀x y c,X.env.cells.lookup x=ε c->X.env.cells.lookup y=ε c->x=y
 has:∀x,(X.env.kindOf x=ε .cell\/X.env.kindOf x=ε .free)->∃c,X.env.cells.lookup x=ε c
 cab:∀x c,X.fn x=true->X.env.cells.lookup x=ε c->X.s₀.heap.objs.size<=c
 hd:X.calm=true->X.A.handled=none
 frames:X.A.frames=ε X.stack
 stk:X.stack=X.outer\/(X.stack=X.env::X.outer/\X.env.frame=ε X.env.locals)
 exf:∀b∈X.ex,b≠X.env.locals/\∀x c,X.env.cells.lookup x=ε c->c≠b
 bs:∀b o,X.base.get? b=ε o->X.s₀.heap.get? b=ε o/\X.H₀ b=none
 bsz:X.base.objs.size<=X.s₀.heap.objs.size
 de:∀b o,X.base.get? b=ε o->b∉X.ex
 di:∀b∈X.ex,b∉X.fs
 ax:X.s₀.heap.FunFrames X.base X.outer
 frf:∀b∈X.fs,X.H₀ b=none
structure py(X:Cx)(pins:List (Addr×Obj))(σ:List (Option V))(H:Hp)(s:Shared):Prop where
 ok:X.Ok
 os:s.os=X.s₀.os
 bare:AllBare s.gens
 base:Un X.fs X.ex X.H₀ H X.s₀.heap s.heap
 loc:∃m,s.heap.Ns X.env.locals m/\∀(i:Nat)(x:Str)(v:V),X.N[i]?=ε x->σ[i]?=ε (ε v)->X3 X.env.scope x->∃u,qf v u/\J4 X.env s.heap m x u
 cell:∀x c,X.env.cells.lookup x=ε c->∃v,s.heap.IsCell c v
 free:H X.env.locals=none
 bg:∀x c,X.env.cells.lookup x=ε c->H c=none
 pin:∀p∈X.pn++pins,s.heap.get? p.1=ε p.2/\H p.1=none/\p.1≠X.env.locals/\p.1∉X.fs/\∀v,p.2.data≠.cell v
 hok:rg X.prog X.w H s.heap
 len:σ.length=X.N.length
section
variable{X:Cx}{f:Ms (Oa×Obj)}{g:Ms (Ni V)}{H w:Hp}{s:Nu}{h':Pu}
theorem Cx.Ok.ml(ok:X.Ok){b:Oa}{o:Obj}(e:X.base.get? b=ε o):b∉X.fs:=fun a=>by have:=(ok.ax.mem a).1;rw[e]at this;cases this
theorem py.bs(I:py X f g H s):∀b o,X.base.get? b=ε o->s.heap.get? b=ε o/\H b=none:=fun b o e=>⟨I.base.keep b o (I.ok.bs b o e).1 (I.ok.bs b o e).2 (I.ok.ml e) (I.ok.de b o e),I.base.free b o (I.ok.bs b o e).1 (I.ok.bs b o e).2 (I.ok.de b o e)⟩
theorem py.bk(I:py X f g H s):∀b o,X.base.get? b=ε o->s.heap.get? b=ε o:=fun b o e=>(I.bs b o e).1
theorem py.mod(I:py X f g H s):Mod X.K X.mg X.base:=I.ok.mod
theorem py.kIn(I:py X f g H s):X.K.In s.heap:=I.ok.mod.kin.keeps I.bk
theorem py.lt(I:py X f g H s):X.env.locals<s.heap.objs.size:=let ⟨_,hn,_⟩:=I.loc;hn.lt
theorem py.sz(I:py X f g H s):X.s₀.heap.objs.size<=s.heap.objs.size:=n7 I.ok.above (Bs I.lt)
theorem py.mo(I:py X f g H s){a:Oa}(h:s.heap.objs.size<=a):a∉X.fs:=fun d=>by obtain⟨_,o,b,_⟩:=I.ok.ax.mem d;exact Ci (ji (fu b) (n7 I.sz h)) (Du _)
theorem py.cne(I:py X f g H s):∀x c,X.env.cells.lookup x=ε c->c≠X.env.locals:=fun x c e z=>by obtain⟨v,o,d,hd⟩:=I.cell x c e;obtain⟨m,⟨h,i,j,a,b,_⟩,_⟩:=I.loc;rw[z,a]at d;cases d;rw[b]at hd;cases hd
theorem py.ax(I:py X f g H s):s.heap.FunFrames X.base X.outer:=by
 have all:∀(l:Ms Env),(∀b∈bL l,b∈X.fs)->X.s₀.heap.FunFrames X.base l->s.heap.FunFrames X.base l:=by
  intro l
  induction l with
  | nil=>intro _ _;trivial
  | cons env r ih=>
   intro hs m;obtain⟨n,⟨L,o,a,k,j,hd⟩,i⟩:=m;have h:L∈X.fs:=hs L (by unfold bL;rw[filterMap_cons,a];exact qd);obtain⟨p,e⟩:=I.base.slot L o j (I.ok.frf L h) h fun z=>I.ok.di L z h
   exact⟨n,⟨L,_,a,k,e,hd⟩,ih (fun b d=>hs b (by unfold bL;rw[filterMap_cons,a];exact m8 _ d)) i⟩
 exact all X.outer (fun _ d=>d) I.ok.ax
theorem py.stack(I:py X f g H s):s.heap.FunFrames X.base X.stack:=by
 rcases I.ok.stk with e | ⟨e,b⟩
 . rw[e];exact I.ax
 . rw[e];obtain⟨m,a,_⟩:=I.loc;refine .cons (by rw[I.ok.kind];decide) b a ?_ I.ax;exact Heap.get?_none_of_le (n7 I.ok.bsz I.ok.above)
theorem py.fg(I:py X f g H s):∀b∈bL X.stack,b∈X.env.locals::X.fs:=fun b a=>by
 rcases I.ok.stk with e | ⟨e,d⟩
 . rw[e]at a;exact m8 _ a
 . rw[e]at a;unfold bL at a;rw[filterMap_cons,d]at a;exact a
theorem py.g7(I:py X f g H s):∀b∈bL X.stack,H b=none:=fun b hb=>by
 rcases zu.mp (I.fg b hb)with e | hb
 . rw[e];exact I.free
 . obtain⟨_,o,a,_⟩:=I.ok.ax.mem hb;exact I.base.free b o a (I.ok.frf b hb) fun z=>I.ok.di b z hb
theorem py.step{g':Pb GenState}{t':Nat}{d':Drawn}{ch:Ms Oa}(I:py X f g H s)
 (j:∀b∈ch,(b∈X.ex\/X.s₀.heap.objs.size<=b)/\b≠X.env.locals/\(∀x c,X.env.cells.lookup x=ε c->c≠b)/\∀p∈X.pn++f,p.1≠b)
 (keep:∀b o,b≠X.env.locals->b∉X.fs->b∉ch->s.heap.get? b=ε o->H b=none->h'.get? b=ε o)
 (slot:∀b o,b≠X.env.locals->b∈X.fs->b∉ch->s.heap.get? b=ε o->H b=none->∃P,h'.get? b=ε { o with slots:=P }) (free:∀b o,b∉ch->s.heap.get? b=ε o->H b=none->w b=none)
 (there:∀b o,b∉ch->s.heap.get? b=ε o->∃G,h'.get? b=ε G)
 (tups:∀b D,H b=ε (.tup D)->w b=ε (.tup D)) (bp:∀b o u,H b=ε (.frz o u)->w b=ε (.frz o u)) (bt:∀b M,H b=ε (.tbl M)->∃L,w b=ε (.tbl (M++L)))
 (ns:∀m,s.heap.Ns X.env.locals m->h'.Ns X.env.locals m) (hok:rg X.prog X.w w h') (hg:AllBare g') :
 py X f g w { s with heap:=h',gens:=g',drawn:=d',toks:=t' }:=by
 have J:∀b o,X.s₀.heap.get? b=ε o->b≠X.env.locals:=fun b o e=>ni (ji (fu e) I.ok.above)
 have B:∀b o,X.s₀.heap.get? b=ε o->b∉X.ex->b∉ch:=fun b o e a E=>by
  rcases(j b E).1 with z | z
  . exact a z
  . exact Ci (ji (fu e) z) (Du _)
 have y:∀x c,X.env.cells.lookup x=ε c->∀v,s.heap.IsCell c v->h'.IsCell c v:=fun x c e v T=>by
  obtain⟨o,F,hd⟩:=T;have h:c∉ch:=fun z=>(j c z).2.2.1 x c e rfl
  by_cases S:c∈X.fs
  . obtain⟨P,q⟩:=slot c o (I.cne x c e) S h F (I.bg x c e);exact⟨_,q,hd⟩
  . exact⟨o,keep c o (I.cne x c e) S h F (I.bg x c e),hd⟩
 refine⟨I.ok,I.os,hg,⟨fun b o e n E a=>?_,fun b o e n E a=>?_,fun b o e n a=>?_,fun b o e a=>?_,fun b D e=>tups b D (I.base.tups b D e),fun b o D e=>bp b o D (I.base.bp b o D e),fun b M e=>?_⟩,?_,fun x c e=>?_,?_,fun x c e=>?_,fun p R=>?_,hok,I.len⟩
 . exact keep b o (J b o e) E (B b o e a) (I.base.keep b o e n E a) (I.base.free b o e n a)
 . obtain⟨P,C⟩:=I.base.slot b o e n E a;obtain⟨O,e2⟩:=slot b _ (J b o e) E (B b o e a) C (I.base.free b o e n a);exact⟨O,e2⟩
 . obtain⟨G,C⟩:=I.base.there b o e a;exact free b G (B b o e a) C (I.base.free b o e n a)
 . obtain⟨G,C⟩:=I.base.there b o e a;exact there b G (B b o e a) C
 . obtain⟨W,C⟩:=I.base.bt b M e;obtain⟨U,e2⟩:=bt b _ C;exact⟨W++U,by rw[e2,Array.append_assoc]⟩
 . obtain⟨m,Y,Z⟩:=I.loc;refine⟨m,ns m Y,fun i x v C e2 e3=>?_⟩;obtain⟨u,r,l⟩:=Z i x v C e2 e3;refine⟨u,r,?_⟩;rcases l with l | ⟨k,c,e,z⟩
   . exact .inl l
   . exact .inr ⟨k,c,e,y x c e _ z⟩
 . obtain⟨v,z⟩:=I.cell x c e;exact⟨v,y x c e v z⟩
 . obtain⟨m,⟨o,_,_,F,_⟩,_⟩:=I.loc;exact free _ o (fun z=>(j _ z).2.1 rfl) F I.free
 . obtain⟨v,o,F,hd⟩:=I.cell x c e;exact free c o (fun z=>(j c z).2.2.1 x c e rfl) F (I.bg x c e)
 . obtain⟨e,n,ne,Q,d⟩:=I.pin p R;have h:p.1∉ch:=fun z=>(j p.1 z).2.2.2 p R rfl
   exact⟨keep p.1 p.2 ne Q h e n,free p.1 p.2 h e n,ne,Q,d⟩
theorem py.un{t':Nat}(I:py X f g H s)(u:Un X.fs [] H w s.heap h')(hok:rg X.prog X.w w h'):py X f g w { s with heap:=h',toks:=t' }:=by
 obtain⟨m,⟨o,C,D,j,r⟩,_⟩:=id I.loc;obtain⟨x,q⟩:=u.any j I.free ⋯;exact I.step (g':=s.gens) (d':=s.drawn) (ch:=[]) (fun _ z=>nomatch z) (fun b o _ d _ e n=>u.keep b o e n d ⋯) (fun b o _ d _ e n=>u.slot b o e n d ⋯) (fun b o _ e n=>u.free b o e n ⋯) (fun b o _ e=>u.there b o e ⋯) u.tups u.bp u.bt (fun B p=>by
  obtain⟨y,h,i,a,k⟩:=p;rw[j]at a;cases a;exact⟨_,h,i,q,k⟩) hok I.bare
theorem py.call{g':Pb GenState}{t':Nat}{d':Drawn}{ch:Ms Oa}(I:py X f g H s)(u:Un (bL X.stack) ch H w s.heap h')(hok:rg X.prog X.w w h')(C:AllBare g')
 (h:∀b∈ch,(b∈X.ex\/X.s₀.heap.objs.size<=b)/\b≠X.env.locals/\(∀x c,X.env.cells.lookup x=ε c->c≠b)/\∀p∈X.pn++f,p.1≠b) :
 py X f g w { s with heap:=h',gens:=g',drawn:=d',toks:=t' }:=by
 obtain⟨m,⟨o,J,L,q,r⟩,_⟩:=id I.loc;obtain⟨E,i⟩:=u.any q I.free fun z=>(h _ z).2.1 rfl
 exact I.step (ch:=ch) h (fun b o i D a e n=>u.keep b o e n (fun z=>(zu.mp (I.fg b z)).elim i D) a) (fun b o _ _ a e n=>u.any e n a) (fun b o a e n=>u.free b o e n a) (fun b o a e=>u.there b o e a) u.tups u.bp u.bt (fun G B=>by
  obtain⟨F,j,k,d,y⟩:=B;rw[q]at d;cases d;exact⟨_,j,k,i,y⟩) hok C
theorem py.turned{t':Nat}{it:Oa}(I:py X f g H s)(k:∀b o,b≠it->s.heap.get? b=ε o->h'.get? b=ε o)(j:H it=none)(h:it≠X.env.locals)
 (h1:it∈X.ex\/X.s₀.heap.objs.size<=it) (h2:∀x c,X.env.cells.lookup x=ε c->c≠it) (C:∀p∈X.pn++f,p.1≠it):py X f g H { s with heap:=h',toks:=t' }:=by
 have d:∀b u,H b=ε u->b≠it:=fun b u e z=>by rw[z,j]at e;cases e
 refine I.step (g':=s.gens) (d':=s.drawn) (ch:=[it]) (fun b B=>?_) (fun b o _ _ a e _=>k b o (fun z=>a (by simp[z])) e) (fun b o _ _ a e _=>⟨o.slots,k b o (fun z=>a (by simp[z])) e⟩) (fun _ _ _ _ n=>n)
  (fun b o a e=>⟨o,k b o (fun z=>a (by simp[z])) e⟩) (fun _ _ e=>e) (fun _ _ _ e=>e) (fun b F e=>⟨#[],by rw[e];simp⟩) (fun m y=>?_) (fun b u e=>?_) I.bare
 . have e:b=it:=by simpa using B
   subst e;exact⟨h1,h,h2,C⟩
 . obtain⟨o,D,E,i,r⟩:=y;exact⟨o,D,E,k _ o (m5 h) i,r⟩
 . refine(I.hok b u e).stay (fun c v a q=>k c v ?_ q) (fun _ q=>q) fun _ _ q=>q
   rcases a with z | z
   . rw[z];exact d b u e
   . exact d c _ z
theorem py.tok(I:py X f g H s)(t:Nat):py X f g H { s with toks:=t }:=I.un (h':=s.heap) (t':=t) Un.refl I.hok
theorem py.kept{t':Nat}(I:py X f g H s)(k:∀b u,s.heap.get? b=ε u->h'.get? b=ε u):py X f g H { s with heap:=h',toks:=t' }:=I.un (Un.kept k) (I.hok.kept k)
theorem py.laid{a:Oa}{o:HO}{t':Nat}(I:py X f g H s)(k:∀b u,s.heap.get? b=ε u->h'.get? b=ε u)(d:s.heap.objs.size<=a)(new:Xa X.prog X.w (xB H a o) h' a o) :
 py X f g (xB H a o) { s with heap:=h',toks:=t' }:=I.un (Un.laid k d (I.hok.fresh d)) (I.hok.laid k d new)
theorem py.write{x e:Oa}{o:HO}{t':Nat}(I:py X f g H s)(d:RV (H x))(he:e=x\/H e=ε (.own x))(k:∀b u,b≠e->s.heap.get? b=ε u->h'.get? b=ε u)(a:∃u,h'.get? e=ε u)
 (new:Xa X.prog X.w (xB H x o) h' x o):py X f g (xB H x o) { s with heap:=h',toks:=t' }:=I.un (Un.write d he k a) (I.hok.write d he k a new)
theorem py.hE{a:Ms (Oa×Obj)}(I:py X f g H s)(h:∀p∈a,s.heap.get? p.1=ε p.2/\H p.1=none/\p.1≠X.env.locals/\p.1∉X.fs/\∀v,p.2.data≠.cell v):py X a g H s:=
 ⟨I.ok,I.os,I.bare,I.base,I.loc,I.cell,I.free,I.bg,fun p b=>(Aa.mp b).elim (fun z=>I.pin p (uq _ z)) (h p),I.hok,I.len⟩
theorem qY{N:Ms Str}(d:N.Nodup){i j:Nat}{x:Str}(a:N[i]?=ε x)(b:N[j]?=ε x):i=j:=by obtain⟨k,e⟩:=Uo a;obtain⟨h,e2⟩:=Uo b;exact(getElem_inj d).mp (e.trans e2.symm)
theorem iY{M:Model}{A:Pa}{E:Mu->Nu->Prop}{i:Nat}{x:Str}{v:V}{u:Mu}{Q:Unit->Nu->Prop}(I:py X f g H s)(hN:X.N.Nodup)(P:X.N[i]?=ε x)(C:aQ X.env.scope x)(r:qf v u)
 (h:∀s',py X f (g.set i (ε v)) H s'->(∃a,Heap.SameBut a s.heap s'.heap/\(a=X.env.locals\/X.env.cells.lookup x=ε a))->Q () s') (hf:autoParam (X.fn x=true\/X.env.scope.names.lookup x=ε .local) ð):wpAny M A (storeName X.env x u) Q E s:=by
 obtain⟨m,hn,hl⟩:=id I.loc;have R:(X.env.scope.kind==.class || (X.env.scope.kind==.module&&X.env.locals !=X.env.globals))=false:=by rw[I.ok.kind];rfl
 have F:i<g.length:=by rw[I.len];exact(Uo P).1
 have cne:=I.cne;have tracked:∀{a:Oa}{h':Pu},(∃o,s.heap.get? a=ε o/\H a=none)->Heap.SameBut a s.heap h'->rg X.prog X.w H h':=fun {a h'} ha hs b ob e=>by
  obtain⟨_,_,D⟩:=ha;refine(I.hok b ob e).stay (fun c U hc q=>(hs.2 c ?_).trans q) (fun _ q=>q) fun _ _ q=>q
  rintro rfl;rcases hc with rfl | hc
  . rw[D]at e;cases e
  . rw[D]at hc;cases hc
 rcases C with hk | hk
 . refine wpAny_storeName_local hk hn (fun h' a1 hs=>?_) R;obtain⟨oL,_,_,a0,_⟩:=id hn;refine h _ ⟨I.ok,I.os,I.bare,⟨fun b o e n L C=>?_,fun b o e n L C=>?_,I.base.free,fun b o e C=>?_,I.base.tups,I.base.bp,I.base.bt⟩,⟨_,a1,fun j y Z B e2 e3=>?_⟩,fun y c e=>?_,I.free,I.bg,fun p hp=>?_,tracked ⟨oL,a0,I.free⟩ hs,by simpa using I.len⟩ ⟨_,hs,.inl rfl⟩
   . exact(hs.2 b (ni (ji (fu e) I.ok.above))).trans (I.base.keep b o e n L C)
   . obtain⟨sl,B⟩:=I.base.slot b o e n L C;exact⟨sl,(hs.2 b (ni (ji (fu e) I.ok.above))).trans B⟩
   . obtain⟨o',B⟩:=I.base.there b o e C;exact⟨o',(hs.2 b (ni (ji (fu e) I.ok.above))).trans B⟩
   . by_cases G:j=i
     . subst G;rw[P]at B;cases B;rw[ou F]at e2;cases e2;exact⟨u,r,.inl ⟨hk,by simp⟩⟩
     . rw[ju (m5 G)]at e2;obtain⟨u',r',q⟩:=hl j y Z B e2 e3;refine⟨u',r',?_⟩;rcases q with⟨k,e⟩ | ⟨k,c,e,z⟩
       . refine .inl ⟨k,?_⟩;have:y≠x:=fun e=>G (qY hN B (e ▸ P))
         simp[this,e]
       . exact .inr ⟨k,c,e,z.sameBut hs (cne y c e)⟩
   . obtain⟨U,z⟩:=I.cell y c e;exact⟨U,z.sameBut hs (cne y c e)⟩
   . obtain⟨e,n,ne,nf,d⟩:=I.pin p hp;exact⟨(hs.2 p.1 ne).trans e,n,ne,nf,d⟩
 . have J:X.fn x=true:=by
    rcases hf with z | z
    . exact z
    . rw[z]at hk;cases hk
   obtain⟨c,hc⟩:=I.ok.has x (.inl hk);obtain⟨U,z⟩:=I.cell x c hc;refine wpAny_storeName_cell I.ok.kind hk hc z (fun h' T hs=>?_);obtain⟨oc,O,Y⟩:=id z;refine h { s with heap:=h' } ⟨I.ok,I.os,I.bare,⟨fun b o e n L C=>?_,fun b o e n L C=>?_,I.base.free,fun b o e C=>?_,I.base.tups,I.base.bp,I.base.bt⟩,⟨m,hn.sameBut hs (m5 (cne x c hc)),fun j y Z B e2 e3=>?_⟩,fun y W e=>?_,I.free,I.bg,fun p hp=>?_,tracked ⟨oc,O,I.bg x c hc⟩ hs,by simpa using I.len⟩ ⟨c,hs,.inr hc⟩
   . exact(hs.2 b (ni (ji (fu e) (I.ok.cab x c J hc)))).trans (I.base.keep b o e n L C)
   . obtain⟨sl,B⟩:=I.base.slot b o e n L C;exact⟨sl,(hs.2 b (ni (ji (fu e) (I.ok.cab x c J hc)))).trans B⟩
   . obtain⟨o',B⟩:=I.base.there b o e C;exact⟨o',(hs.2 b (ni (ji (fu e) (I.ok.cab x c J hc)))).trans B⟩
   . by_cases G:j=i
     . subst G;rw[P]at B;cases B;rw[ou F]at e2;cases e2;exact⟨u,r,.inr ⟨.inl hk,c,hc,T⟩⟩
     . rw[ju (m5 G)]at e2;obtain⟨u',r',q⟩:=hl j y Z B e2 e3;refine⟨u',r',?_⟩;rcases q with q | ⟨k,W,e,z'⟩
       . exact .inl q
       . refine .inr ⟨k,W,e,z'.sameBut hs ?_⟩;rintro rfl;exact G (qY hN B (I.ok.inj _ _ _ e hc ▸ P))
   . by_cases S:W=c
     . subst S;exact⟨_,T⟩
     . obtain⟨w2,z2⟩:=I.cell y W e;exact⟨w2,z2.sameBut hs S⟩
   . obtain⟨e,n,ne,nf,d⟩:=I.pin p hp;refine⟨(hs.2 p.1 ?_).trans e,n,ne,nf,d⟩;intro q;rw[q,O]at e;have q':oc=p.2:=nW e;exact d U (by rw[<- q'];exact Y)
theorem kZ{M:Model}{A:Pa}{E:Mu->Nu->Prop}{i:Nat}{x:Str}{v:V}{u:Mu}{Q:Unit->Nu->Prop}(I:py X f g H s)(j:X.N.Nodup)(d:X.N[i]?=ε x)(b:aQ X.env.scope x)(r:qf v u)
 (h:∀a,py X f (g.set i (ε v)) H a->Q () a) (e:autoParam (X.fn x=true\/X.env.scope.names.lookup x=ε .local) ð):wpAny M A (storeName X.env x u) Q E s:=
 iY I j d b r (fun a k _=>h a k) e
theorem py.call'{s':Nu}{ch:Ms Oa}(I:py X f g H s)(h:s'.os=s.os)(u:Un (bL X.stack) ch H w s.heap s'.heap)(hok:rg X.prog X.w w s'.heap)(i:AllBare s'.gens)
 (a:∀b∈ch,(b∈X.ex\/X.s₀.heap.objs.size<=b)/\b≠X.env.locals/\(∀x c,X.env.cells.lookup x=ε c->c≠b)/\∀p∈X.pn++f,p.1≠b):py X f g w s':=by
 obtain⟨h',g',d',t',d⟩:=s';have e:d=s.os:=h;subst e;exact I.call (g':=g') (t':=t') (d':=d') u hok i a
end
abbrev XK:=Mu->Ni Oa->Hp->Prop
noncomputable abbrev St:=Ms (Ni V)
abbrev VK:=V->Hp->Prop
abbrev TE:=St->Hp->VK->Prop
abbrev TT:=St->Hp->(Bool->Hp->Prop)->Prop
abbrev TA:=St->Hp->(Ms V->Hp->Prop)->Prop
structure zI where
 nx:St->Hp->Prop
 rt:VK
 bk:St->Hp->Prop:=fun _ _=>False
 ct:St->Hp->Prop:=fun _ _=>False
abbrev TS:=zI->St->Hp->Prop
def EP(X:Cx)(a:Ms (Oa×Obj))(d:St)(Q:VK)(u:Mu)(e:Nu):Prop:=∃v b,py X a d b e/\qf v u/\Q v b
def TP(X:Cx)(a:Ms (Oa×Obj))(e:St)(Q:Bool->Hp->Prop)(b:Bool)(f:Nu):Prop:=∃d,py X a e d f/\Q b d
def AP(X:Cx)(a:Ms (Oa×Obj))(e:St)(Q:Ms V->Hp->Prop)(us:Ms Mu)(f:Nu):Prop:=∃b d,py X a e d f/\p3 b us/\Q b d
def SP(X:Cx)(b:Ms (Oa×Obj))(D:zI)(f:Flow)(e:Nu):Prop:=
 match f with
 | .next=>∃a d,py X b a d e/\D.nx a d
 | .brk=>∃a d,py X b a d e/\D.bk a d
 | .cont=>∃a d,py X b a d e/\D.ct a d
 | .ret u=>∃v a d,py X b a d e/\qf v u/\D.rt v d
def PE(X:Cx)(e:Oe)(t:TE):Prop:=
 ∀(a:Ms (Oa×Obj))(s:Nu)(b:St)(H:Hp)(Q:VK),py X a b H s->t b H Q->wpAny (model X.prog X.w) X.A (eval e X.env) (EP X a b Q) X.xe s
def PT(X:Cx)(e:Oe)(t:TT):Prop:=
 ∀(a:Ms (Oa×Obj))(s:Nu)(b:St)(H:Hp)(Q:Bool->Hp->Prop),py X a b H s->t b H Q->wpAny (model X.prog X.w) X.A (isTrue e X.env (eval e X.env)) (TP X a b Q) X.xe s
def PW(X:Cx)(e:Oe)(t:TT):Prop:=
 ∀(b:Sem Mu)(a:Ms (Oa×Obj))(s:Nu)(d:St)(H:Hp)(Q:Bool->Hp->Prop),py X a d H s->t d H Q->wpAny (model X.prog X.w) X.A (isTrue e X.env b) (TP X a d Q) X.xe s
theorem PW.pt{X:Cx}{e:Oe}{t:TT}(h:PW X e t):PT X e t:=h _
def PA(X:Cx)(d:Ms Oe)(t:TA):Prop:=
 ∀(pos:Pos)(a:Ms (Oa×Obj))(s:Nu)(b:St)(H:Hp)(Q:Ms V->Hp->Prop),py X a b H s->t b H Q->wpAny (model X.prog X.w) X.A (spliced (backTo pos (starEach d X.env))) (AP X a b Q) X.xe s
def PS(X:Cx)(st:Ou)(t:TS):Prop:=
 ∀(a:Ms (Oa×Obj))(s:Nu)(b:St)(H:Hp)(D:zI),py X a b H s->t D b H->wpAny (model X.prog X.w) X.A (exec st X.env) (SP X a D) X.xe s
def PSs(X:Cx)(st:Ms Ou)(t:TS):Prop:=
 ∀(a:Ms (Oa×Obj))(s:Nu)(b:St)(H:Hp)(D:zI),py X a b H s->t D b H->wpAny (model X.prog X.w) X.A (execs st X.env) (SP X a D) X.xe s
theorem vB{b:Type}{t:Sem b}{Q d:b->Nu->Prop}{M:Model}{A:Pa}{E:Mu->Nu->Prop}{s:Nu}(h:wpAny M A t Q E s)(e:∀a s,Q a s->d a s):wpAny M A t d E s:=Gu h e fun _ _ x=>x
section
variable{X:Cx}
theorem bin{a b:Oe}{k g:TE}(J:PE X a k)(G:PE X b g){d:Ms (Oa×Obj)}{s:Nu}{e:St}{H:Hp}{R:V->V->Hp->Prop}(I:py X d e H s)(h:k e H fun x p=>g e p fun y i=>R x y i)
 {q:Type} {Q:q->Nu->Prop} {f:Mu->Mu->Sem q}
 (F:∀v u n x y i,py X d e i n->qf x v->qf y u->R x y i->wpAny (model X.prog X.w) X.A (f v u) Q X.xe n) :
 wpAny (model X.prog X.w) X.A (eval a X.env) (fun v m=>wpAny (model X.prog X.w) X.A (eval b X.env) (fun u j=>wpAny (model X.prog X.w) X.A (f v u) Q X.xe j) X.xe m) X.xe s:=by
 refine vB (J d s e H _ I h) fun v r o=>?_
 obtain⟨x,p,M,C,E⟩:=o;refine vB (G d r e p _ M E) fun u n o=>?_
 obtain⟨y,i,L,B,D⟩:=o;exact F v u n x y i L C B D
noncomputable def w6(i:Nat):TE:=fun a H Q=>∃v,a[i]?=ε (ε v)/\Q v H
noncomputable def tC(v:V):TE:=fun _ H Q=>Q v H
theorem N6 {i:Nat} {x:Str} {pos:Pos} (q:X.N[i]?=ε x) (k:X3 X.env.scope x) (hd:autoParam ((x==("__debug__" :Str))=false) Ñ) (f:autoParam ((x==("__classdict__" :Str))=false) Ñ):PE X (.Name x pos) (w6 i):=by
 intro d s j H Q I h;obtain⟨v,e,h⟩:=h;obtain⟨m,n,p⟩:=I.loc;obtain⟨u,r,l⟩:=p i x v q e k;have b:EP X d j Q u s:=⟨v,H,I,r,h⟩;rcases l with⟨hk,o⟩ | ⟨hk,c,g,a⟩
 . exact wpAny_Name (wpAny_loadName_local I.ok.kind hk n o b) hd
 . rcases hk with hk | hk
   . exact wpAny_Name (wpAny_loadName_cell I.ok.kind hk g a b) hd
   . exact wpAny_Name (wpAny_loadName_free I.ok.kind hk g a b f) hd
theorem J6{i j pos}:PE X (.Constant (.int i) j pos) (tC (.int i)):=fun _ _ _ H _ I h=>wpAny_Constant_int ⟨.int i,H,I.tok _,⟨_,rfl⟩,h⟩
theorem Bj{b j pos}:PE X (.Constant (.bool b) j pos) (tC (.bl b)):=fun _ _ _ H _ I h=>Constant_bool ⟨.bl b,H,I,rfl,h⟩
theorem K6{j pos}:PE X (.Constant .none j pos) (tC .non):=fun _ _ _ H _ I h=>Constant_none ⟨.non,H,I,rfl,h⟩
theorem M6{x j pos}:PE X (.Constant (.str x) j pos) (tC (.str x)):=fun _ _ _ H _ I h=>Calls.Constant_str ⟨.str x,H,I.tok _,⟨_,rfl⟩,h⟩
def Gl(X:Cx)(x:Str):Prop:=X.env.kindOf x=ε .globalImplicit
theorem vU{E:Mu->Nu->Prop}{a:Ms (Oa×Obj)}{s:Nu}{b:St}{H:Hp}{x:Str}{u:Mu}{pos:Pos}{Q:Mu->Nu->Prop}(I:py X a b H s)(e:Gl X x)(d:X.mg x=ε u)(h:Q u s)
 (hd:autoParam ((x==("__debug__" :Str))=false) Ñ):wpAny (model X.prog X.w) X.A (eval (.Name x pos) X.env) Q E s:=
 Calls.Name_function_global I.ok.kind e (Calls.loadGlobal_global (by rw[I.ok.glob];exact I.mod.glob.keeps I.bk) d h) hd
theorem EG{E:Mu->Nu->Prop}{a:Ms (Oa×Obj)}{s:Nu}{b:St}{H:Hp}{x:Str}{u:Mu}{pos:Pos}{Q:Mu->Nu->Prop}(I:py X a b H s)(g:Gl X x)(f:X.mg x=none)(d:bootBuiltins x=ε u)(h:Q u s)
 (e:autoParam (x ≠ "__name__" ) Ñ) (hd:autoParam ((x==("__debug__" :Str))=false) Ñ):wpAny (model X.prog X.w) X.A (eval (.Name x pos) X.env) Q E s:=by
 obtain⟨k,j,i⟩:=I.mod.blt;exact Calls.Name_function_global I.ok.kind g (Calls.loadGlobal_builtin (by rw[I.ok.glob];exact I.mod.glob.keeps I.bk) f (by rw[I.ok.blt];exact j.keeps I.bk) ((i x e).trans d) h) hd
theorem Ub {x:Str} {v:V} {u:Mu} {pos:Pos} (b:Gl X x) (a:X.mg x=ε u) (r:qf v u) (hd:autoParam ((x==("__debug__" :Str))=false) Ñ):PE X (.Name x pos) (tC v):=
 fun _ _ _ H _ I h=>vU I b a ⟨v,H,I,r,h⟩ hd
theorem yr {x:Str} {v:V} {u:Mu} {pos:Pos} (e:Gl X x) (d:X.mg x=none) (a:bootBuiltins x=ε u) (r:qf v u) (b:autoParam (x ≠ "__name__" ) Ñ) (hd:autoParam ((x==("__debug__" :Str))=false) Ñ):PE X (.Name x pos) (tC v):=
 fun _ _ _ H _ I h=>EG I e d a ⟨v,H,I,r,h⟩ b hd
variable{a b:Oe}{k g:TE}{pos:Pos}
def PC(X:Cx)(op:CmpOp)(a b:Oe)(t:TE):Prop:=
 ∀(d:Ms (Oa×Obj))(s:Nu)(h:St)(H:Hp)(Q:VK),py X d h H s->t h H Q->
  wpAny (model X.prog X.w) X.A (eval a X.env) (fun v f=>wpAny (model X.prog X.w) X.A (eval b X.env) (fun u e=>wpAny (model X.prog X.w) X.A (compareOp op v u) (EP X d h Q) X.xe e) X.xe f) X.xe s
noncomputable def tB(t:TE):TT:=fun d H Q=>t d H fun x e=>∃c,x=.bl c/\Q c e
theorem D6{op:CmpOp}{t:TE}(h:PC X op a b t)(h1:behindInMarks op b=false:=by first | exact mr _ (by decide) (by decide) | rfl):PE X (.Compare a [op] [b] pos) t:=fun d s e H Q I hw=>wpAny_Compare1 (h d s e H Q I hw) h1
theorem oe{op:CmpOp}{t:TE}(h:PC X op a b t)(h1:behindInMarks op b=false:=by first | exact mr _ (by decide) (by decide) | rfl):PT X (.Compare a [op] [b] pos) (tB t):=by intro e s f H Q I hw;refine wpAny_isTrue_Compare1 (vB (h e s f H _ I hw) fun v B h1=>vB h1 fun u y n=>vB n fun c r i=>?_) h1;obtain⟨x,p,o,j,m⟩:=i;obtain⟨d,rfl,q⟩:=m;cases j;exact Eo ⟨p,o,q⟩
theorem h9{e:Oe}{t:TE}(h:PE X e t)(he:autoParam (∀f,isTrue e X.env f=(do let v <- f;standAt e.pos;holding [v] (truthy v))) å):PT X e (tB t):=by intro i s j H Q I hw;refine isTrue_plain (vB (h i s j H _ I hw) fun v u m=>?_) (he _);obtain⟨x,r,p,n,o⟩:=m;obtain⟨d,rfl,q⟩:=o;cases n;exact Eo ⟨r,p,q⟩
variable{n o:TT}{rest:Ms Oe}
noncomputable def W5(t u:TT):TT:=fun d H Q=>t d H fun c e=>if c=true then u d e Q else Q false e
noncomputable def Tp(t u:TT):TT:=fun d H Q=>t d H fun c e=>if c=true then Q true e else u d e Q
noncomputable def j6(t:TT):TT:=fun d H Q=>t d H fun c e=>Q (!c) e
theorem Wn(i:PT X a n):PW X (.BoolOp .And [a] pos) n:=by
 intro j d s f H Q I h;refine isTrue_and (vB (i d s f H Q I h) fun c m e=>?_);cases c with
 | true=>exact isTrue_and_nil e
 | false=>exact e
theorem j9(i:PT X a n):PW X (.BoolOp .Or [a] pos) n:=by
 intro j d s f H Q I h;refine isTrue_or (vB (i d s f H Q I h) fun c m e=>?_);cases c with
 | false=>exact isTrue_or_nil e
 | true=>exact e
theorem i9(u:PT X a n)(r:PW X (.BoolOp .And (b::rest) pos) o):PW X (.BoolOp .And (a::b::rest) pos) (W5 n o):=by
 intro p d s e H Q I h;refine isTrue_and (vB (u d s e H _ I h) fun c q m=>?_);obtain⟨j,i,f⟩:=m;cases c with
 | true=>exact r p d q e j Q i f
 | false=>exact⟨j,i,f⟩
theorem Fj(u:PT X a n)(r:PW X (.BoolOp .Or (b::rest) pos) o):PW X (.BoolOp .Or (a::b::rest) pos) (Tp n o):=by
 intro p d s e H Q I h;refine isTrue_or (vB (u d s e H _ I h) fun c q m=>?_);obtain⟨j,i,f⟩:=m;cases c with
 | true=>exact⟨j,i,f⟩
 | false=>exact r p d q e j Q i f
theorem g9(f:PT X a n):PT X (.UnaryOp .Not a pos) (j6 n):=by intro d s e H Q I h;exact isTrue_not (f d s e H (fun c i=>Q (!c) i) I h)
noncomputable def F9(k g:TE):TE:=fun d H Q=>k d H fun x e=>∃c,x=.bl c/\if c=true then g d e Q else Q (.bl false) e
noncomputable def l6(k g:TE):TE:=fun d H Q=>k d H fun x e=>∃c,x=.bl c/\if c=true then Q (.bl true) e else g d e Q
theorem L6{op}{t:TE}(h:PE X a t):PE X (.BoolOp op [a] pos) t:=fun d s e H Q I hw=>BoolOp_one (h d s e H Q I hw)
theorem C6(u:PE X a k)(r:PE X (.BoolOp .And (b::rest) pos) g):PE X (.BoolOp .And (a::b::rest) pos) (F9 k g):=by
 intro d s f H Q I h;refine BoolOp_and (vB (u d s f H _ I h) fun v p m=>?_);obtain⟨x,j,i,q,e⟩:=m;obtain⟨c,rfl,e⟩:=e;cases q;refine Eo ?_;cases c with
 | true=>exact r d p f j Q i e
 | false=>exact⟨.bl false,j,i,rfl,e⟩
theorem Dj(u:PE X a k)(r:PE X (.BoolOp .Or (b::rest) pos) g):PE X (.BoolOp .Or (a::b::rest) pos) (l6 k g):=by
 intro d s f H Q I h;refine BoolOp_or (vB (u d s f H _ I h) fun v p m=>?_);obtain⟨x,j,i,q,e⟩:=m;obtain⟨c,rfl,e⟩:=e;cases q;refine Eo ?_;cases c with
 | false=>exact r d p f j Q i e
 | true=>exact⟨.bl true,j,i,rfl,e⟩
noncomputable def Mp(t:TT)(k g:TE):TE:=fun d H Q=>t d H fun c e=>if c=true then k d e Q else g d e Q
theorem jg{c:Oe}(r:PT X c n)(x:PE X a k)(u:PE X b g):PE X (.IfExp c a b pos) (Mp n k g):=by
 intro e s f H Q I h;refine wpAny_IfExp (vB (r e s f H _ I h) fun d i q=>?_);obtain⟨p,m,j⟩:=q;cases d with
 | true=>exact x e i f p Q m j
 | false=>exact u e i f p Q m j
end
def qq(K:Oi)(H:Hp)(a:Oa)(xs:Ms V):Prop:=
 Rd H a (.lst xs)\/
  ∃(o:Obj) (b:Pb Mu) (n:Nat),K.lookup a=ε o/\o.cls=.type "list" /\ o.dict=none/\o.data=.seq b n/\b.size<=sizeLine/\p3 xs b.toList
def nH(K:Oi)(H:Hp)(a:Oa)(xs:Ms V):Prop:=
 Rd H a (.tup xs)\/
  ∃(o:Obj) (b:Pb Mu) (n:Nat),K.lookup a=ε o/\o.cls=.type "tuple" /\ o.data=.seq b n/\b.size<=sizeLine/\p3 xs b.toList
noncomputable def Q4:Mu->Ni V
 | .none=>ε .non
 | .bool b=>ε (.bl b)
 | .int i _=>ε (.int i)
 | .str x _=>ε (.str x)
 | .bytes b _=>ε (.byt b)
 | .float b _=>ε (.flt b)
 | .ref a=>ε (.ref a)
 | .type n=>ε (.ty n)
 | _=>none
theorem qf.abs{x:V}{u:Mu}(r:qf x u):Q4 u=ε x:=by
 cases x with
 | non=>cases r;rfl
 | bl _=>cases r;rfl
 | int _=>obtain⟨t,rfl⟩:=r;rfl
 | str _=>obtain⟨t,rfl⟩:=r;rfl
 | byt _=>obtain⟨t,rfl⟩:=r;rfl
 | flt _=>obtain⟨t,rfl⟩:=r;rfl
 | ref _=>cases r;rfl
 | ty _=>cases r;rfl
theorem qf.inj{x y:V}{u:Mu}(r:qf x u)(q:qf y u):x=y:=nW (r.abs.symm.trans q.abs)
theorem p3.inj:∀{xs ys:Ms V}{us:Ms Mu},p3 xs us->p3 ys us->xs=ys
 | _,_,_,.nil,.nil=>rfl
 | _,_,_,.cons r t,.cons r' t'=>by rw[r.inj r',p3.inj t t']
section
variable{X:Cx}{b:Ms (Oa×Obj)}{c:St}{H:Hp}{s:Nu}{a:Oa}{xs ys:Ms V}
theorem qq.of{K:Oi}(h:H a=ε (.lst xs)):qq K H a xs:=.inl (.inl h)
theorem py.list(I:py X b c H s)(h:qq X.K H a xs):∃d:Ms Mu,p3 xs d/\PlainL s.heap a d.toArray/\xs.length<=sizeLine:=by
 rcases h with h | ⟨o,d,n,f,g,hd,hs,i,r⟩
 . obtain⟨z,d,n,r,e⟩:=h.ok I.hok;exact⟨d,r,⟨_,n,e,rfl,rfl,rfl⟩,z⟩
 . refine⟨d.toList,r,⟨o,n,I.kIn a o f,g,hd,by simpa using hs⟩,?_⟩;have e:=r.length;simp![vo]at e;omega
theorem py.tuple(I:py X b c H s)(h:nH X.K H a xs):∃d:Ms Mu,p3 xs d/\IsTup s.heap a d.toArray/\xs.length<=sizeLine:=by
 rcases h with h | ⟨o,d,n,f,g,hs,i,r⟩
 . obtain⟨z,d,r,p⟩:=h.ok I.hok;exact⟨d,r,p,z⟩
 . refine⟨d.toList,r,⟨o,I.kIn a o f,g,n,by simpa using hs⟩,?_⟩;have e:=r.length;simp![vo]at e;omega
theorem py.dl(I:py X b c H s)(h:qq X.K H a xs)(h':qq X.K H a ys):xs=ys:=by
 obtain⟨f,r,⟨o,n,e,_,_,d⟩,_⟩:=I.list h;obtain⟨its',j,⟨m,p,g,_,_,i⟩,_⟩:=I.list h';rw[e]at g;cases g;rw[d]at i;injection i with k _
 have:f=its':=by simpa using congrArg Array.toList k
 subst this;exact r.inj j
theorem py.hF(I:py X b c H s)(h:nH X.K H a xs)(h':nH X.K H a ys):xs=ys:=by
 obtain⟨f,r,⟨o,e,_,n,d⟩,_⟩:=I.tuple h;obtain⟨its',j,⟨m,g,_,p,i⟩,_⟩:=I.tuple h';rw[e]at g;cases g;rw[d]at i;injection i with k _
 have:f=its':=by simpa using congrArg Array.toList k
 subst this;exact r.inj j
end
noncomputable abbrev Cx.wish(X:Cx)(E:Mu->Nu->Prop):Cx:={ X with xe:=E }
abbrev Cx.nox(X:Cx):Cx:=X.wish fun _ _=>False
theorem Cx.Ok.wish{X:Cx}(ok:X.Ok)(E:Mu->Nu->Prop):(X.wish E).Ok:=
 ⟨ok.mod,ok.kind,ok.glob,ok.blt,ok.above,ok.inj,ok.has,ok.cab,ok.hd,ok.frames,ok.stk,ok.exf,ok.bs,ok.bsz,ok.de,ok.di,ok.ax,ok.frf⟩
theorem Cx.Ok.bu{X:Cx}{E:Mu->Nu->Prop}(ok:(X.wish E).Ok):X.Ok:=
 ⟨ok.mod,ok.kind,ok.glob,ok.blt,ok.above,ok.inj,ok.has,ok.cab,ok.hd,ok.frames,ok.stk,ok.exf,ok.bs,ok.bsz,ok.de,ok.di,ok.ax,ok.frf⟩
section
variable{X:Cx}{a:Ms (Oa×Obj)}{b:St}{H:Hp}{s:Nu}{E:Mu->Nu->Prop}
theorem py.wish(I:py X a b H s)(E:Mu->Nu->Prop):py (X.wish E) a b H s:=⟨I.ok.wish E,I.os,I.bare,I.base,I.loc,I.cell,I.free,I.bg,I.pin,I.hok,I.len⟩
theorem py.bu(I:py (X.wish E) a b H s):py X a b H s:=⟨I.ok.bu,I.os,I.bare,I.base,I.loc,I.cell,I.free,I.bg,I.pin,I.hok,I.len⟩
theorem SP.bu{D:zI}{f:Flow}{s':Nu}(h:SP (X.wish E) a D f s'):SP X a D f s':=by
 cases f with
 | next=>obtain⟨d,e,I,q⟩:=h;exact⟨d,e,I.bu,q⟩
 | brk=>obtain⟨d,e,I,q⟩:=h;exact⟨d,e,I.bu,q⟩
 | cont=>obtain⟨d,e,I,q⟩:=h;exact⟨d,e,I.bu,q⟩
 | ret u=>obtain⟨v,d,e,I,r,q⟩:=h;exact⟨v,d,e,I.bu,r,q⟩
theorem PSs.nox{st:Ms Ou}{t:TS}(h:PSs X.nox st t):PSs X st t:=fun a s b H D I hw=>Gu (h a s b H D (I.wish _) hw) (fun _ _ q=>q.bu) fun _ _ z=>Ea z
end
section
variable{X:Cx}{st:Ou}{rest:Ms Ou}{t u:TS}{e:Oe}{te:TE}{pos:Pos}
noncomputable def O9:TS:=fun D a H=>D.nx a H
noncomputable def o6(t u:TS):TS:=fun D a H=>t { D with nx:=u D } a H
theorem Qn:PSs X [] O9:=fun _ _ a H _ I h=>wpAny_execs_nil ⟨a,H,I,h⟩
theorem Ag(h1:PS X st t)(h2:PSs X rest u):PSs X (st::rest) (o6 t u):=by
 intro a s d H D I h;refine wpAny_execs_cons (vB (h1 a s d H { D with nx:=u D } I h) fun f g q=>?_);cases f with
 | next=>obtain⟨b,j,i,q⟩:=q;exact h2 a g b j D i q
 | ret v=>exact q
 | brk=>exact q
 | cont=>exact q
theorem Rn(h1:PS X st t):PSs X [st] t:=by
 intro a s b H D I h;refine wpAny_execs_cons (vB (h1 a s b H D I h) fun f d q=>?_);cases f with
 | next=>exact wpAny_execs_nil q
 | ret v=>exact q
 | brk=>exact q
 | cont=>exact q
theorem py.quiet{a:Ms (Oa×Obj)}{b:St}{H:Hp}{s:Nu}(I:py X a b H s):interactive X.env=false:=by simp[interactive,I.ok.kind]
noncomputable def K9(te:TE):TS:=fun D a H=>te a H fun _ b=>D.nx a b
theorem Pn(he:PE X e te)(hs:autoParam (swapsWith e none pos.line X.env=pure false) Æ):PS X (.Expr e pos) (K9 te):=by intro a s b H D I h;exact wpAny_Expr_any (vB (he a s b H _ I h) fun v i ⟨x,g,f,j,d⟩=>⟨b,g,f,d⟩) I.quiet hs
noncomputable def n6(te:TE):TS:=fun D a H=>te a H D.rt
theorem e9(he:PE X e te):PS X (.Return (ε e) pos) (n6 te):=by intro a s b H D I h;exact wpAny_Return_some (vB (he a s b H _ I h) fun v j ⟨x,i,g,d,f⟩=>⟨x,b,i,g,d,f⟩)
noncomputable def i6(c:TT)(t u:TS):TS:=fun D a H=>c a H fun b d=>if b=true then t D a d else u D a d
theorem Ej{c:Oe}{a b:Ms Ou}{tc:TT}(o:PT X c tc)(q:PSs X a t)(p:PSs X b u):PS X (.If c a b pos) (i6 tc t u):=by
 intro f s g H D I h;refine wpAny_If (vB (o f s g H _ I h) fun d i n=>?_);obtain⟨m,k,j⟩:=n;cases d with
 | true=>exact q f i g m D k j
 | false=>exact p f i g m D k j
end
abbrev TG:=V->St->Hp->(St->Hp->Prop)->Prop
abbrev mQ:=Ms V->St->Hp->(St->Hp->Prop)->Prop
def PG(X:Cx)(a:Oe)(t:TG):Prop:=
 ∀(b:Ms (Oa×Obj))(s:Nu)(e:St)(H:Hp)(v:V)(u:Mu)(Q:St->Hp->Prop),py X b e H s->qf v u->t v e H Q->
  wpAny (model X.prog X.w) X.A (assign a X.env u) (fun _ g=>∃d f,py X b d f g/\Q d f) X.xe s
def V3(X:Cx)(h:Ms Oe)(t:mQ):Prop:=
 ∀(a:Ms (Oa×Obj))(s:Nu)(d:St)(H:Hp)(e:Ms V)(f:Ms Mu)(Q:St->Hp->Prop),py X a d H s->p3 e f->t e d H Q->
  wpAny (model X.prog X.w) X.A (assignInOrder ((assignEach h X.env).map (·.2)) f) (fun _ i=>∃b g,py X a b g i/\Q b g) X.xe s
abbrev nQ:=V->V->V->Hp->(Hp->Prop)->Prop
def SV(X:Cx)(t:nQ):Prop:=
 ∀(a:Ms (Oa×Obj))(s:Nu)(b:St)(H:Hp)(o i v:V)(d e u:Mu)(Q:Hp->Prop),py X a b H s->qf o d->qf i e->qf v u->t o i v H Q->
  wpAny (model X.prog X.w) X.A (setItem d e u) (fun _ g=>∃f,py X a b f g/\Q f) X.xe s
section
variable{X:Cx}{pos:Pos}
noncomputable def KP(i:Nat):TG:=fun v a H Q=>Q (a.set i (ε v)) H
theorem AU{i:Nat}{x:Str}(f:X.N.Nodup)(d:X.N[i]?=ε x)(b:aQ X.env.scope x)(e:autoParam (X.fn x=true\/X.env.scope.names.lookup x=ε .local) ð):PG X (.Name x pos) (KP i):=by intro a s j H v u Q I r h;exact wpAny_assign_Name (kZ I f d b r (fun k g=>⟨_,H,g,h⟩) e)
noncomputable def X4:mQ:=fun b a H Q=>b=[]/\Q a H
noncomputable def o8(t:TG)(u:mQ):mQ:=fun d b H Q=>∃v r,d=v::r/\t v b H fun a e=>u r a e Q
theorem Yb:V3 X [] X4:=by intro a s b H d f Q I r h;obtain⟨e,h⟩:=h;subst e;cases r;exact assignInOrder_nil ⟨b,H,I,h⟩
theorem dZ{e:Oe}{b:Ms Oe}{t:TG}{u:mQ}(h1:PG X e t)(h2:V3 X b u)
 (hs:autoParam ((assignEach (e::b) X.env).map (·.2)=assign e X.env::(assignEach b X.env).map (·.2)) Æ):V3 X (e::b) (o8 t u):=by
 intro a s f H p x Q I r h;obtain⟨v,q,m,h⟩:=h;subst m;cases r with
 | cons r j=>rw[hs];refine assignInOrder_cons (vB (h1 a s f H _ _ _ I r h) fun _ i g=>?_);obtain⟨d,o,n,k⟩:=g;exact h2 a i d o _ _ Q n j k
noncomputable def Z4(K:Oi)(n:Nat)(t:mQ):TG:=fun v d H Q=>∃a b,v=.ref a/\nH K H a b/\b.length=n/\t b d H Q
theorem Q6{f:Ms Oe}{k:Nat}{t:mQ}{n:Nat}(D:X.calm=true)(h:V3 X f t)
 (B:autoParam ((assignEach f X.env).length=n) Æ) (g:autoParam ((assignEach f X.env).findIdx? (·.1)=none) Æ):PG X (.Tuple f k pos) (Z4 X.K n t):=by
 intro d s i H v u Q I r hw;obtain⟨a,m,F,y,C,hw⟩:=hw;subst F;cases r;obtain⟨p,j,x,J⟩:=I.tuple y;refine assign_Tuple_tuple (I.ok.hd D) x (by simp[B,<- C,j.length]) g fun E q=>?_
 have G:py X d i H { s with heap:=E }:=I.kept (t':=s.toks) fun b o e=>q b o (ni (fu e)) e
 exact h d _ i H m _ Q G (by simpa using j) hw
noncomputable def Y4(b d:TE)(t:nQ):TG:=fun v a H Q=>b a H fun o g=>d a g fun i f=>t o i v f fun e=>Q a e
theorem P6{o i:Oe}{g j:TE}{t:nQ}(D:PE X o g)(E:PE X i j)(hs:SV X t)
 (F:∀v,assign (.Subscript o i pos) X.env v=(do
  let b <- holding [v] (eval o X.env)
  let e <- holding [v,b] (eval i X.env)
  standAt pos
  holding [v,b,e] (setItem b e v)
  release [v,b,e] []):=by intro _;rfl):PG X (.Subscript o i pos) (Y4 g j t):=by
 intro a s f H v u Q I r h;rw[F];refine ao (Ds (vB (D a s f H _ I h) fun b m d=>?_));obtain⟨x,P,L,p,C⟩:=d;refine ao (Ds (vB (E a m f P _ L C) fun e k d=>?_));obtain⟨y,O,J,n,B⟩:=d;refine ao (wpAny_standAt (ao (Ds (vB (hs a k f O x y v b e u _ J p n r B) fun _ R d=>?_))));obtain⟨M,G,q⟩:=d;exact wpAny_release ⟨f,M,G,q⟩
noncomputable def GQ(te:TE)(g:TG):TS:=fun D a H=>te a H fun x b=>g x a b D.nx
theorem Y8{b e:Oe}{te:TE}{g:TG}(he:PE X e te)(m:PG X b g)(hs:autoParam (swapsWithSole [b] e pos.line X.env=pure false) Æ)(hw:autoParam (swappedStores [b] e X.env=pure none) Æ)
 (h1:autoParam ((assignEach [b] X.env).map (·.2)=[assign b X.env]) Æ):PS X (.Assign [b] e pos) (GQ te g):=by
 intro a s d H D I h;refine wpAny_Assign_stores (vB (he a s d H _ I h) fun v i f=>?_) hs hw;obtain⟨x,o,n,j,k⟩:=f;rw[h1];exact vB (m a i d o x v _ n j k) fun _ p q=>q
theorem f9{i:Nat}{x:Str}{e:Oe}{te:TE}{a:Pos}(o:X.N.Nodup)(m:X.N[i]?=ε x)(k:aQ X.env.scope x)(he:PE X e te)(hs:autoParam (swapsWith e (ε (.Name x a)) pos.line X.env=pure false) Æ)(n:autoParam (X.fn x=true\/X.env.scope.names.lookup x=ε .local) ð) :
 PS X (.Assign [.Name x a] e pos) (GQ te (KP i)):=by
 intro b s d H D I h;refine wpAny_Assign_Name (vB (he b s d H _ I h) fun v B f=>?_) hs;obtain⟨y,r,q,g,j⟩:=f;exact kZ q o m k g (fun u p=>⟨_,r,p,j⟩) n
def B8(c:TT)(h:TS):TS:=fun D a H=>∃W:Nat->St->Hp->Prop,(∃m,W m a H)/\∀m a H,W m a H->
 c a H fun b f=>if b=true then ∃N:St->Hp->Prop,(∀d g,N d g->∃e,e<m/\W e d g)/\h { D with nx:=N,ct:=N,bk:=D.nx } a f else D.nx a f
theorem yg{c:Oe}{body:Ms Ou}{tc:TT}{u:TS}(x:PassesOwn (model X.prog X.w) X.A X.env X.xe)(R:PT X c tc)(S:PSs X body u):PS X (.While c body [] pos) (B8 tc u):=by
 intro d s G H D I h;obtain⟨W,⟨Q,w0⟩,turn⟩:=h;refine wpAny_While (codeAny_whileLoop (fun n P=>∃g F,py X d g F P/\W n g F) ?_ Q ⟨G,H,I,w0⟩);rintro n O ⟨e,E,T,L⟩;refine wpAny_passesOwn x (vB (R d O e E _ T (turn n e E L)) fun b M J=>?_);obtain⟨C,B,k⟩:=J;cases b with
 | true=>
  obtain⟨N,y,k⟩:=k;rw[dh rfl];refine wpAny_passesOwn x (vB (S d M e C _ B k) fun f U j=>?_);cases f with
  | next=>obtain⟨a,i,r,o⟩:=j;obtain⟨p,q,m⟩:=y a i o;exact⟨p,q,a,i,r,m⟩
  | cont=>obtain⟨a,i,r,o⟩:=j;obtain⟨p,q,m⟩:=y a i o;exact⟨p,q,a,i,r,m⟩
  | brk=>exact j
  | ret v=>exact j
 | false=>rw[dG Va];exact wpAny_execs_nil ⟨e,C,B,k⟩
end
structure It where
 go:Nat->Hp->Prop
 yld:Nat->Hp->V->Hp->Prop
 stop:Nat->Hp->Prop
def vF(X:Cx)(a:Ms (Oa×Obj))(H:Hp)(b:Oa):Prop:=
 H b=none/\b≠X.env.locals/\b∉X.fs/\(b∈X.ex\/X.s₀.heap.objs.size<=b)/\(∀x c,X.env.cells.lookup x=ε c->c≠b)/\∀p∈X.pn++a,p.1≠b
theorem py.bv{X:Cx}{a:Ms (Oa×Obj)}{g:St}{H f:Hp}{s:Nu}{b:Oa}(I:py X a g H s)(d:s.heap.objs.size<=b)(i:f b=none):vF X a f b:=by
 refine⟨i,Ce (ji I.lt d),I.mo d,.inr (n7 I.sz d),fun x c e z=>?_,fun p h z=>?_⟩
 . obtain⟨v,q⟩:=I.cell x c e;exact Ci (ji q.lt (by rw[z];exact d)) (Du _)
 . exact Ci (ji (fu (I.pin p h).1) (by rw[z];exact d)) (Du _)
structure pH(P:Program)(w:World)(K:Frag)(tg:Expr)(J:It)(fp:List Addr)(it:Addr)(tn:Nat->Heap->Prop):Prop where
 mem:it∈fp
 obj:∀i h,tn i h->∀b∈fp,∃o,h.get? b=ε o/\∀v,o.data≠.cell v
 keep:∀i h h',tn i h->(∀b∈fp,∀o,h.get? b=ε o->h'.get? b=ε o)->tn i h'
 item:∀(X:Cx),X.prog=P->X.w=w->X.K=K->X.calm=true->∀(i:Nat)(pins:List (Addr×Obj))(s:Shared)(σ:St)(H:Hp)(E:Value->Shared->Prop),py X pins σ H s->(∀b∈fp,vF X pins H b)->tn i s.heap->J.go i H->
  wpAny (model P w) X.A (pyNext (.ref it)) (fun r s1=>∃u,r=ε u/\
   wpAny (model P w) X.A (letOwnedTupleGo tg (.ref it) u) (fun _ s2=>∃x H',py X pins σ H' s2/\qf x u/\J.yld i H x H'/\tn (i+1) s2.heap/\∀b∈fp,H' b=none) E s1) E s
 done:∀(X:Cx),X.prog=P->X.w=w->X.K=K->X.calm=true->∀(i:Nat)(pins:List (Addr×Obj))(s:Shared)(σ:St)(H:Hp)(E:Value->Shared->Prop),py X pins σ H s->(∀b∈fp,vF X pins H b)->tn i s.heap->J.stop i H->
  wpAny (model P w) X.A (pyNext (.ref it)) (fun r s1=>r=none/\py X pins σ H s1) E s
 self:∀(A:Around)(i:Nat)(s:Shared)(Q:Value->Shared->Prop)(E:Value->Shared->Prop),tn i s.heap->Q (.ref it) s->wpAny (model P w) A (pyIter (.ref it)) Q E s
abbrev TI:=St->Hp->(It->Hp->Prop)->Prop
def N4(X:Cx)(a:Ms (Oa×Obj))(i:St)(j:Oe)(R:It->Hp->Prop)(d:Mu)(f:Nu):Prop:=
 ∃(g:Oa)(h:Ms Oa)(tn:Nat->Pu->Prop)(J:It)(e:Hp),d=.ref g/\py X a i e f/\pH X.prog X.w X.K j J h g tn/\tn 0 f.heap/\(∀b∈h,vF X a e b)/\R J e
def PI(X:Cx)(f b:Oe)(e:TI):Prop:=
 ∀(a:Ms (Oa×Obj))(s:Nu)(d:St)(H:Hp)(R:It->Hp->Prop),py X a d H s->e d H R->
  wpAny (model X.prog X.w) X.A (eval b X.env) (fun v g=>wpAny (model X.prog X.w) X.A (pyIter v) (N4 X a d f R) X.xe g) X.xe s
theorem MP{M:Model}{A:Pa}{E:Mu->Nu->Prop}{s:Nu}{b:Oe}{d:Oa}{u:Mu}{o:Obj}{n:String}{vs:Pb Mu}{Q:Unit->Nu->Prop}(e:s.heap.get? d=ε o)(g:o.cls=.type n)(hd:o.data=.fields vs)
 (f:["enumerate", "zip", "dict_itemiterator", "dict_reverseitemiterator", "odict_iterator", "itertools.zip_longest", "itertools.pairwise"].contains n=false) (a:Q () s):wpAny M A (letOwnedTupleGo b (.ref d) u) Q E s:=by
 unfold letOwnedTupleGo;cases b<;>first
  | exact au a
  | (cases u<;>first
   | exact au a
   | (refine ao (wpAny_load e ?_);rw[g,hd];show wpAny M A (if(["enumerate", "zip", "dict_itemiterator", "dict_reverseitemiterator", "odict_iterator", "itertools.zip_longest", "itertools.pairwise"].contains n&&vs[0]?==ε (rawInt _))=true then _ else _) Q E s;rw[dG (by intro h;rw[f,Ga]at h;cases h)];exact au a))
noncomputable def Cm(K:Oi)(a:Oa):It:=
 ⟨fun i H=>∃b x,qq K H a b/\b[i]?=ε x,fun i H x d=>d=H/\∀b,qq K H a b->b[i]?=ε x,fun i H=>∃b,qq K H a b/\b.length<=i⟩
noncomputable def Em(K:Oi)(a:Oa):It:=
 ⟨fun i H=>∃b x,nH K H a b/\b[i]?=ε x,fun i H x d=>d=H/\∀b,nH K H a b->b[i]?=ε x,fun i H=>∃b,nH K H a b/\b.length<=i⟩
noncomputable def T3(lo:Int)(n:Nat):It:=⟨fun i _=>i<n,fun i H x a=>a=H/\x=.int (lo+i),fun i _=>n<=i⟩
theorem Dy{P:Oo}{w:O4}{K:Oi}{T:Oe}(a it:Oa):pH P w K T (Cm K a) [it] it (fun i h=>h.IsListIter it a i) where
 mem:=by simp
 obj:=fun i h st b g=>by
  have e:b=it:=by simpa using g
  subst e;obtain⟨o,e,c,d⟩:=st;exact⟨o,e,fun v z=>by rw[d]at z;cases z⟩
 keep:=fun i h q st k=>st.at fun o e=>k it ⋯ o e
 item:=by
  intro X D hw F R i f s Q H E I n st C;subst D hw F;obtain⟨S,x,m,B⟩:=C;obtain⟨y,r,p,W⟩:=I.list m;obtain⟨u,Z,U⟩:=r.get B;obtain⟨O,M,f2,L,J,G⟩:=n it ⋯;refine wpAny_pyNext_list_item st p.isList (x:=u) (by simpa using Z) fun q j sb=>?_
  have I1:py X f Q H { s with heap:=q }:=I.turned (t':=s.toks) (fun b o g e=>(sb.2 b g).trans e) O M L J G;obtain⟨o,e,c,d⟩:=id j;exact⟨u,rfl,MP (s:={ s with heap:=q }) e c d (by decide) ⟨x,H,I1,U,⟨rfl,fun ys Y=>by rw[I.dl Y m];exact B⟩,j,fun b g=>(n b g).1⟩⟩
 done:=by intro X D hw F R i f s Q H E I n st C;subst D hw F;obtain⟨S,m,B⟩:=C;obtain⟨y,r,p,W⟩:=I.list m;obtain⟨O,M,f2,L,J,G⟩:=n it ⋯;have hl:=r.length;exact wpAny_pyNext_list_end (I.ok.hd R) st p.isList (by simp;omega) fun q eb=>⟨rfl,I.turned (t':=s.toks) (fun b o g e=>eb b o g e) O M L J G⟩
 self:=fun _ _ _ _ _ st h=>wpAny_pyIter_listiter st h
theorem Iv{P:Oo}{w:O4}{K:Oi}{T:Oe}(a it:Oa):pH P w K T (Em K a) [it] it (fun i h=>h.IsTupleIter it a i) where
 mem:=by simp
 obj:=fun i h st b j=>by
  have e:b=it:=by simpa using j
  subst e;obtain⟨o,e,c,d⟩:=st;exact⟨o,e,fun v z=>by rw[d]at z;cases z⟩
 keep:=fun i h r st k=>st.at fun o e=>k it ⋯ o e
 item:=by
  intro X D hw F R i f s Q H E I q st C;subst D hw F;obtain⟨S,x,n,B⟩:=C;obtain⟨g,y,p,W⟩:=I.tuple n;obtain⟨u,Z,U⟩:=y.get B;obtain⟨O,M,f2,L,J,G⟩:=q it ⋯;refine wpAny_pyNext_tuple_item st (show s.heap.IsTuple a g.toArray from p) (x:=u) (by simpa using Z) fun r m sb=>?_
  have I1:py X f Q H { s with heap:=r }:=I.turned (t':=s.toks) (fun b o j e=>(sb.2 b j).trans e) O M L J G;obtain⟨o,e,c,d⟩:=id m;exact⟨u,rfl,MP (s:={ s with heap:=r }) e c d (by decide) ⟨x,H,I1,U,⟨rfl,fun ys Y=>by rw[I.hF Y n];exact B⟩,m,fun b j=>(q b j).1⟩⟩
 done:=by intro X D hw F R i f s Q H E I q st C;subst D hw F;obtain⟨S,n,B⟩:=C;obtain⟨g,y,p,W⟩:=I.tuple n;obtain⟨O,M,f2,L,J,G⟩:=q it ⋯;have hl:=y.length;exact wpAny_pyNext_tuple_end (I.ok.hd R) st (show s.heap.IsTuple a g.toArray from p) (by simp;omega) fun r eb=>⟨rfl,I.turned (t':=s.toks) (fun b o j e=>eb b o j e) O M L J G⟩
 self:=fun _ _ _ _ _ st h=>wpAny_pyIter_tupleiter st h
theorem Hv{P:Oo}{w:O4}{K:Oi}{J:Oe}(it:Oa)(lo:Int)(n:Nat):pH P w K J (T3 lo n) [it] it (fun i h=>IsRangeIter h it (lo+(i:Nat)*1) ((n:Int)-(i:Nat)) 1) where
 mem:=by simp
 obj:=fun i h st b d=>by
  have e:b=it:=by simpa using d
  subst e;exact⟨_,st,fun v z=>by
   have G:Data.fields _=Data.cell v:=z;cases G⟩
 keep:=fun i h j st k=>k it ⋯ _ st
 item:=by
  intro X q hw r p i a s D H E I g st m;subst q hw r;obtain⟨C,B,O,y,x,u⟩:=g it ⋯;have W:=Walks.range (prog:=X.prog) (w:=X.w) (I.ok.hd p) it lo 1 n;refine W.item i s _ _ m st fun v j F M f L=>?_
  obtain⟨t,rfl⟩:=M;have R:py X a D H { s with heap:=j,toks:=F }:=I.turned (fun b o d e=>L b o (by simpa using d) e) C B y x u;refine⟨_,rfl,MP (s:={ s with heap:=j,toks:=F }) (n := "range_iterator") f rfl rfl (by decide) ⟨.int (lo+i),H,R,⟨t,?_⟩,⟨rfl,rfl⟩,f,fun b d=>(g b d).1⟩⟩;rw[Int.mul_one]
 done:=by intro X q hw r p i a s D H E I g st m;subst q hw r;obtain⟨C,B,O,y,x,u⟩:=g it ⋯;exact wpAny_pyNext_range_end (I.ok.hd p) st (by have:n<=i:=m;omega) fun j Q=>⟨rfl,I.turned (t':=s.toks) (fun b o d e=>Q b o d e) C B y x u⟩
 self:=fun _ _ _ _ _ st h=>wpAny_pyIter_rangeiter st h
section
variable{X:Cx}{c:Oe}
def p8(K:Oi)(f:TE):TI:=fun d H R=>f d H fun x b=>∃a,x=.ref a/\(∃e,qq K b a e)/\R (Cm K a) b
def p5(K:Oi)(f:TE):TI:=fun d H R=>f d H fun x b=>∃a,x=.ref a/\(∃e,nH K b a e)/\R (Em K a) b
theorem gn{l:Oe}{i:TE}(y:PE X l i):PI X c l (p8 X.K i):=by
 intro d s j H R I h;refine vB (y d s j H _ I h) fun v f k=>?_
 obtain⟨x,C,g,m,n⟩:=k;obtain⟨a,e,⟨D,u⟩,q⟩:=n;subst e;cases m;obtain⟨r,E,p,F⟩:=g.list u;refine wpAny_pyIter_list p.isList ?_;refine⟨f.heap.objs.size,[f.heap.objs.size],_,_,C,rfl,g.kept (t':=f.toks) fun b o e=>cu _ e,Dy a _,⟨_,je _ rfl,rfl,rfl⟩,fun b B=>?_,q⟩;have e:b=f.heap.objs.size:=by simpa using B
 subst e;exact g.bv (Ra _) (g.hok.fresh (Ra _))
theorem W8{l:Oe}{j:TE}(y:PE X l j):PI X c l (p5 X.K j):=by
 intro f s k H R I h;refine vB (y f s k H _ I h) fun v d m=>?_
 obtain⟨x,C,g,n,r⟩:=m;obtain⟨a,e,⟨D,u⟩,q⟩:=r;subst e;cases n;obtain⟨i,E,p,F⟩:=g.tuple u;refine wpAny_pyIter_tuple (show d.heap.IsTuple a i.toArray from p) ?_;refine⟨d.heap.objs.size,[d.heap.objs.size],_,_,C,rfl,g.kept (t':=d.toks) fun b o e=>cu _ e,Iv a _,⟨_,je _ rfl,rfl,rfl⟩,fun b B=>?_,q⟩;have e:b=d.heap.objs.size:=by simpa using B
 subst e;exact g.bv (Ra _) (g.hok.fresh (Ra _))
theorem eZ{d:Ms (Oa×Obj)}{f:St}{H:Hp}{s:Nu}{R:It->Hp->Prop}{E:Mu->Nu->Prop}{lo a:Int}{t u v:Tok}{g:Nat}(I:py X d f H s)(h1:-(2^62)<=lo)(h2:lo<2^62)(k:-(2^62)<=a)(j:a<2^62)
 (q:R (T3 lo (a-lo).toNat) H):wpAny (model X.prog X.w) X.A (pyIter (.ref s.heap.objs.size)) (N4 X d f c R) E { s with heap:=s.heap.push { cls:=.type "range",data:=.fields #[.int lo t,.int a u,.int 1 v] },toks:=g }:=by
 refine wpAny_pyIter_range (IsRange.new ..) (small_one h1 h2 k j) ?_;have h:py X d f H { s with heap:=s.heap.push { cls:=.type "range",data:=.fields #[.int lo t,.int a u,.int 1 v] },toks:=g }:=I.kept fun b o e=>cu _ e
 refine⟨(s.heap.push { cls:=.type "range",data:=.fields #[.int lo t,.int a u,.int 1 v] }).objs.size,[(s.heap.push { cls:=.type "range",data:=.fields #[.int lo t,.int a u,.int 1 v] }).objs.size],_,_,H,rfl,
  h.kept (t':=g) fun b o e=>cu _ e,Hv _ lo (a-lo).toNat,?_,fun b i=>?_,q⟩
 . have m:lo+((0:Nat):Int)*1=lo:=by simp
   have e2:(((a-lo).toNat:Nat):Int)-((0:Nat):Int)=Builtin.Range.rangeSize lo a 1:=by rw[rangeSize_one];split<;>omega
   show IsRangeIter _ _ (lo+((0:Nat):Int)*1) ((((a-lo).toNat:Nat):Int)-((0:Nat):Int)) 1;rw[m,e2];exact je _ rfl
 . have e:b=(s.heap.push { cls:=.type "range",data:=.fields #[.int lo t,.int a u,.int 1 v] }).objs.size:=by simpa using i
   subst e;exact h.bv (Ra _) (h.hok.fresh (Ra _))
def t8(d:TA):TI:=fun a H R=>d a H fun b e=>∃j:Int,b=[.int j]/\-(2^62)<=j/\j<2^62/\R (T3 0 j.toNat) e
def v8(d:TA):TI:=fun a H R=>d a H fun b e=>∃i j:Int,b=[.int i,.int j]/\(-(2^62)<=i/\i<2^62/\-(2^62)<=j/\j<2^62)/\R (T3 i (j-i).toNat) e
theorem Xy {a:Oe} {f:TA} {p pos:Pos} (u:Gl X "range") (o:X.mg "range" =none) (x:PA X [a] f) (hs:autoParam (starEach [a] X.env=[(false,eval a X.env)]) Æ):PI X c (.Call (.Name "range" p) [a] [] pos) (t8 f):=by
 intro b s g H R I h;refine Call_ (EG I u o boot_range (PyProof.Rows.callWith_type1 (vB (x pos b s g H _ I h) fun C D i=>?_) hs rfl));obtain⟨B,E,y,m,d⟩:=i;obtain⟨j,e,d,n,q⟩:=d;subst e;cases m with
 | cons r k=>cases k;obtain⟨t,rfl⟩:=r;exact call_range_1 (eZ y nofun nofun d n (by simpa using q))
theorem Yy {a b:Oe} {m:TA} {p pos:Pos} (E:Gl X "range") (D:X.mg "range" =none) (F:PA X [a,b] m) (hs:autoParam (starEach [a,b] X.env=[(false,eval a X.env),(false,eval b X.env)]) Æ) (f:autoParam (starEach [b] X.env=[(false,eval b X.env)]) Æ) :
 PI X c (.Call (.Name "range" p) [a,b] [] pos) (v8 m):=by
 intro d s n H R I h;refine Call_ (EG I E D boot_range (PyProof.Rows.callWith_type1 (vB (F pos d s n H _ I h) fun L O o=>?_) (by rw[hs,f]) (by rw[f];rfl)));obtain⟨J,P,G,u,k⟩:=o;obtain⟨i,j,e,⟨k,C,B,y⟩,q⟩:=k;subst e;cases u with
 | cons r g=>
  cases g with
  | cons x g=>cases g;obtain⟨t,rfl⟩:=r;obtain⟨M,rfl⟩:=x;exact call_range_2 (eZ G k C B y q)
def Z5(h:TI)(g:TG)(j:TS):TS:=fun D a H=>h a H fun J n=>∃W:Nat->Nat->St->Hp->Prop,(∃m,W 0 m a n)/\∀i m a H,W i m a H->
 (J.stop i H/\D.nx a H)\/(J.go i H/\∃N:St->Hp->Prop,(∀b d,N b d->∃f,f<m/\W (i+1) f b d)/\∀x d,J.yld i H x d->g x a d fun e k=>j { D with nx:=N,ct:=N,bk:=D.nx } e k)
noncomputable def JM(fp:Ms Oa)(h:Pu):Ms (Oa×Obj):=fp.filterMap fun b=>(h.get? b).map fun o=>(b,o)
theorem uO{fp:Ms Oa}{h:Pu}{b:Oa}{o:Obj}(a:b∈fp)(e:h.get? b=ε o):(b,o)∈JM fp h:=mem_filterMap.mpr ⟨b,a,by rw[e];rfl⟩
theorem Uy{fp:Ms Oa}{h:Pu}{p:Oa×Obj}(a:p∈JM fp h):p.1∈fp/\h.get? p.1=ε p.2:=by
 obtain⟨b,d,e⟩:=mem_filterMap.mp a;cases q:h.get? b with
 | none=>rw[q]at e;cases e
 | some o=>rw[q]at e;have f:(b,o)=p:=nW e;subst f;exact⟨d,q⟩
theorem py.pinned{a:Ms (Oa×Obj)}{f:St}{H:Hp}{s:Nu}{fp:Ms Oa}(I:py X a f H s)(k:∀b∈fp,vF X a H b)(j:∀b∈fp,∃o,s.heap.get? b=ε o/\∀v,o.data≠.cell v):py X (a++JM fp s.heap) f H s:=
 I.hE fun p i=>(Aa.mp i).elim (fun z=>I.pin p (uo _ z)) fun z=>by obtain⟨g,e⟩:=Uy z;obtain⟨q,n,m,_⟩:=k p.1 g;obtain⟨o,h,d⟩:=j p.1 g;rw[e]at h;cases h;exact⟨e,q,n,m,d⟩
theorem py.eu{a pl:Ms (Oa×Obj)}{b:St}{H:Hp}{s:Nu}(I:py X (a++pl) b H s):py X a b H s:=I.hE fun p d=>I.pin p (uo _ (uq _ d))
theorem b9{y:Oe}{body:Ms Ou}{wi:TI}{g:TG}{tb:TS}{pos:Pos}(Q:PassesOwn (model X.prog X.w) X.A X.env X.xe)(hc:X.calm=true)(hi:PI X c y wi)(hg:PG X c g)(B:PSs X body tb)
 (hs:autoParam (∀x,foldedSetIterable y X.env x=pure x) å):PS X (.For c y body [] pos) (Z5 wi g tb):=by
 intro j s σ H D I h;refine wpAny_For (vB (hi j s σ H _ I h) fun v s1 h1=>vB h1 fun a2 s2 h2=>?_) hs;obtain⟨it,S,tn,J,H2,e,I2,T,Z,f2,W,⟨m0,w0⟩,turn⟩:=h2;subst e;have q:∀{H':Hp},(∀b∈S,H' b=none)->∀b∈S,vF X j H' b:=fun hn b B=>⟨hn b B,(f2 b B).2⟩
 refine codeAny_forLoop_any (fun n s'=>∃i p H',py X j p H' s'/\tn i s'.heap/\(∀b∈S,H' b=none)/\W i n p H') ?_ m0 ⟨0,σ,H2,I2,Z,fun b B=>(f2 b B).1,w0⟩;rintro n s3 ⟨i,k,U,I3,O,R,w3⟩;rcases turn i n k U w3 with⟨stop,qn⟩ | ⟨go,N,hN,step⟩
 . refine wpAny_passesOwn Q (vB (T.done X rfl rfl rfl hc i j s3 k U X.xe I3 (q R) O stop) fun r s4 L=>?_);obtain⟨hr,I4⟩:=L;subst hr;exact wpAny_execs_nil ⟨k,U,I4,qn⟩
 . refine wpAny_passesOwn Q (vB (T.item X rfl rfl rfl hc i j s3 k U X.xe I3 (q R) O go) fun r s4 L=>?_);obtain⟨u,hr,h4⟩:=L;subst hr;refine wpAny_passesOwn Q (vB h4 fun _ s5 L=>?_);obtain⟨x,H5,I5,r5,y5,M,a0⟩:=L;have a1:=I5.pinned (q a0) (T.obj _ _ M);refine wpAny_passesOwn Q (vB (hg _ s5 k H5 x u _ a1 r5 (step x H5 y5)) fun _ s6 L=>?_);obtain⟨Y,H6,I6,q6⟩:=L;refine wpAny_passesOwn Q (vB (B _ s6 Y H6 _ I6 q6) fun f s7 G=>?_);have C:∀{a:St}{F:Hp},py X (j++JM S s5.heap) a F s7->N a F->∃m,m<n/\∃i p H',py X j p H' s7/\tn i s7.heap/\(∀b∈S,H' b=none)/\W i m p H':=fun {a F} E P=>by obtain⟨m',hm,w7⟩:=hN a F P;refine⟨m',hm,i+1,a,F,E.eu,T.keep _ _ _ M fun b B o e=>(E.pin (b,o) (uo _ (uo _ (uO B e)))).1,fun b B=>?_,w7⟩;obtain⟨o,e,d⟩:=T.obj _ _ M b B;exact(E.pin (b,o) (uo _ (uo _ (uO B e)))).2.1
   cases f with
   | next=>obtain⟨a,F,E,P⟩:=G;exact C E P
   | cont=>obtain⟨a,F,E,P⟩:=G;exact C E P
   | brk=>obtain⟨a,F,E,G⟩:=G;exact⟨a,F,E.eu,G⟩
   | ret v=>obtain⟨x7,a,F,E,r7,G⟩:=G;exact⟨x7,a,F,E.eu,r7,G⟩
end
abbrev R2:=V->V->Hp->VK->Prop
def qv(X:Cx)(f:Mu->Mu->Sem Mu)(r:R2):Prop:=
 ∀(a:Ms (Oa×Obj))(s:Nu)(b:St)(H:Hp)(x y:V)(v u:Mu)(Q:VK),py X a b H s->qf x v->qf y u->r x y H Q->
  wpAny (model X.prog X.w) X.A (f v u) (EP X a b Q) X.xe s
def W3(X:Cx)(f:Mu->Sem Mu)(r:V->Hp->VK->Prop):Prop:=
 ∀(a:Ms (Oa×Obj))(s:Nu)(b:St)(H:Hp)(x:V)(v:Mu)(Q:VK),py X a b H s->qf x v->r x H Q->
  wpAny (model X.prog X.w) X.A (f v) (EP X a b Q) X.xe s
def Ze(X:Cx)(f:Mu)(r:Ms V->Hp->VK->Prop):Prop:=
 ∀(a:Ms (Oa×Obj))(s:Nu)(b:St)(H:Hp)(d:Ms V)(e:Ms Mu)(Q:VK),py X a b H s->p3 d e->r d H Q->
  wpAny (model X.prog X.w) X.A (call f e) (EP X a b Q) X.xe s
noncomputable def hW(r:R2)(d b:TE):TE:=fun a H Q=>d a H fun x f=>b a f fun y e=>r x y e Q
noncomputable def Xp(r:V->Hp->VK->Prop)(b:TE):TE:=fun a H Q=>b a H fun x d=>r x d Q
noncomputable def rI(C:Int->Int->Prop)(g:Int->Int->V):R2:=fun x y H Q=>∃i j,x=.int i/\y=.int j/\C i j/\Q (g i j) H
noncomputable def NK(g:Int->Int->V):R2:=fun x y H Q=>∃i j,x=.int i/\y=.int j/\Q (g i j) H
noncomputable def rU(g:Int->V):V->Hp->VK->Prop:=fun x H Q=>∃i,x=.int i/\Q (g i) H
section
variable{X:Cx}{a b c:Oe}{d e tc:TE}{pos:Pos}
theorem oQ(G:PE X a d)(F:PE X b e){g:Ms (Oa×Obj)}{s:Nu}{i:St}{H:Hp}{R:V->V->Hp->Prop}(I:py X g i H s)
 (h:d i H fun x p=>e i p fun y j=>R x y j) {Q:Mu->Nu->Prop} {f:Mu->Mu->Sem Mu}
 (E:∀v u n x y j,py X g i j n->qf x v->qf y u->R x y j->wpAny (model X.prog X.w) X.A (f v u) Q X.xe n) :
 wpAny (model X.prog X.w) X.A (eval a X.env) (fun v m=>wpAny (model X.prog X.w) X.A (eval b X.env) (fun u k=>wpAny (model X.prog X.w) X.A (f v u) Q X.xe k) X.xe m) X.xe s:=by
 refine vB (G g s i H _ I h) fun v q o=>?_
 obtain⟨x,p,L,B,D⟩:=o;refine vB (F g q i p _ L D) fun u n o=>?_
 obtain⟨y,j,J,r,C⟩:=o;exact E v u n x y j J B r C
theorem FV{op:Operator}{r:R2}(m:qv X (binaryOp op) r)(o:PE X a d)(n:PE X b e):PE X (.BinOp a op b pos) (hW r d e):=by intro f s g H Q I h;exact wpAny_BinOp (oQ o n I h fun v u i x y B p k j q=>m f i g B x y v u Q p k j q)
theorem J3{op:UnaryOp}{r:V->Hp->VK->Prop}(m:W3 X (unaryOp op) r)(n:PE X a d):PE X (.UnaryOp op a pos) (Xp r d):=by intro f s g H Q I h;exact UnaryOp_ (vB (n f s g H _ I h) fun v i ⟨x,p,o,j,k⟩=>m f i g p x v Q o j k)
theorem NV{f:Mu->Mu->Sem Mu}{C:Int->Int->Prop}{g:Int->Int->Int}
 (k:∀(i j:Int)(t u:Tok)(s:Nu)(Q:Mu->Nu->Prop)(E:Mu->Nu->Prop),C i j->Q (.int (g i j) s.toks) { s with toks:=s.toks+1 }->wpAny (model X.prog X.w) X.A (f (.int i t) (.int j u)) Q E s) :
 qv X f (rI C fun i j=>.int (g i j)):=by
 intro m s B H x y v u Q I p o h;obtain⟨i,j,rfl,rfl,r,q⟩:=h;obtain⟨t,rfl⟩:=p;obtain⟨n,rfl⟩:=o;exact k i j t n s _ _ r ⟨.int (g i j),H,I.tok _,⟨_,rfl⟩,q⟩
theorem fL{f:Mu->Mu->Sem Mu}{g:Int->Int->Int}
 (k:∀(i j:Int)(t u:Tok)(s:Nu)(Q:Mu->Nu->Prop)(E:Mu->Nu->Prop),Q (.int (g i j) s.toks) { s with toks:=s.toks+1 }->wpAny (model X.prog X.w) X.A (f (.int i t) (.int j u)) Q E s) :
 qv X f (NK fun i j=>.int (g i j)):=by
 intro m s r H x y v u Q I p o h;obtain⟨i,j,rfl,rfl,q⟩:=h;obtain⟨t,rfl⟩:=p;obtain⟨n,rfl⟩:=o;exact k i j t n s _ _ ⟨.int (g i j),H,I.tok _,⟨_,rfl⟩,q⟩
theorem xN{f:Mu->Mu->Sem Mu}{g:Int->Int->Bool}
 (k:∀(i j:Int)(t u:Tok)(s:Nu)(Q:Mu->Nu->Prop)(E:Mu->Nu->Prop),Q (.bool (g i j)) s->wpAny (model X.prog X.w) X.A (f (.int i t) (.int j u)) Q E s) :
 qv X f (NK fun i j=>.bl (g i j)):=by
 intro m s r H x y v u Q I p o h;obtain⟨i,j,rfl,rfl,q⟩:=h;obtain⟨t,rfl⟩:=p;obtain⟨n,rfl⟩:=o;exact k i j t n s _ _ ⟨.bl (g i j),H,I,rfl,q⟩
def PK(i j:Int):Prop:=0<j/\j<1073741824
def lH(i j:Int):Prop:=0<=j/\j<=1000000/\i.natAbs<2^64
def bz(i j:Int):Prop:=(-(2^64)<i/\i<2^64)\/(-(2^64)<j/\j<2^64)
theorem bz.ok{i j:Int}(h:bz i j):IntMulOk i j:=by
 rcases h with⟨g,f⟩ | ⟨g,f⟩
 . exact .of_left (intBits_le_64 g f)
 . exact .of_right (intBits_le_64 g f)
theorem Jv(k:Nat):(0:Int)<=2^k:=by rw[two_pow_cast];exact Int.natCast_nonneg _
theorem j7:qv X (binaryOp .Add) (NK fun i j=>.int (i+j)):=fL fun _ _ _ _ _ _ _ q=>add_int q
theorem z7:qv X (binaryOp .Sub) (NK fun i j=>.int (i-j)):=fL fun _ _ _ _ _ _ _ q=>sub_int q
theorem p7:qv X (binaryOp .Mult) (rI bz fun i j=>.int (i*j)):=NV fun _ _ _ _ _ _ _ f q=>mul_int q f.ok
theorem ur:qv X (binaryOp .FloorDiv) (rI PK fun i j=>.int (i/j)):=NV fun i j _ _ _ _ _ f q=>by have h:(0:Int)<j:=f.1;have g:j<1073741824:=f.2;exact floordiv_int nofun (by rw[Int.fdiv_eq_ediv_of_nonneg i nofun];exact q) (.inl (PyProof.noPylong_small nofun))
theorem o7:qv X (binaryOp .Mod) (rI (fun _ j=>0<j) fun i j=>.int (i%j)):=NV fun i j _ _ _ _ _ f q=>by have g:(0:Int)<j:=f;exact mod_int' nofun (by rw[Int.fmod_eq_emod_of_nonneg i nofun];exact q)
theorem t7:qv X (binaryOp .Pow) (rI lH fun i j=>.int (i^j.toNat)):=NV fun _ _ _ _ _ _ _ f q=>pow_int_small f.1 f.2.1 f.2.2 q
theorem v7:qv X (binaryOp .LShift) (rI lH fun i j=>.int (i*2^j.toNat)):=NV fun _ _ _ _ _ _ _ f q=>lshift_int_small f.1 f.2.1 f.2.2 q
theorem y7:qv X (binaryOp .RShift) (rI (fun _ j=>0<=j) fun i j=>.int (i/2^j.toNat)):=NV fun i j _ _ _ _ _ f q=>rshift_int f (by rw[Int.fdiv_eq_ediv_of_nonneg i (Jv _)];exact q)
theorem l7:qv X (binaryOp .BitAnd) (NK fun i j=>.int (Builtin.bitAnd i j)):=fL fun _ _ _ _ _ _ _ q=>and_int q
theorem Aj:qv X (binaryOp .BitOr) (NK fun i j=>.int (Builtin.bitOr i j)):=fL fun _ _ _ _ _ _ _ q=>or_int q
theorem A7:qv X (binaryOp .BitXor) (NK fun i j=>.int (Builtin.bitXor i j)):=fL fun _ _ _ _ _ _ _ q=>xor_int q
theorem Jl{f:Mu->Sem Mu}{g:Int->Int}
 (j:∀(i:Int)(t:Tok)(s:Nu)(Q:Mu->Nu->Prop)(E:Mu->Nu->Prop),Q (.int (g i) s.toks) { s with toks:=s.toks+1 }->wpAny (model X.prog X.w) X.A (f (.int i t)) Q E s) :
 W3 X f (rU fun i=>.int (g i)):=by
 intro k s n H x v Q I m h;obtain⟨i,rfl,q⟩:=h;obtain⟨t,rfl⟩:=m;exact j i t s _ _ ⟨.int (g i),H,I.tok _,⟨_,rfl⟩,q⟩
theorem J8:W3 X (unaryOp .USub) (rU fun i=>.int (-i)):=Jl fun _ _ _ _ _ q=>neg_int q
theorem G8:W3 X (unaryOp .Invert) (rU fun i=>.int (Builtin.bitNot i)):=Jl fun _ _ _ _ _ q=>invert_int q
end
noncomputable def zN:V->V->Bool
 | .non,.non=>true | .non,.int _=>true | .int _,.non=>true | .non,.bl _=>true | .bl _,.non=>true | .non,.str _=>true | .str _,.non=>true
 | .int _,.int _=>true | .bl _,.bl _=>true | .str _,.str _=>true | .byt _,.byt _=>true
 | .int _,.str _=>true | .str _,.int _=>true | .bl _,.str _=>true | .str _,.bl _=>true
 | _,_=>false
def Jp:R2:=fun x y H Q=>zN x y=true/\Q (.bl (decide (x=y))) H
def Kp:R2:=fun x y H Q=>zN x y=true/\Q (.bl (!decide (x=y))) H
theorem zZ{i j:Int}:decide (V.int i=V.int j)=(i==j):=by rw[Bool.eq_iff_iff];simp
theorem J0{i j:Bool}:decide (V.bl i=V.bl j)=(i==j):=by rw[Bool.eq_iff_iff];simp
theorem AZ{i j:Str}:decide (V.str i=V.str j)=(i==j):=by rw[Bool.eq_iff_iff];simp
theorem yZ{i j:Pb UInt8}:decide (V.byt i=V.byt j)=(i.toList==j.toList):=by rw[Bool.eq_iff_iff];cases i;cases j;simp
section
variable{X:Cx}{a b c:Oe}{g f tc:TE}{pos:Pos}
theorem qC{d:Ms (Oa×Obj)}{h:St}{H:Hp}{s:Nu}{Q:VK}{k i:Bool}(I:py X d h H s)(q:Q (.bl k) H)(e:k=i):EP X d h Q (.bool i) s:=by subst e;exact⟨.bl k,H,I,rfl,q⟩
theorem mj:qv X (compareOp .Eq) Jp:=by
 intro m s n H x y v u Q I k d h;obtain⟨hs,q⟩:=h;cases x with
 | non=>
  cases k;cases y with
  | non=>cases d;exact PySem.EqNone.eq_none_none (qC I q ⋯)
  | bl j=>cases d;exact PySem.EqNone.eq_none_bool (qC I q ⋯)
  | int j=>obtain⟨e,rfl⟩:=d;exact PySem.EqNone.eq_none_int (qC I q ⋯)
  | str j=>obtain⟨e,rfl⟩:=d;exact PySem.EqNone.eq_none_str (qC I q ⋯)
  | _=>exact Ci (show false=true from hs) Va
 | bl i=>
  cases k;cases y with
  | non=>cases d;exact PySem.EqNone.eq_bool_none (qC I q ⋯)
  | bl j=>cases d;exact eq_bool (qC I q J0)
  | str j=>obtain⟨e,rfl⟩:=d;exact PySem.EqMixed.eq_bool_str (qC I q ⋯)
  | _=>exact Ci (show false=true from hs) Va
 | int i=>
  obtain⟨t,rfl⟩:=k;cases y with
  | non=>cases d;exact PySem.EqNone.eq_int_none (qC I q ⋯)
  | int j=>obtain⟨e,rfl⟩:=d;exact eq_int (qC I q zZ)
  | str j=>obtain⟨e,rfl⟩:=d;exact PySem.EqMixed.eq_int_str (qC I q ⋯)
  | _=>exact Ci (show false=true from hs) Va
 | str i=>
  obtain⟨t,rfl⟩:=k;cases y with
  | non=>cases d;exact PySem.EqNone.eq_str_none (qC I q ⋯)
  | bl j=>cases d;exact PySem.EqMixed.eq_str_bool (qC I q ⋯)
  | int j=>obtain⟨e,rfl⟩:=d;exact PySem.EqMixed.eq_str_int (qC I q ⋯)
  | str j=>obtain⟨e,rfl⟩:=d;exact eq_str (qC I q AZ)
  | _=>exact Ci (show false=true from hs) Va
 | byt i=>
  obtain⟨t,rfl⟩:=k;cases y with
  | byt j=>obtain⟨e,rfl⟩:=d;exact PySem.W.eq_bytes (qC I q yZ)
  | _=>exact Ci (show false=true from hs) Va
 | _=>cases y<;>exact Ci (show false=true from hs) Va
theorem zj:qv X (compareOp .NotEq) Kp:=by
 intro m s n H x y v u Q I k d h;obtain⟨hs,q⟩:=h;cases x with
 | non=>
  cases k;cases y with
  | non=>cases d;exact PySem.EqNone.ne_none_none (qC I q ⋯)
  | bl j=>cases d;exact PySem.EqNone.ne_none_bool (qC I q ⋯)
  | int j=>obtain⟨e,rfl⟩:=d;exact PySem.EqNone.ne_none_int (qC I q ⋯)
  | str j=>obtain⟨e,rfl⟩:=d;exact PySem.EqNone.ne_none_str (qC I q ⋯)
  | _=>exact Ci (show false=true from hs) Va
 | bl i=>
  cases k;cases y with
  | non=>cases d;exact PySem.EqNone.ne_bool_none (qC I q ⋯)
  | bl j=>cases d;exact ne_bool (qC I q (congrArg not J0))
  | str j=>obtain⟨e,rfl⟩:=d;exact PySem.EqMixed.ne_bool_str (qC I q ⋯)
  | _=>exact Ci (show false=true from hs) Va
 | int i=>
  obtain⟨t,rfl⟩:=k;cases y with
  | non=>cases d;exact PySem.EqNone.ne_int_none (qC I q ⋯)
  | int j=>obtain⟨e,rfl⟩:=d;exact ne_int (qC I q (congrArg not zZ))
  | str j=>obtain⟨e,rfl⟩:=d;exact PySem.EqMixed.ne_int_str (qC I q ⋯)
  | _=>exact Ci (show false=true from hs) Va
 | str i=>
  obtain⟨t,rfl⟩:=k;cases y with
  | non=>cases d;exact PySem.EqNone.ne_str_none (qC I q ⋯)
  | bl j=>cases d;exact PySem.EqMixed.ne_str_bool (qC I q ⋯)
  | int j=>obtain⟨e,rfl⟩:=d;exact PySem.EqMixed.ne_str_int (qC I q ⋯)
  | str j=>obtain⟨e,rfl⟩:=d;exact ne_str (qC I q (congrArg not AZ))
  | _=>exact Ci (show false=true from hs) Va
 | byt i=>
  obtain⟨t,rfl⟩:=k;cases y with
  | byt j=>obtain⟨e,rfl⟩:=d;exact PySem.W.ne_bytes (qC I q (congrArg not yZ))
  | _=>exact Ci (show false=true from hs) Va
 | _=>cases y<;>exact Ci (show false=true from hs) Va
theorem yj:qv X (compareOp .Lt) (NK fun i j=>.bl (decide (i<j))):=xN fun _ _ _ _ _ _ _ q=>lt_int q
theorem wj:qv X (compareOp .LtE) (NK fun i j=>.bl (decide (i<=j))):=xN fun _ _ _ _ _ _ _ q=>le_int q
theorem qj:qv X (compareOp .Gt) (NK fun i j=>.bl (decide (j<i))):=xN fun _ _ _ _ _ _ _ q=>gt_int q
theorem nj:qv X (compareOp .GtE) (NK fun i j=>.bl (decide (j<=i))):=xN fun _ _ _ _ _ _ _ q=>ge_int q
theorem m7:qv X (compareOp .Is) (fun x y H Q=>y=.non/\Q (.bl (decide (x=.non))) H):=by
 intro e s j H x y v u Q I d i h;obtain⟨rfl,q⟩:=h;cases i;refine is_none_gen (qC I q ?_);cases x<;>first
  | (cases d;rfl)
  | (obtain⟨t,rfl⟩:=d;rfl)
theorem S0(b:Oe){op:CmpOp}(h:autoParam (op≠.In) Ñ)(h2:autoParam (op≠.NotIn) Ñ):behindInMarks op b=false:=by
 have d:(op==CmpOp.In)=false:=by cases op<;>first | rfl | exact Ci rfl h
 have e2:(op==CmpOp.NotIn)=false:=by cases op<;>first | rfl | exact Ci rfl h2
 cases b<;>simp[behindInMarks,d,e2]
theorem Br{op:CmpOp}{r:R2}(m:qv X (compareOp op) r)(p:PE X a g)(o:PE X b f)(n:behindInMarks op b=false):PE X (.Compare a [op] [b] pos) (hW r g f):=by intro d s e H Q I h;exact wpAny_Compare1 (oQ p o I h fun v u i x y C B k j q=>m d i e C x y v u Q B k j q) n
noncomputable def Q9(t:TE):TT:=fun d H Q=>t d H fun x e=>∃k,x=.bl k/\Q k e
theorem Tn{op:CmpOp}{r:R2}(D:qv X (compareOp op) r)(G:PE X a g)(F:PE X b f)(E:behindInMarks op b=false):PT X (.Compare a [op] [b] pos) (Q9 (hW r g f)):=by
 intro d s i H Q I h;refine wpAny_isTrue_Compare1 (vB (G d s i H _ I h) fun v m ⟨x,R,M,p,C⟩=>vB (F d m i R _ M C) fun u j ⟨y,P,L,o,B⟩=>
  vB (D d j i P x y v u _ L p o B) fun c S ⟨z,O,J,n,k,e,q⟩=>?_) E
 subst e;cases n;exact Eo ⟨O,J,q⟩
noncomputable def Q0(r i:R2)(g f tc:TE):TE:=fun d H Q=>g d H fun x n=>f d n fun y m=>r x y m fun z e=>∃k,z=.bl k/\
 (if k=true then tc d e fun h j=>i y h j Q else Q (.bl false) e)
theorem Yg{op j:CmpOp}{r p:R2}(U:qv X (compareOp op) r)(n:qv X (compareOp j) p)(ha:PE X a g)(Z:PE X b f)(Y:PE X c tc)
 (W:lastMarks [op,j] [b,c]=false:=by unhygienic rfl):PE X (.Compare a [op,j] [b,c] pos) (Q0 r p g f tc):=by
 intro i s m H Q I h;refine Compare_chain (vB (ha i s m H _ I h) fun v L ⟨x,H1,I1,P,T⟩=>chain_link (vB (Z i L m H1 _ I1 T) fun u J ⟨y,H2,I2,o,S⟩=>
  vB (U i J m H2 x y v u _ I2 P o S) fun d G ⟨z,C,B,O,k,e,q⟩=>?_)) W
 subst e;cases O;refine Eo ?_;cases k with
 | false=>exact ite_ff ⟨.bl false,C,B,rfl,q⟩
 | true=>exact ite_tt (chain_last (vB (Y i G m C _ B q) fun E F ⟨D,H4,I4,M,R⟩=>n i F m H4 y D u E Q I4 o M R))
theorem sK:(sizeLine:Nat)<2^63:=by rw[Ao];decide
theorem HF{x:V}{us:Ms Mu}(r:p3 [x] us):∃u,us=[u]/\qf x u:=by
 cases r with
 | cons e d=>cases d;exact⟨_,rfl,e⟩
theorem VM{x y:V}{us:Ms Mu}(r:p3 [x,y] us):∃u w',us=[u,w']/\qf x u/\qf y w':=by
 cases r with
 | cons i h=>
  cases h with
  | cons e d=>cases d;exact⟨_,_,rfl,i,e⟩
theorem Xw (n:X.calm=true):Ze X (.builtin "max") (fun e H Q=>∃i j,e=[.int i,.int j]/\Q (.int (if j>i then j else i)) H):=by
 intro m s o H e x Q I r h;obtain⟨i,j,rfl,q⟩:=h;obtain⟨u,p,rfl,⟨t,rfl⟩,⟨B,rfl⟩⟩:=VM r;refine max_two_ints (I.ok.hd n) fun C y k=>⟨_,H,I.kept k,?_,q⟩
 by_cases d:j>i
 . rw[dh d,dh d];exact⟨_,rfl⟩
 . rw[dG d,dG d];exact⟨_,rfl⟩
theorem Zw (n:X.calm=true):Ze X (.builtin "min") (fun e H Q=>∃i j,e=[.int i,.int j]/\Q (.int (if j<i then j else i)) H):=by
 intro m s o H e x Q I r h;obtain⟨i,j,rfl,q⟩:=h;obtain⟨u,p,rfl,⟨t,rfl⟩,⟨B,rfl⟩⟩:=VM r;refine min_two_ints (I.ok.hd n) fun C y k=>⟨_,H,I.kept k,?_,q⟩
 by_cases d:j<i
 . rw[dh d,dh d];exact⟨_,rfl⟩
 . rw[dG d,dG d];exact⟨_,rfl⟩
theorem Ww:Ze X (.type "int") (fun d H Q=>(∃i,d=[.int i]/\Q (.int i) H)\/∃k,d=[.bl k]/\Q (.int (if k then 1 else 0)) H):=by
 intro e s m H d n Q I r h;rcases h with⟨i,rfl,q⟩ | ⟨k,rfl,q⟩
 . obtain⟨u,rfl,t,rfl⟩:=HF r;exact call_int_int ⟨.int i,H,I,⟨_,rfl⟩,q⟩
 . obtain⟨u,rfl,j⟩:=HF r;cases j;exact call_int_bool ⟨.int (if k then 1 else 0),H,I.tok _,⟨_,rfl⟩,q⟩
end
structure cm(h:Heap)(x dx C:Addr)(mA:Str->Option Value):Prop where
 obj:h.get? x=ε (PySem.W.instObj C dx)
 ns:h.Ns1 dx mA
 ne:dx≠x
theorem uw{h:Pu}{j:Oa}{g:Str->Ni Mu}(n:h.Ns1 j g):∃f,h.get? j=ε f/\∀b,PySem.W.lookIn b f=ε (g b):=by
 obtain⟨o,i,u,m,hd,r,_,p⟩:=n;refine⟨o,m,fun b=>?_⟩;have e:=p b;unfold nsFind findBy at e;rw[<- Array.find?_toList]at e;unfold PySem.W.lookIn;rw[hd];dsimp only;split
 . rename_i y q;rw[q]at e;exact congrArg some e
 . rename_i q;rw[q]at e;have a:i.toList.any (·.refKey)=false:=by rw[any_eq_false];intro y k;obtain⟨z,t,d⟩:=r y (Array.mem_toList_iff.mp k);simp[DictEntry.refKey,d]
   have s:¬i.toList.any (·.refKey)=true:=by rw[a];exact Va
   rw[dG s];exact congrArg some e
theorem cm.look{h:Pu}{x e C:Oa}{d:Str->Ni Mu}(I:cm h x e C d):∃b,PySem.W.InstAt h x (PySem.W.instObj C e) C (ε b)/\∀a,PySem.W.lookIn a b=ε (d a):=
 let ⟨b,ho,hl⟩:=uw I.ns
 ⟨b,⟨I.obj,rfl,rfl,ho⟩,hl⟩
section
variable{prog:Oo}{w:O4}{A:Pa}{E:Mu->Nu->Prop}{s:Nu}{K:Oi}{x e C f:Oa}{c:Str->Ni Mu}{name:Str}{v:Mu}
theorem Hr{a:Bool}{Q:Mu->Nu->Prop}(X:K.In s.heap)(I:cm s.heap x e C c)(j:PySem.W.plainGet K C name=true)(i:PySem.W.hasDictIn K C=true)
 (k:findIn K (.ref C) name=ε none) (d:c name=ε v) (b:PySem.W.handedIn v=true) (h:Q v { s with toks:=s.toks+1 }) :
 wpAny (model prog w) A (getAttr (.ref x) name a) Q E s:=by
 obtain⟨m,J,g⟩:=I.look;exact PySem.W.get_value X J (PySem.W.plainGet_of j).1 (PySem.W.findObj_own i k rfl (by rw[g,d])) b h
theorem Oh{pl:Sem Bool}{Q:Mu×Ms Mu->Nu->Prop}(X:K.In s.heap)(I:cm s.heap x e C c)(a:PySem.W.plainGet K C name=true)
 (j:findIn K (.ref C) name=ε (ε (.ref f))) (g:PySem.W.isFn K (.ref f)=true) (d:c name=none) (h:Q (.ref f,[.ref x]) s) :
 wpAny (model prog w) A (getMethod (.ref x) name pl) Q E s:=by
 obtain⟨b,J,i⟩:=I.look;exact PySem.W.method_fn X J (PySem.W.plainGet_of a).1 (PySem.W.plainGet_of a).2 j (beq_iff_eq.mp g) (by show(PySem.W.lookIn name b).map (·.isSome)=ε false;rw[i,d];rfl) h
theorem Bc{ns:Ms Str}{Q:Unit->Nu->Prop}(X:K.In s.heap)(I:cm s.heap x e C c)
 (hs:findIn K (.ref C) "__setattr__" =ε (ε (.builtin "object.__setattr__"))) (q:PySem.W.plainOver K C=true) (p:PySem.W.takerIn K C name=ε none) (u:PySem.W.hasDictIn K C=true)
 (hw:PySem.Within c ns) (hsz:ns.length<=sizeLine)
 (h:∀i,cm i x e C (fun y=>if y=name then ε v else c y)->Heap.SameBut e s.heap i->Q () { s with heap:=i,toks:=s.toks+2 }) :
 wpAny (model prog w) A (setAttr (.ref x) name v) Q E s:=by
 obtain⟨G,J,L⟩:=I.look;refine PySem.W.set_plain X J hs (PySem.W.osa_open (s:={ s with toks:=s.toks+1 }) (r:=none) X J q p fun b=>?_);obtain⟨M,B,m⟩:=PySem.W.any_some u;have o:s.heap.get? x=ε ⟨.ref C,ε e,.plain,#[]⟩:=I.obj;refine ao (au (ao (ao (wpAny_loadPart o (ao (PySem.W.Looks.here (s:={ s with toks:=s.toks+1 }) (PySem.W.looks_clsIn X B) ?_))))));rw[m];refine au (a:=ε e) (ao (au (ao ?_)));refine wpAny_nsSet1 (s:={ s with toks:=s.toks+1 }) I.ns fun i g d=>?_
 obtain⟨H,D,F,j,k,n⟩:=g.count (PySem.Within.cons name v hw);refine ao (wpAny_lookBehind j (by rw[k];exact pastItsLine_dict (n7 n (by rw[Qu];omega))) ?_);exact au (h _ ⟨(d.2 _ (m5 I.ne)).trans I.obj,g,I.ne⟩ d)
theorem Pg{R:Result->Nu->Prop}{vs:Ms Mu}{a:Ms (Str×Mu)}(X:K.In s.heap)(b:PySem.W.makesIn K C=true)
 (i:findIn K (.ref C) "__init__" =ε (ε (.ref f))) (j:PySem.W.typeIn K (.ref f)=ε (.type "function"))
 (h:codeAny (model prog w) (A.under (.builtin "type.__call__" ⟨.ref C::vs,a⟩)) (.call (.ref f) ⟨.ref (s.heap.objs.size+1)::vs,a⟩) (PySem.W.InitBack (s.heap.objs.size+1) R)
  { s with heap:=(s.heap.push PySem.W.emptyDict).push (PySem.W.instObj C s.heap.objs.size) }) :
 codeAny (model prog w) A (.call (.ref C) ⟨vs,a⟩) R s:=by
 obtain⟨k,g,d,t,os⟩:=s;exact PySem.W.make_core (PySem.W.makes_of X b) (PySem.W.looks_findIn X i) (fun self=>PySem.W.bind_fn X self j) (.inl rfl) h
end
noncomputable def FB(f:Str)(v:V):Ms (Str×V)->Ms (Str×V)
 | []=>[(f,v)]
 | (g,x)::r=>if g=f then(g,v)::r else(g,x)::FB f v r
theorem SW(f g:Str)(v:V):∀fs:Ms (Str×V),(FB f v fs).lookup g=if g=f then ε v else fs.lookup g
 | []=>by
  show List.lookup g [(f,v)]=_;by_cases h:g=f
  . have a:(g==f)=true:=beq_iff_eq.mpr h;simp![List.lookup,a,dh h]
  . have a:(g==f)=false:=Di.mpr h;simp![List.lookup,a,dG h]
 | (k,x)::r=>by
  have ih:=SW f g v r;rw[show FB f v ((k,x)::r)=(if k=f then(k,v)::r else(k,x)::FB f v r)from rfl];by_cases b:k=f
  . rw[dh b];by_cases h:g=k
    . have a:(g==k)=true:=beq_iff_eq.mpr h;simp![List.lookup,a,dh (h.trans b)]
    . have a:(g==k)=false:=Di.mpr h;simp![List.lookup,a,dG (fun e:g=f=>h (e.trans b.symm))]
  . rw[dG b];by_cases h:g=k
    . have a:(g==k)=true:=beq_iff_eq.mpr h;simp![List.lookup,a,dG (fun e:g=f=>b (h.symm.trans e))]
    . have a:(g==k)=false:=Di.mpr h;simp![List.lookup,a];exact ih
theorem XS(f:Str)(v:V):∀fs:Ms (Str×V),f∈(FB f v fs).map (·.1)/\∀g,g∈fs.map (·.1)->g∈(FB f v fs).map (·.1)
 | []=>⟨by simp[FB],fun g h=>by simp at h⟩
 | (k,x)::r=>by
  obtain⟨d,b⟩:=XS f v r;rw[show FB f v ((k,x)::r)=(if k=f then(k,v)::r else(k,x)::FB f v r)from rfl];by_cases a:k=f
  . rw[dh a];subst a;exact⟨by simp,fun g h=>by simpa using h⟩
  . rw[dG a];refine⟨?_,fun g h=>?_⟩
    . rw[Qs];exact m8 _ d
    . rw[Qs]at h ⊢;rcases zu.mp h with e | e
      . exact zu.mpr (.inl e)
      . exact m8 _ (b g e)
theorem QW(f:Str)(v:V):∀fs:Ms (Str×V),(FB f v fs).length<=fs.length+1
 | []=>by simp[FB]
 | (k,x)::r=>by
  have ih:=QW f v r;rw[show FB f v ((k,x)::r)=(if k=f then(k,v)::r else(k,x)::FB f v r)from rfl];by_cases a:k=f
  . rw[dh a,Qu,Qu];omega
  . rw[dG a,Qu,Qu];omega
theorem af.some_of{v:V}{o:Ni Mu}(r:af (ε v) o):∃u,o=ε u/\qf v u:=by
 cases o with
 | none=>exact(show False from r).elim
 | some u=>exact⟨u,rfl,r⟩
theorem af.none_of{o:Ni Mu}(r:af none o):o=none:=by
 cases o with
 | none=>rfl
 | some u=>exact(show False from r).elim
theorem Jw{v:V}{u:Mu}(r:qf v u):PySem.W.handedIn u=true:=by
 cases v with
 | non=>cases (show u=Value.none from r);rfl
 | bl b=>cases (show u=Value.bool b from r);rfl
 | int i=>obtain⟨t,e⟩:=(show ∃t,u=Value.int i t from r);cases e;rfl
 | str x=>obtain⟨t,e⟩:=(show ∃t,u=Value.str x t from r);cases e;rfl
 | byt b=>obtain⟨t,e⟩:=(show ∃t,u=Value.bytes b t from r);cases e;rfl
 | flt b=>obtain⟨t,e⟩:=(show ∃t,u=Value.float b t from r);cases e;rfl
 | ref a=>cases (show u=Value.ref a from r);rfl
 | ty n=>cases (show u=Value.type n from r);rfl
section
variable{P:Oo}{w:O4}{H H':Hp}{h h':Pu}{a C b:Oa}{fs fs':Ms (Str×V)}
theorem uU(hok:rg P w H h)(e:H a=ε (.ins C b fs)):∃g,cm h a b C g/\(∀f,af (fs.lookup f) (g f))/\PySem.Within g (fs.map (·.1))/\fs.length<=1000/\H b=ε (.own a):=by obtain⟨d,z,ne,ob,g,n,r,q⟩:=(show Xa P w H h a (.ins C b fs)from hok a _ e);exact⟨g,⟨ob,n,ne⟩,r,q,z,d⟩
end
structure Cls(K:Frag)(C:Addr):Prop where
 pg:PySem.W.plainGet K C Str.empty=true
 hd:PySem.W.hasDictIn K C=true
 po:PySem.W.plainOver K C=true
 sa:findIn K (.ref C) "__setattr__" =ε (ε (.builtin "object.__setattr__"))
theorem Cls.get{K:Oi}{C:Oa}(c:Cls K C)(f:Str):PySem.W.plainGet K C f=true:=c.pg
def cq(K:Oi)(C:Oa)(f:Str):Prop:=findIn K (.ref C) f=ε none
theorem cq.taker{K:Oi}{C:Oa}{f:Str}(n:cq K C f):PySem.W.takerIn K C f=ε none:=by unfold PySem.W.takerIn;rw[show findIn K (.ref C) f=ε none from n];rfl
structure SK(K:Frag)(C:Addr)(m:Str)(f:Addr):Prop where
 at_:findIn K (.ref C) m=ε (ε (.ref f))
 fn:PySem.W.isFn K (.ref f)=true
 kp:keepIn K (.ref f)=true
section
variable{X:Cx}{d:Ms (Oa×Obj)}{i:St}{H:Hp}{s:Nu}{a C j:Oa}{fs:Ms (Str×V)}{f:Str}{v:V}{A:Pa}{E:Mu->Nu->Prop}
theorem Ov{b:Bool}{Q:Mu->Nu->Prop}(I:py X d i H s)(e:H a=ε (.ins C j fs))(c:Cls X.K C)(n:cq X.K C f)(l:fs.lookup f=ε v)
 (h:∀u g,py X d i H g->qf v u->Q u g):wpAny (model X.prog X.w) A (getAttr (.ref a) f b) Q E s:=by
 obtain⟨m,O,r,_,_,_⟩:=uU I.hok e;obtain⟨u,p,k⟩:=af.some_of (v:=v) (o:=m f) (by rw[<- l];exact r f);exact Hr I.kIn O (c.get f) c.hd n p (Jw k) (h u _ (I.tok _) k)
theorem lX{m:Str}{g:Oa}{pl:Sem Bool}{Q:Mu×Ms Mu->Nu->Prop}(I:py X d i H s)(e:H a=ε (.ins C j fs))(c:Cls X.K C)(k:SK X.K C m g)(l:fs.lookup m=none)
 (h:Q (.ref g,[.ref a]) s):wpAny (model X.prog X.w) A (getMethod (.ref a) m pl) Q E s:=by
 obtain⟨b,O,r,_,_,_⟩:=uU I.hok e;have n:b m=none:=af.none_of (by rw[<- l];exact r m);exact Oh I.kIn O (c.get m) k.at_ k.fn n h
theorem Yz{y:V}{u:Mu}{Q:Unit->Nu->Prop}(I:py X d i H s)(e:H a=ε (.ins C j fs))(c:Cls X.K C)(n:cq X.K C f)(P:fs.length<1000)(F:qf y u)
 (h:∀p,py X d i (xB H a (.ins C j (FB f y fs))) p->Q () p):wpAny (model X.prog X.w) A (setAttr (.ref a) f u) Q E s:=by
 obtain⟨B,O,r,m,_,D⟩:=uU I.hok e;have G:(fs.map (·.1)).length<=sizeLine:=by rw[lq,Ao];omega
 refine Bc I.kIn O c.sa c.po n.taker c.hd m G fun M k sb=>h _ ?_
 have hd:∃o,M.get? j=ε o:=let ⟨o,_,_,e',_⟩:=k.ns;⟨o,e'⟩
 refine I.write (x:=a) (e:=j) (by rw[e];exact Ja) (.inr D) (fun b q L z=>(sb.2 b L).trans z) hd ?_;refine⟨by rw[WA O.ne];exact D,?_,O.ne,k.obj,_,k.ns,fun g=>?_,fun g J=>?_⟩
 . have:=QW f y fs;omega
 . show af ((FB f y fs).lookup g) (if g=f then ε u else B g);rw[SW];by_cases q:g=f
   . rw[dh q,dh q];exact F
   . rw[dG q,dG q];exact r g
 . by_cases q:g=f
   . rw[q];exact(XS f y fs).1
   . refine(XS f y fs).2 g (m g fun z=>J ?_);show(if g=f then ε u else B g)=none;rw[dG q];exact z
theorem py.made(I:py X d i H s):py X d i (xB (xB H s.heap.objs.size (.own (s.heap.objs.size+1))) (s.heap.objs.size+1) (.ins C s.heap.objs.size []))
 { s with heap:=(s.heap.push PySem.W.emptyDict).push (PySem.W.instObj C s.heap.objs.size) }:=by
 have g:(s.heap.push PySem.W.emptyDict).get? s.heap.objs.size=ε PySem.W.emptyDict:=je s.heap rfl;have e2:((s.heap.push PySem.W.emptyDict).push (PySem.W.instObj C s.heap.objs.size)).get? (s.heap.objs.size+1)=ε (PySem.W.instObj C s.heap.objs.size):=by have:=je (s.heap.push PySem.W.emptyDict) (o:=PySem.W.instObj C s.heap.objs.size) rfl;rwa[Ko]at this
 have m:(s.heap.push PySem.W.emptyDict).Ns s.heap.objs.size (fun _=>none):=⟨PySem.W.emptyDict,#[],_,g,rfl,(fun e k=>Ci k ⋯),fun _=>rfl⟩;have n:=I.laid (a:=s.heap.objs.size) (o:=.own (s.heap.objs.size+1)) (h':=s.heap.push PySem.W.emptyDict) (t':=s.toks) (fun b u q=>cu _ q) (Ra _) ⟨_,g⟩;refine n.laid (a:=s.heap.objs.size+1) (o:=.ins C s.heap.objs.size []) (t':=s.toks) (fun b u q=>cu _ q) (Nat.le_of_eq (Ko _ _)) ?_;have ne:s.heap.objs.size≠s.heap.objs.size+1:=ni (vm _);refine⟨by rw[WA ne,AC],mq _,ne,e2,fun _=>none,(Heap.Ns1.of_empty m).at fun o q=>cu _ q,fun _=>Ja,fun y h=>Ci rfl h⟩
theorem Jf{prog:Oo}{w:O4}{env:Env}{e:Oe}{f:Str}{pos:Pos}{s:Nu}{Q:Mu->Nu->Prop}(g:attributeBase e f env (eval e env)=eval e env)
 (h:wpAny (model prog w) A (eval e env) (fun o b=>wpAny (model prog w) A (getAttr o f true) Q E b) E s):wpAny (model prog w) A (eval (.Attribute e f pos) env) Q E s:=
 Attribute_any_ h (by rw[arm_eval_Attribute,g])
end
def Y5(K:Oi)(e:TE)(f:Str):TE:=fun d H Q=>e d H fun x b=>∃a C g fs v,x=.ref a/\b a=ε (.ins C g fs)/\Cls K C/\cq K C f/\fs.lookup f=ε v/\Q v b
def Q5(K:Oi)(h g:TE)(f:Str):TS:=fun D b H=>g b H fun y i=>h b i fun x e=>∃a C d fs,x=.ref a/\e a=ε (.ins C d fs)/\Cls K C/\cq K C f/\fs.length<1000/\
 D.nx b (xB e a (.ins C d (FB f y fs)))
section
variable{X:Cx}{o e b:Oe}{f:Str}{pos d tpos:Pos}{i j:TE}
theorem F6(he:PE X e i)(y:attributeBase e f X.env (eval e X.env)=eval e X.env):PE X (.Attribute e f pos) (Y5 X.K i f):=by intro g s k H Q I h;refine Jf y (vB (he g s k H _ I h) fun u L m=>?_);obtain⟨x,F,E,p,a,C,M,fs,v,ex,B,c,n,l,q⟩:=m;subst ex;obtain rfl:u=Value.ref a:=p;exact Ov E B c n l fun G J D r=>⟨v,F,D,r,q⟩
theorem Z8(J:PE X o i)(G:PE X b j)(hs:swapsWith b (ε (.Attribute o f d)) pos.line X.env=pure false):PS X (.Assign [.Attribute o f d] b pos) (Q5 X.K i j f):=by intro g s k H D I h;refine plainObj_wpAny_Assign_Attribute (vB (G g s k H _ I h) fun u p ⟨y,Q,P,r,q⟩=>vB (J g p k Q _ P q) fun F S m=>?_) hs;obtain⟨x,U,O,B,a,C,T,fs,ex,L,c,n,l,E⟩:=m;subst ex;obtain rfl:F=Value.ref a:=B;exact Yz O L c n l r fun R M=>⟨k,_,M,E⟩
theorem oi{pl:Sem Bool}{m:Str}{r:Pos}{n:Ms Oe}{p:Ms (Oa×Obj)}{s:Nu}{y:St}{H:Hp}{Q:Mu->Nu->Prop}{te:TE}(he:PE X e te)(I:py X p y H s)
 (h:te y H fun x D=>∃a C E fs g,x=.ref a/\D a=ε (.ins C E fs)/\Cls X.K C/\SK X.K C m g/\fs.lookup m=none/\
  ∀B,py X p y D B->wpAny (model X.prog X.w) X.A (callWith pos (.ref g) [.ref a] (backTo pos (starEach n X.env)) (backToKw pos (keywordEach [] X.env))) Q X.xe B)
 (L:eval (.Call (.Attribute e m r) n [] pos) X.env=(do
  let ov <- eval e X.env
  standAt r.atName
  let (f,first) <- holding [ov] (getMethod ov m pl)
  callWith pos f first (backTo pos (starEach n X.env)) (backToKw pos (keywordEach [] X.env)))) :
 wpAny (model X.prog X.w) X.A (eval (.Call (.Attribute e m r) n [] pos) X.env) Q X.xe s:=by
 refine PySem.W.methodCall_KW (pl:=pl) (vB (he p s y H _ I h) fun u B G=>?_) L;obtain⟨x,D,F,J,a,C,E,fs,g,ex,M,c,k,l,q⟩:=G;subst ex;obtain rfl:u=Value.ref a:=J;exact lX F M c k l (q B F)
end
section
variable{X:Cx}{pins:Ms (Oa×Obj)}{σ:St}{H:Hp}{s:Nu}{A:Pa}{E:Mu->Nu->Prop}{Q:Mu->Nu->Prop}{c:Mu}{b:Bool}
end
structure Vu(k:Nat)(A:Around):Prop where
 hd:A.handled=none
 dp:A.depth+3*k+5<recursionLimit
 un:A.units+16*k+200<cLine
theorem Vu.mono{j k:Nat}{A:Pa}(r:Vu k A)(h:j<=k):Vu j A:=⟨r.hd,by have:=r.dp;omega,by have:=r.un;omega⟩
theorem Vu.deeper{k:Nat}{A:Pa}(r:Vu (k+1) A)(env:Env):Vu k (A.deeper env):=
 ⟨r.hd,by have:=r.dp;show A.depth+1+3*k+5<_;omega,by have:=r.un;show A.units+3+16*k+200<_;omega⟩
theorem Rv {A:Pa} {C:Oa} {us:Ms Mu} {a:Ms (Str×Mu)}:(A.under (.builtin "type.__call__" ⟨.ref C::us,a⟩)).depth=A.depth+1:=by first | rfl | simp[Around.under,Code.weight,Code.isCreation,Code.isGuard,Code.isCaller,Code.frames,Code.isFrame,guardIds]
theorem Sv {A:Pa} {C:Oa} {us:Ms Mu} {a:Ms (Str×Mu)}:(A.under (.builtin "type.__call__" ⟨.ref C::us,a⟩)).units=A.units+1:=by first | rfl | simp[Around.under,Code.cUnits,Code.frames,Code.isFrame]
theorem Vu.make {k:Nat} {A:Pa} (r:Vu (k+1) A) (C:Oa) (us:Ms Mu) (a:Ms (Str×Mu)):Vu k (A.under (.builtin "type.__call__" ⟨.ref C::us,a⟩)):=
 ⟨r.hd,by have:=r.dp;rw[Rv];omega,by have:=r.un;rw[Sv];omega⟩
theorem Vu.depth{k:Nat}{A:Pa}(r:Vu k A):A.depth<recursionLimit:=by have:=r.dp;omega
theorem Vu.units{k:Nat}{A:Pa}(r:Vu k A):A.units+64<cLine:=by have:=r.un;omega
noncomputable def gW:TA:=fun _ H Q=>Q [] H
noncomputable def Q3(e:TE)(d:TA):TA:=fun a H Q=>e a H fun x g=>d a g fun b f=>Q (x::b) f
section
variable{X:Cx}{e:Oe}{a:Ms Oe}{te:TE}{t:TA}{pos:Pos}
theorem MD:PA X [] gW:=fun _ _ _ _ H Q I h=>Calls.spliced_nil ⟨[],H,I,.nil,h⟩
theorem wC(p:PE X e te)(o:PA X a t)(hs:autoParam (starEach (e::a) X.env=(false,eval e X.env)::starEach a X.env) Æ):PA X (e::a) (Q3 te t):=by intro pos b s d H Q I h;rw[hs];show wpAny _ _ (spliced ((false,eval e X.env)::backTo pos (starEach a X.env))) _ _ s;refine Calls.spliced_cons (vB (p b s d H _ I h) fun u i f=>?_);obtain⟨x,B,r,k,n⟩:=f;exact vB (o pos b i d B _ r n) fun C D ⟨g,y,q,j,m⟩=>⟨x::g,y,q,.cons k j,m⟩
def p6(t:TA):TE:=fun f H Q=>t f H fun b d=>b.length<=sizeLine/\∀p,d p=none->Q (.ref p) (xB d p (.tup b))
def fW(t:TA):TE:=fun f H Q=>t f H fun b d=>b.length<=sizeLine/\∀p,d p=none->Q (.ref p) (xB d p (.lst b))
theorem B1{x1}(h:PA X a t):PE X (.Tuple a x1 pos) (p6 t):=by intro d s j H Q I n;refine wpAny_Tuple_spliced (vB (h pos d s j H _ I n) fun m f ⟨k,i,g,r,z,q⟩=>⟨by rw[<- r.length];exact z,?_⟩);have o:i f.heap.objs.size=none:=g.hok.fresh (Ra _);refine⟨.ref f.heap.objs.size,xB i f.heap.objs.size (.tup k),g.laid (t':=f.toks) (fun b u e=>cu _ e) (Ra _) ?_,rfl,q _ o⟩;exact⟨z,m,r,⟨_,je _ rfl,rfl,_,rfl⟩⟩
theorem qP(h:PA X a t):PE X (.List a pos) (fW t):=by intro d s j H Q I n;refine wpAny_List_spliced (vB (h pos d s j H _ I n) fun m f ⟨k,i,g,r,z,q⟩=>⟨by rw[<- r.length];exact z,?_⟩);have o:i f.heap.objs.size=none:=g.hok.fresh (Ra _);refine⟨.ref f.heap.objs.size,xB i f.heap.objs.size (.lst k),g.laid (t':=f.toks) (fun b u e=>cu _ e) (Ra _) ?_,rfl,q _ o⟩;exact⟨z,m,0,r,je _ rfl⟩
end
abbrev Sp:=Ms V->Hp->VK->XK->Prop
abbrev QK:=Ms Env->Hp->Nu->XK->Mu->Nu->Prop
structure cr(P:Program)(w:World)(K:Frag)(mg:Str->Option Value)(base:Heap)(A:Around)(outer:List Env)(s:Shared)(H:Hp):Prop where
 frames:A.frames=ε outer
 mod:Mod K mg base
 bs:∀b o,base.get? b=ε o->s.heap.get? b=ε o/\H b=none
 bsz:base.objs.size<=s.heap.objs.size
 ax:s.heap.FunFrames base outer
 frf:∀b∈bL outer,H b=none
 hok:rg P w H s.heap
 bare:AllBare s.gens
def CE(outer:Ms Env)(P:Oo)(w:O4)(H:Hp)(s:Nu)(Q:VK)(u:Mu)(a:Nu):Prop:=
 ∃v b,a.os=s.os/\AllBare a.gens/\Un (bL outer) [] H b s.heap a.heap/\rg P w b a.heap/\qf v u/\Q v b
def CR(CX:QK)(outer:Ms Env)(P:Oo)(w:O4)(H:Hp)(s:Nu)(Q:VK)(E:XK)(r:Result)(a:Nu):Prop:=
 match r with
 | .ok (.ret u)=>CE outer P w H s Q u a
 | .ok _=>False
 | .error e=>CX outer H s E e a
structure YD(P:Program)(w:World)(K:Frag)(mg:Str->Option Value)(base:Heap)(CX:QK)(k:Nat)(f:Addr)(fd:FuncData)(ps:List Str)(sp:Sp):Prop where
 len:∀vs H Q E,sp vs H Q E->vs.length=ps.length
 run:∀(A:Around)(outer:List Env)(s:Shared)(H:Hp)(args:Args)(us:List Value)(vs:List V)(Q:VK)(E:XK),Vu k A->cr P w K mg base A outer s H->BindsTo s fd args (ps.zip us)->p3 vs us->sp vs H Q E->
  codeAny (model P w) A (.call (.ref f) args) (CR CX outer P w H s Q E) s
theorem cr.make{P:Oo}{w:O4}{K:Oi}{mg:Str->Ni Mu}{base:Pu}{A:Pa}{outer:Ms Env}{s:Nu}{H:Hp}(e:cr P w K mg base A outer s H)(C:Oa)(us:Ms Mu)(a:Ms (Str×Mu)) :
 cr P w K mg base (A.under (.builtin "type.__call__" ⟨.ref C::us,a⟩)) outer s H:=⟨by first | exact e.frames | (simpa[Around.under,Code.envs,Code.isFrame,pushEnvs]using e.frames),e.mod,e.bs,e.bsz,e.ax,e.frf,e.hok,e.bare⟩
section
variable{X:Cx}{a:Ms (Oa×Obj)}{c:St}{H:Hp}{s e:Nu}
theorem py.env0(I:py X a c H s):cr X.prog X.w X.K X.mg X.base X.A X.stack s H:=
 ⟨I.ok.frames,I.ok.mod,I.bs,n7 I.ok.bsz I.sz,I.stack,I.g7,I.hok,I.bare⟩
theorem py.after{Q:VK}{u:Mu}(I:py X a c H s)(h:CE X.stack X.prog X.w H s Q u e):EP X a c Q u e:=by obtain⟨v,j,os,bare,un,hok,r,q⟩:=h;obtain⟨i,g,d,t,f⟩:=e;obtain rfl:f=s.os:=os;exact⟨v,j,I.call (h':=i) (g':=g) (d':=d) (t':=t) (ch:=[]) un hok bare (fun b z=>Ci z ⋯),r,q⟩
end
noncomputable def G9(sp:Sp)(a:Ms V)(E:XK)(t:TA):TE:=fun b H Q=>t b H fun d e=>sp (d++a) e Q E
def M9(C:Oa)(m:Str)(sp:Sp)(b:Ms V)(E:XK)(g:TE)(t:TA):TE:=fun d H Q=>g d H fun x e=>∃a h fs,x=.ref a/\e a=ε (.ins C h fs)/\fs.lookup m=none/\
 t d e fun f i=>sp (x::(f++b)) i Q E
def L9(C:Oa)(sp:Sp)(b:Ms V)(E:XK)(t:TA):TE:=fun e H Q=>t e H fun f d=>∀x a,d x=none->d a=none->a≠x->
 sp (.ref x::(f++b)) (xB (xB d a (.own x)) x (.ins C a [])) (fun v g=>v=.non/\Q (.ref x) g) E
def qr(K:Oi)(d:FuncData)(b:Ms Str)(ds:Ms Mu):Prop:=
 ∀(s:Nu)(a:Ms Mu),K.In s.heap->(a++ds).length=b.length->BindsTo s d ⟨a,[]⟩ (b.zip (a++ds))
theorem qr.all{K:Oi}{e:FuncData}{b:Ms Str}(h:∀a:Ms Mu,a.length=b.length->bindArgs e ⟨a,[]⟩=pure (b.zip a)):qr K e b []:=fun s a _ d=>by rw[Ri]at d ⊢;exact .of_eq (h a d)
def pK(CX:QK)(X:Cx)(E:XK):Prop:=∀(a:Ms (Oa×Obj))(d:St)(H:Hp)(s:Nu)(e:Mu)(b:Nu),py X a d H s->CX X.stack H s E e b->X.xe e b
section
variable{X:Cx}{CX:QK}{k:Nat}{f C:Oa}{fd:FuncData}{ps:Ms Str}{sp:Sp}{dvs:Ms V}{ds:Ms Mu}{E:XK}{x m:Str}{p pos apos:Pos}{e o:Oe}{es:Ms Oe}{ta:TE}{t:TA}
theorem O0{a:Ms (Oa×Obj)}{d:St}{H:Hp}{s:Nu}{Q:VK}{us:Ms Mu}{vs:Ms V}(F:YD X.prog X.w X.K X.mg X.base CX k f fd ps sp)(n:Vu k X.A)(y:qr X.K fd ps ds)(hd:p3 dvs ds)(j:pK CX X E)
 (I:py X a d H s) (r:p3 vs us) (h:sp (vs++dvs) H Q E):wpAny (model X.prog X.w) X.A (call (.ref f) us) (EP X a d Q) X.xe s:=by
 have g:p3 (vs++dvs) (us++ds):=r.append hd;have q:(us++ds).length=ps.length:=by rw[<- g.length];exact F.len _ _ _ _ h
 refine wpAny_call (codeAny_mono (F.run X.A X.stack s H ⟨us,[]⟩ (us++ds) (vs++dvs) Q E n I.env0 (y s us I.kIn q) g h) fun r i b=>?_);cases r with
 | error e=>exact j a d H s e i I b
 | ok B=>
  cases B with
  | ret u=>exact I.after b
  | next=>exact Ea b
  | brk=>exact Ea b
  | cont=>exact Ea b
theorem Ar(F:YD X.prog X.w X.K X.mg X.base CX k f fd ps sp)(j:Vu k X.A)(y:Gl X x)(n:X.mg x=ε (.ref f))(u:keepIn X.K (.ref f)=true)(B:qr X.K fd ps ds)(hd:p3 dvs ds)(i:pK CX X E)
 (D:PA X (e::es) t) (b:autoParam ((x==("__debug__" :Str))=false) Ñ) (he:autoParam (starEach (e::es) X.env=(false,eval e X.env)::starEach es X.env) Æ) (hpl:autoParam ((backTo pos (starEach es X.env)).any (·.1)=false) Æ) :
 PE X (.Call (.Name x p) (e::es) [] pos) (G9 sp dvs E t):=by
 intro a s g H Q I h;refine wpAny_Call_Name_kw (vU I y n ?_ b);refine PySem.W.callWith_K (h₀:=X.base) I.ok.mod.kin u (vB (D pos a s g H _ I h) fun J L ⟨G,M,d,r,q⟩=>⟨d.kIn,?_⟩) he hpl;exact O0 F j B hd i d r q
theorem Wb{pl:Sem Bool}(he:PE X o ta)(c:Cls X.K C)(i:SK X.K C m f)(F:YD X.prog X.w X.K X.mg X.base CX k f fd ps sp)(M:Vu k X.A)(O:qr X.K fd ps ds)(hd:p3 dvs ds)(J:pK CX X E)(P:PA X (e::es) t)
 (d:autoParam (starEach (e::es) X.env=(false,eval e X.env)::starEach es X.env) Æ) (hpl:autoParam ((backTo pos (starEach es X.env)).any (·.1)=false) Æ)
 (L:eval (.Call (.Attribute o m apos) (e::es) [] pos) X.env=(do
  let ov <- eval o X.env
  standAt apos.atName
  let (f,first) <- holding [ov] (getMethod ov m pl)
  callWith pos f first (backTo pos (starEach (e::es) X.env)) (backToKw pos (keywordEach [] X.env))):=by rfl) :
 PE X (.Call (.Attribute o m apos) (e::es) [] pos) (M9 C m sp dvs E ta t):=by
 intro b s g H Q I h;refine PySem.W.methodCall_KW (pl:=pl) (vB (he b s g H _ I h) fun u B y=>?_) L;obtain⟨x,S,n,D,a,U,fs,ex,R,l,q⟩:=y;subst ex;obtain rfl:u=Value.ref a:=D;refine lX n R c i l ?_;refine PySem.W.callWith_K (first:=[.ref a]) (h₀:=X.base) I.ok.mod.kin i.kp (vB (P pos b B g S _ n q) fun us T ⟨vs,W,j,r,G⟩=>⟨j.kIn,?_⟩) d hpl;exact O0 (us:=.ref a::us) (vs:=.ref a::vs) F M O hd J j (.cons rfl r) G
structure Mk(K:Frag)(C f:Addr):Prop where
 makes:PySem.W.makesIn K C=true
 init:findIn K (.ref C) "__init__" =ε (ε (.ref f))
 fn:PySem.W.isFn K (.ref f)=true
 kp:keepIn K (.ref C)=true
theorem Yh{a:Ms (Oa×Obj)}{i:St}{H:Hp}{s:Nu}{Q:VK}{us:Ms Mu}{vs:Ms V}(M:Mk X.K C f)(F:YD X.prog X.w X.K X.mg X.base CX k f fd ps sp)(G:Vu (k+1) X.A)(L:qr X.K fd ps ds)(hd:p3 dvs ds)
 (D:pK CX X E) (I:py X a i H s) (r:p3 vs us)
 (h:∀x d,H x=none->H d=none->d≠x->sp (.ref x::(vs++dvs)) (xB (xB H d (.own x)) x (.ins C d [])) (fun v S=>v=.non/\Q (.ref x) S) E) :
 wpAny (model X.prog X.w) X.A (call (.ref C) us) (EP X a i Q) X.xe s:=by
 have n:=h (s.heap.objs.size+1) s.heap.objs.size (I.hok.fresh (Nat.le_succ _)) (I.hok.fresh (Ra _)) (ni (vm _));have g:=py.made (C:=C) I;have j:p3 (V.ref (s.heap.objs.size+1)::(vs++dvs)) (Value.ref (s.heap.objs.size+1)::(us++ds)):=.cons rfl (r.append hd);have J:(Value.ref (s.heap.objs.size+1)::us++ds).length=ps.length:=by have e:=j.length;rw[F.len _ _ _ _ n]at e;exact e.symm
 refine wpAny_call (Pg (f:=f) I.kIn M.makes M.init (beq_iff_eq.mp M.fn) (codeAny_mono (F.run _ X.stack _ _ ⟨Value.ref (s.heap.objs.size+1)::us,[]⟩ (Value.ref (s.heap.objs.size+1)::(us++ds)) _ _ E (G.make C us [])
  (g.env0.make C us []) (L _ (Value.ref (s.heap.objs.size+1)::us) g.kIn J) j n) fun r q b=>?_))
 cases r with
 | error e=>exact D a i _ _ e q g b
 | ok O=>
  cases O with
  | ret u=>obtain⟨v,T,R,y,P,B⟩:=g.after b;subst P;exact⟨y,⟨V.ref (s.heap.objs.size+1),T,R,rfl,B⟩⟩
  | next=>exact Ea b
  | brk=>exact Ea b
  | cont=>exact Ea b
theorem Vb(M:Mk X.K C f)(F:YD X.prog X.w X.K X.mg X.base CX k f fd ps sp)(j:Vu (k+1) X.A)(u:Gl X x)(n:X.mg x=ε (.ref C))(y:qr X.K fd ps ds)(hd:p3 dvs ds)(i:pK CX X E)
 (B:PA X (e::es) t) (b:autoParam ((x==("__debug__" :Str))=false) Ñ) (he:autoParam (starEach (e::es) X.env=(false,eval e X.env)::starEach es X.env) Æ) (hpl:autoParam ((backTo pos (starEach es X.env)).any (·.1)=false) Æ) :
 PE X (.Call (.Name x p) (e::es) [] pos) (L9 C sp dvs E t):=by
 intro a s g H Q I h;refine wpAny_Call_Name_kw (vU I u n ?_ b);refine PySem.W.callWith_K (h₀:=X.base) I.ok.mod.kin M.kp (vB (B pos a s g H _ I h) fun G J ⟨D,L,d,r,q⟩=>⟨d.kIn,?_⟩) he hpl;exact Yh M F j y hd i d r q
end
section
variable{X:Cx}{CX:QK}{k:Nat}{f C:Oa}{fd:FuncData}{ps ks:Ms Str}{sp:Sp}{E:XK}{x m:Str}{p pos apos kpos:Pos}{e o:Oe}{es:Ms Oe}{kws:Ms Keyword}{te ta:TE}{t tk:TA}{nm:Ni Str}
variable{g:Ms Mu->Ms Mu->Ms Mu}{gV:Ms V->Ms V->Ms V}
end
structure SA(N P:List Str)(sc:Scope):Prop where
 kind:sc.kind=.function
 co:sc.isCoroutine=false
 gen:sc.isGenerator=false
 nd:N.Nodup
 pre:N.take P.length=P
 par:∀x∈P,sc.names.lookup x=ε .local\/sc.names.lookup x=ε .cell
 mu:∀y∈sc.names,y.2≠.free
theorem BX{a:Str->Ni NameKind}{x:Str}:∀{binds:Ms (Str×Mu)}{m:Str->Ni Mu},(∀v,(x,v)∉binds)->bindL a binds m x=m x
 | [],_,_=>rfl
 | (n,v)::r,m,h=>by
  unfold bindL;rw[BX fun w hw=>h w (m8 _ hw)];split
  . have:x≠n:=by rintro rfl;exact h v qd
    simp[this]
  . rfl
theorem zX{a:Str->Ni NameKind}{x:Str}:∀{binds:Ms (Str×Mu)}{m:Str->Ni Mu},(∀v,(x,v)∉binds)->bindC a binds m x=m x
 | [],_,_=>rfl
 | (n,v)::r,m,h=>by
  unfold bindC;rw[zX fun w hw=>h w (m8 _ hw)];split
  . rfl
  . have:x≠n:=by rintro rfl;exact h v qd
    simp[this]
theorem AX{a:Str->Ni NameKind}{x:Str}{v:Mu}:∀{P:Ms Str}{vs:Ms Mu}{i:Nat}{m:Str->Ni Mu},P.Nodup->P[i]?=ε x->vs[i]?=ε v->a x=ε .local->
 bindL a (P.zip vs) m x=ε v
 | [],_,_,_,_,h,_,_=>by simp at h
 | _::_,[],_,_,_,_,h,_=>by simp at h
 | p::P,w::vs,0,m,nd,h1,h2,hk=>by simp at h1 h2;subst h1;subst h2;show bindL a ((p,w)::P.zip vs) m p=_;unfold bindL;rw[BX fun v b=>(La.mp nd).1 (of_mem_zip b).1,dh hk];simp
 | p::P,w::vs,i+1,m,nd,h1,h2,hk=>by show bindL a ((p,w)::P.zip vs) m x=_;unfold bindL;exact AX (i:=i) (La.mp nd).2 (by simpa using h1) (by simpa using h2) hk
theorem yX{a:Str->Ni NameKind}{x:Str}{v:Mu}:∀{P:Ms Str}{vs:Ms Mu}{i:Nat}{m:Str->Ni Mu},P.Nodup->P[i]?=ε x->vs[i]?=ε v->a x≠ε .local->
 bindC a (P.zip vs) m x=ε v
 | [],_,_,_,_,h,_,_=>by simp at h
 | _::_,[],_,_,_,_,h,_=>by simp at h
 | p::P,w::vs,0,m,nd,h1,h2,hk=>by simp at h1 h2;subst h1;subst h2;show bindC a ((p,w)::P.zip vs) m p=_;unfold bindC;rw[zX fun v b=>(La.mp nd).1 (of_mem_zip b).1,dG hk];simp
 | p::P,w::vs,i+1,m,nd,h1,h2,hk=>by show bindC a ((p,w)::P.zip vs) m x=_;unfold bindC;exact yX (i:=i) (La.mp nd).2 (by simpa using h1) (by simpa using h2) hk
noncomputable def KG(N:Ms Str)(vs:Ms V):St:=vs.map some++List.replicate (N.length-vs.length) none
noncomputable def LF(CX:QK)(P:Oo)(w:O4)(K:Oi)(mg:Str->Ni Mu)(base:Pu)(N:Ms Str)(b:Str)(a:Scope)(f:Oa)(g:Mu)(A:Pa)(outer:Ms Env)(s:Nu)(H:Hp)(E:XK):Cx where
 prog:=P
 w:=w
 K:=K
 mg:=mg
 base:=base
 A:=A.deeper (envOfC b a s.heap.objs.size f g)
 N:=N
 s₀:=s
 H₀:=H
 env:=envOfC b a s.heap.objs.size f g
 outer:=outer
 stack:=envOfC b a s.heap.objs.size f g::outer
 ex:=[]
 calm:=true
 fn:=fun _=>true
 pn:=[]
 xe:=fun e h=>wpAny (model P w) (A.deeper (envOfC b a s.heap.objs.size f g)) (leaving (envOfC b a s.heap.objs.size f g) e) (fun _ d=>CX outer H s E e d) (fun i d=>CX outer H s E i d) h
theorem HY{a:Scope}{n:Nat}{x:Str}(h:a.names.lookup x=ε .cell):∃c,(cellsFrom n a.names []).lookup x=ε c:=by have q:=PySem.W.cellsFrom_some a.names n [] (.inl h);exact Option.isSome_iff_exists.mp q
theorem Ow{CX:QK}{P:Oo}{w:O4}{K:Oi}{mg:Str->Ni Mu}{base:Pu}{N o:Ms Str}{g:Str}{d:Scope}{f:Oa}{I:Mu}{A:Pa}{outer:Ms Env}{s s1:Nu}{H:Hp}{E:XK}{us:Ms Mu}{vs:Ms V}
 (S:SA N o d) (hd:A.handled=none) (m:cr P w K mg base A outer s H) (T:vs.length=o.length) (r:p3 vs us)
 (x:InCallC s s.heap.objs.size (bindL (envOfC g d s.heap.objs.size f I).kindOf (o.zip us) fun _=>none) (cellsFrom (s.heap.objs.size+1) d.names []) (bindC (envOfC g d s.heap.objs.size f I).kindOf (o.zip us) fun _=>none) s1) :
 py (LF CX P w K mg base N g d f I A outer s H E) [] (KG N vs) H s1:=by
 have O:o.length<=N.length:=by have:=congrArg List.length S.pre;rw[Ba]at this;omega
 obtain⟨G,R,rfl,L⟩:=x.done;have B:∀b:Oa,b∉(LF CX P w K mg base N g d f I A outer s H E).ex:=fun b z=>Ci (show b∈([]:Ms Oa)from z) ⋯
 refine⟨⟨m.mod,S.kind,rfl,rfl,Ra _,fun y z c G j=>?_,fun y hy=>?_,fun y c _ h=>?_,fun _=>hd,Around.frames_deeper m.frames,.inr ⟨rfl,rfl⟩,fun b z=>Ci z (B b),m.bs,m.bsz,fun b _ _=>B b,fun b z=>Ci z (B b),m.ax,m.frf⟩,
  rfl,m.bare,Un.kept L,⟨_,x.toInCall.ns,fun i y v G j U=>?_⟩,fun y c h=>⟨_,x.cell y c h⟩,m.hok.fresh (Ra _),fun y c h=>?_,fun p D=>Ci (show p∈([]:Ms (Oa×Obj))from D) ⋯,m.hok.kept L,?_⟩
 . exact name_of_addr x.apart (PySem.mem_of_lookup G) (PySem.mem_of_lookup j)
 . have hy:d.names.lookup y=ε .cell\/d.names.lookup y=ε .free:=hy;rcases hy with hy | hy
   . exact HY hy
   . exact Ci rfl (S.mu _ (PySem.mem_of_lookup hy))
 . exact Bs (x.above y c (PySem.mem_of_lookup h))
 . have F:i<vs.length:=by
    unfold KG at j;by_cases F:i<vs.length
    . exact F
    . rw[Ye (by simpa using F)]at j;rw[getElem?_replicate]at j;split at j<;>cases j
   have Q:vs[i]?=ε v:=by
    unfold KG at j;rw[Vo (by simpa using F),qu]at j;cases e:vs[i]? with
    | none=>rw[e]at j;cases j
    | some a=>rw[e]at j;cases j;rfl
   obtain⟨u,J,M⟩:=r.get Q;have D:o[i]?=ε y:=by rw[<- S.pre,getElem?_take_of_lt nofun];exact G
   have C:o.Nodup:=by rw[<- S.pre];exact S.nd.sublist (take_sublist _ _)
   refine⟨u,M,?_⟩;rcases S.par y (jo D)with k | k
   . exact .inl ⟨k,AX C D J k⟩
   . obtain⟨c,e⟩:=HY (n:=s.heap.objs.size+1) k;refine .inr ⟨.inl k,c,e,?_⟩;have q:=x.cell y c e;rw[yX C D J (by show d.names.lookup y≠_;rw[k];decide)]at q;exact q
 . exact m.hok.fresh (Bs (x.above y c (PySem.mem_of_lookup h)))
 . unfold KG;show _=N.length;rw[g8,lq,length_replicate];omega
theorem X2{CX:QK}{P:Oo}{w:O4}{K:Oi}{mg:Str->Ni Mu}{base:Pu}{k:Nat}{f:Oa}{name d:Str}{h:Arguments}{body:Ms Ou}{a:Scope}{W kV F U g ct oc:Mu}{Y od:Ni Oa}
 {M:Pb (Ni Mu)} {N G:Ms Str} {sp:Sp} (lk:K.lookup f=ε ⟨oc,od,.func (fnOf name d h body a W kV F U Y g ct),M⟩) (T:PySem.W.codeIn K g d=true) (S:SA N G a)
 (len:∀vs H Q E,sp vs H Q E->vs.length=G.length)
 (p:∀(A:Pa)(outer:Ms Env)(s:Nu)(H:Hp)(vs:Ms V)(Q:VK)(E:XK),Vu k (A.deeper (envOfC d a s.heap.objs.size f g))->sp vs H Q E->
  ∃t,PSs (LF CX P w K mg base N d a f g A outer s H E) body t/\t { nx:=fun _ j=>Q .non j,rt:=Q } (KG N vs) H) :
 YD P w K mg base CX (k+1) f (fnOf name d h body a W kV F U Y g ct) G sp:=by
 refine⟨len,fun A outer s H X us vs Q E R D hb r B=>?_⟩;have hl:=len _ _ _ _ B;have Z:K.In s.heap:=D.mod.kin.keeps fun b o e=>(D.bs b o e).1
 have O:s.heap.NoLimit:=D.mod.nolimit.keeps fun b o e=>(D.bs b o e).1
 have m:∀y∈G.zip us,a.names.lookup y.1=ε .local\/(a.names.lookup y.1=ε .cell/\((cellsFrom (s.heap.objs.size+1) a.names []).lookup y.1).isSome=true):=fun zz hy=>by
  obtain⟨n,v⟩:=zz;rcases S.par n (of_mem_zip hy).1 with q | q
  . exact .inl q
  . exact .inr ⟨q,PySem.W.cellsFrom_some _ _ _ (.inl q)⟩
 refine codeAny_call_function R.depth (Z _ _ lk) rfl S.co S.gen rfl (PySem.W.codeRec_of Z T) (hb _ _ _ _ ?_);refine wpAny_newFunctionEnv_cells S.kind m fun env he s1 x=>?_
 subst he;refine⟨O.keeps x.toInCall.keep,codeAny_func ?_⟩;obtain⟨t,ht,hq⟩:=p A outer s H vs Q E (R.deeper _) B;have I:py (LF CX P w K mg base N d a f g A outer s H E) [] (KG N vs) H s1:=Ow S R.hd D hl r x;refine Gu (ht [] s1 (KG N vs) H _ I hq) (fun fl s' hs=>?_) fun e s' hs=>hs
 have C:∀{i:St}{j:Hp}{v:V}{u:Mu},py (LF CX P w K mg base N d a f g A outer s H E) [] i j s'->qf v u->Q v j->CE outer P w H s Q u s':=
  fun {i j v u} J L q=>⟨v,j,J.os,J.bare,J.base,J.hok,L,q⟩
 cases fl with
 | ret u=>obtain⟨v,i,j,J,L,q⟩:=hs;exact C J L q
 | next=>obtain⟨i,j,J,q⟩:=hs;exact C (v:=V.non) (u:=Value.none) J rfl q
 | brk=>obtain⟨_,_,_,q⟩:=hs;exact Ea q
 | cont=>obtain⟨_,_,_,q⟩:=hs;exact Ea q
section
variable{X:Cx}{x:Str}{p pos:Pos}{e:Oe}{a:Ms Oe}{t:TA}{b T:String}{r:Ms V->Hp->VK->Prop}
noncomputable def Hl(r:Ms V->Hp->VK->Prop)(t:TA):TE:=fun d H Q=>t d H fun f g=>r f g Q
theorem eK (B:Ze X (.builtin b) r) (y:Gl X x) (u:X.mg x=none) (o:bootBuiltins x=ε (.builtin b)) (C:PA X (e::a) t) (q:autoParam (x ≠ "__name__" ) Ñ) (f:autoParam ((x==("__debug__" :Str))=false) Ñ)
 (he:autoParam (starEach (e::a) X.env=(false,eval e X.env)::starEach a X.env) Æ) (hpl:autoParam ((backTo pos (starEach a X.env)).any (·.1)=false) Æ):PE X (.Call (.Name x p) (e::a) [] pos) (Hl r t):=by
 intro d s g H Q I h;refine wpAny_Call_Name_kw (EG I y u o ?_ q f);exact PyProof.Rows.callWith_builtin1 (vB (C pos d s g H _ I h) fun j k ⟨i,E,D,m,n⟩=>B d k g E i j Q D m n) he hpl
theorem bT (B:Ze X (.type T) r) (y:Gl X x) (u:X.mg x=none) (o:bootBuiltins x=ε (.type T)) (C:PA X (e::a) t) (q:autoParam (x ≠ "__name__" ) Ñ) (f:autoParam ((x==("__debug__" :Str))=false) Ñ)
 (he:autoParam (starEach (e::a) X.env=(false,eval e X.env)::starEach a X.env) Æ) (hpl:autoParam ((backTo pos (starEach a X.env)).any (·.1)=false) Æ):PE X (.Call (.Name x p) (e::a) [] pos) (Hl r t):=by
 intro d s g H Q I h;refine wpAny_Call_Name_kw (EG I y u o ?_ q f);exact PyProof.Rows.callWith_type1 (vB (C pos d s g H _ I h) fun j k ⟨i,E,D,m,n⟩=>B d k g E i j Q D m n) he hpl
end
end L2
namespace HT
section
open PySem.SeqAt
open PySem.AutoSeq1 (wpAny_loadPart')
open PySem.MeetsSeq PySem.MeetsSeq2 PySem.MeetsSeq3
end
section
variable{prog:Oo}{w:O4}{A:Pa}{E:Mu->Nu->Prop}{s:Nu}
theorem mv{t b:Oa}{vs a:Ms Mu}{Q:Mu->Nu->Prop}(x:IsTup s.heap t vs.toArray)(y:IsTup s.heap b a.toArray)(p:vs ≠ [])
 (h1:a=[]->Q (.ref t) s) (h2:a ≠ []->Q (.ref s.heap.objs.size) { s with heap:=s.heap.push { cls:=.type "tuple",data:=.seq (vs++a).toArray } })
 (hsz:vs.length+a.length<=sizeLine):wpAny (model prog w) A (binaryOp .Add (.ref t) (.ref b)) Q E s:=by
 obtain⟨⟨cls,r,data,m⟩,j,q,n,hd⟩:=id x;obtain⟨⟨u,i,k,f⟩,d,h,o,g⟩:=id y;simp only at q hd h g;subst q hd h g;have e:vs.toArray++a.toArray=(vs++a).toArray:=by simp
 by_cases hw:a=[]
 . exact concat_meets ⟨_,j,rfl⟩ ⟨_,d,rfl⟩ noFill_tuple_add seq_tuple_add PySem.F.slot_tuple_add PySem.F.entry_tuple_add (PySem.F.args_tuple_add_2 _ _)
    (tuple_addW1 t b vs.toArray a.toArray n o r i m f (by simpa using p) (by simp[hw])) ⟨j,d,h1 hw⟩
 . refine concat_meets ⟨_,j,rfl⟩ ⟨_,d,rfl⟩ noFill_tuple_add seq_tuple_add PySem.F.slot_tuple_add PySem.F.entry_tuple_add (PySem.F.args_tuple_add_2 _ _)
    (tuple_addW2 t b vs.toArray a.toArray n o r i m f (by simpa using p) (by simpa using hw) (by rw[cG,cG];exact hsz)) ⟨j,d,?_⟩
   rw[e];exact h2 hw
noncomputable def sIx(n d:Nat):Ni Int->Nat
 | none=>d
 | some v=>if v<0 then(v+(n:Int)).toNat else min v.toNat n
theorem u9(n d:Nat)(hd:d<=n)(o:Ni Int):sIx n d o<=n:=by
 cases o with
 | none=>exact hd
 | some v=>
  show(if v<0 then(v+(n:Int)).toNat else min v.toNat n)<=n;by_cases a:v<0
  . rw[dh a];omega
  . rw[dG a];exact Nat.min_le_right _ _
theorem NY(v:Int)(n d:Nat):(if v<0 then max (v+(n:Int)) 0 else min v (n:Int))=((sIx n d (ε v):Nat):Int):=by
 show(if v<0 then max (v+(n:Int)) 0 else min v (n:Int))=(((if v<0 then(v+(n:Int)).toNat else min v.toNat n):Nat):Int);by_cases a:v<0
 . simp![dh a];omega
 . simp![dG a];omega
theorem Iz(lo a:Ni Int)(n:Nat):Builtin.Slice.sliceAdjust lo a 1 (n:Int)=(((sIx n 0 lo:Nat):Int),((sIx n n a:Nat):Int)):=by
 have b:¬((1:Int)<0):=by omega
 unfold Builtin.Slice.sliceAdjust;simp![b,eH];refine Prod.ext ?_ ?_
 . cases lo with
   | none=>rfl
   | some v=>exact NY v n 0
 . cases a with
   | none=>rfl
   | some v=>exact NY v n n
theorem Wv(i j:Nat):Builtin.Slice.slicePlaces (i:Int) (j:Int) 1=j-i:=by
 unfold Builtin.Slice.slicePlaces;have a:(1:Int)>0:=by omega
 simp![a,eG,Int.ediv_one];split<;>omega
theorem YW{v:Mu}{o:Ni Int}{Q:Ni Int->Nu->Prop}(p:IsPart v o)(h:Q o s):wpAny (model prog w) A (Builtin.Slice.slicePartIndex v) Q E s:=by
 cases p with
 | none=>exact slicePart_none h
 | int i t=>exact slicePart_int h
theorem Zj{g:Oa}{f e:Mu}{lo b:Ni Int}{n:Nat}{Q:Int×Int×Nat->Nu->Prop}(hs:s.heap.IsSliceOf g f e .none)(pl:IsPart f lo)(i:IsPart e b)
 (h:Q (((sIx n 0 lo:Nat):Int),1,sIx n n b-sIx n 0 lo) s):wpAny (model prog w) A (Builtin.Slice.sliceApplied (.ref g) (pure (n:Int))) Q E s:=by
 obtain⟨os,a,j,d⟩:=id hs;unfold Builtin.Slice.sliceApplied Builtin.Slice.sliceFields;refine ao (ao (Fo a d (x:=f) rfl (ao (Fo a d (x:=e) rfl (ao (Fo a d (x:=.none) rfl (au ?_)))))));refine ao (slicePart_none ?_);show wpAny _ _ (if((1:Int)==0)=true then _ else _) _ _ s;rw[dG (by decide)];refine ao (YW pl (ao (YW i (ao (au ?_)))));show wpAny _ _ (match Builtin.Slice.sliceAdjust lo b 1 (n:Int)with | (lo,b)=>pure (lo,(1:Int),Builtin.Slice.slicePlaces lo b 1)) _ _ s;rw[Iz lo b n];show wpAny _ _ (pure (((sIx n 0 lo:Nat):Int),(1:Int),Builtin.Slice.slicePlaces ((sIx n 0 lo:Nat):Int) ((sIx n n b:Nat):Int) 1)) _ _ s;rw[Wv];exact au h
theorem ug(xs:Pb Mu)(i k:Nat):((List.range k).filterMap fun(m:Nat)=>xs[((i:Int)+(m:Int)*1).toNat]?).toArray=((xs.toList.drop i).take k).toArray:=by
 have e:(fun(m:Nat)=>xs[((i:Int)+(m:Int)*1).toNat]?)=fun m=>xs[i+m]?:=by
  funext m
  have:((i:Int)+(m:Int)*1).toNat=i+m:=by omega
  rw[this]
 rw[e];have:=pick_run xs i k;rw[filterMap_map]at this;have e2:((fun x=>xs[x]?) ∘ fun x=>i+x)=fun m=>xs[i+m]?:=rfl
 rw[e2]at this;rw[this]
theorem mw{t e:Oa}{items:Pb Mu}{n k:Mu}{lo a:Ni Int}{Q:Mu->Nu->Prop}(d:IsTup s.heap t items)(hs:s.heap.IsSliceOf e n k .none)(pl:IsPart n lo)(o:IsPart k a)
 (hw:¬(sIx items.size 0 lo=0/\sIx items.size items.size a=items.size))
 (h:Q (.ref s.heap.objs.size) { s with heap:=s.heap.push { cls:=.type "tuple",data:=.seq ((items.toList.drop (sIx items.size 0 lo)).take (sIx items.size items.size a-sIx items.size 0 lo)).toArray } })
 (hsz:items.size<=sizeLine):wpAny (model prog w) A (getItem (.ref t) (.ref e)) Q E s:=by
 have b:sizeOk (.seq ((items.toList.drop (sIx items.size 0 lo)).take (sIx items.size items.size a-sIx items.size 0 lo)).toArray):=by show((items.toList.drop (sIx items.size 0 lo)).take (sIx items.size items.size a-sIx items.size 0 lo)).toArray.size<=sizeLine;rw[cG,Ba,length_drop,vo];omega
 have x:sIx items.size items.size a<=items.size:=u9 _ _ (Ra _) a;obtain⟨os,f,i,p⟩:=id hs;have j:s.TypeIs (.ref e) "slice" :=⟨os,f,i⟩;unfold getItem
 try with_reducible refine Ds ?_
 first | refine ao (au ?_) | skip
 refine ao (wpAny_sequenceKey d.typeIs (by decide) ?_);refine ao (wpAny_callSpecial?_slot (name:=Str.ofString "__getitem__") d.typeIs PyProof.Rows.slot_tuple_getitem
  (wpAny_call_entry PyProof.Rows.slot_tuple_getitem d.typeIs entry_tuple_getitem ?_ (args_tuple_getitem _ _)))
 show wpAny _ _ (Builtin.Tuple.tupleItemsOf (.ref t) >>=_) _ _ s;refine ao (tupleItemsOf_ d ?_);refine ao (wpAny_typeOf j ?_);rw[dh (by decide)];refine ao (Zj hs pl o ?_);have g:¬((((sIx items.size 0 lo:Nat):Int)==0&&(1:Int)==1&&(sIx items.size items.size a-sIx items.size 0 lo)==items.size)=true):=by intro q;rw[rz,rz]at q;have u:((sIx items.size 0 lo:Nat):Int)=0:=eq_of_beq q.1.1;have r:sIx items.size items.size a-sIx items.size 0 lo=items.size:=eq_of_beq q.2;exact hw ⟨by omega,by omega⟩
 show wpAny _ _ (if(((sIx items.size 0 lo:Nat):Int)==0&&(1:Int)==1&&(sIx items.size items.size a-sIx items.size 0 lo)==items.size)=true then _ else _) _ _ s;rw[dG g,ug]
 first
  | exact ao (m:=Builtin.Tuple.tupleExact _) (yu (au ⟨_,rfl,au h⟩) b)
  | exact ao (m:=Builtin.Tuple.tupleExact _) (yu (ao (au (au ⟨_,rfl,au h⟩))) b)
  | exact ao (ao (m:=Builtin.Tuple.tupleExact _) (yu (au (au ⟨_,rfl,au h⟩)) b))
  | exact ao (ao (m:=Builtin.Tuple.tupleExact _) (yu (au ⟨_,rfl,au h⟩) b))
end
end HT
namespace L2
abbrev TO:=St->Hp->(Ni Int->Hp->Prop)->Prop
def PO(X:Cx)(e:Ni Oe)(t:TO):Prop:=
 ∀(a:Ms (Oa×Obj))(s:Nu)(b:St)(H:Hp)(Q:Ni Int->Hp->Prop),py X a b H s->t b H Q->
  wpAny (model X.prog X.w) X.A (evalPart e X.env) (fun u f=>∃o d,py X a b d f/\IsPart u o/\Q o d) X.xe s
noncomputable def Kc:TO:=fun _ H Q=>Q none H
noncomputable def P9(t:TE):TO:=fun a H Q=>t a H fun x b=>∃i,x=.int i/\Q (ε i) b
theorem ZJ{ns:Ms Int}:∀{us:Ms Mu},p3 (ns.map V.int) us->IntsAre us ns:=by
 induction ns with
 | nil=>intro us r;rw[Uu]at r;cases r;exact .nil
 | cons n ns ih=>
  intro us r;rw[Qs]at r;cases r with
  | cons b a=>obtain⟨t,e⟩:=b;subst e;exact .cons n t (ih a)
section
variable{X:Cx}{e:Oe}{te:TE}{lo c:Ni Oe}{d f:TO}{pos g:Pos}
theorem Dn:PO X none Kc:=by intro a s b H Q I h;rw[evalPart_none];exact au ⟨none,H,I,.none,h⟩
theorem En(h:PE X e te):PO X (ε e) (P9 te):=by
 intro a s b H Q I hw;rw[evalPart_some];refine vB (h a s b H _ I hw) fun u p j=>?_
 obtain⟨x,o,n,k,m⟩:=j;obtain⟨i,rfl,q⟩:=m;obtain⟨t,rfl⟩:=k;exact⟨ε i,o,n,.int i t,q⟩
def P4(X:Cx)(r:V->Ni Int->Ni Int->Hp->VK->Prop):Prop:=
 ∀(a:Ms (Oa×Obj))(s:Nu)(b:St)(H:Hp)(x:V)(v i h:Mu)(lo c:Ni Int)(j:Oa)(Q:VK),py X a b H s->qf x v->s.heap.IsSliceOf j i h .none->IsPart i lo->IsPart h c->r x lo c H Q->
  ∃T k,typeLookup (.type T) "__getitem__" =pure (ε (.builtin k))/\s.TypeIs v T/\wpAny (model X.prog X.w) X.A (getItem v (.ref j)) (EP X a b Q) X.xe s
noncomputable def Vp(r:V->Ni Int->Ni Int->Hp->VK->Prop)(te:TE)(d f:TO):TE:=fun a H Q=>te a H fun x i=>d a i fun l h=>f a h fun u b=>r x l u b Q
theorem bZ{r:V->Ni Int->Ni Int->Hp->VK->Prop}(L:P4 X r)(he:PE X e te)(M:PO X lo d)(G:PO X c f):PE X (.Subscript e (.Slice lo c none g) pos) (Vp r te d f):=by
 intro a s j H Q I h;refine Subscript_ (vB (he a s j H _ I h) fun v y n=>?_);obtain⟨x,Z,W,B,E⟩:=n;refine wpAny_Slice (vB (M a y j Z _ W E) fun m p ⟨l,Y,U,pl,D⟩=>vB (G a p j Y _ U D) fun k i n=>?_);obtain⟨u,o,S,F,C⟩:=n;rw[evalPart_none];refine au ?_;have R:py X a j o { i with heap:=i.heap.push { cls:=.type "slice",data:=.fields #[m,k,.none] } }:=S.kept (t':=i.toks) fun b ob q=>cu _ q
 obtain⟨T,id,P,J,O⟩:=L a { i with heap:=i.heap.push { cls:=.type "slice",data:=.fields #[m,k,.none] } } j o x v m k l u i.heap.objs.size Q R B (Heap.IsSliceOf.new ..) pl F C;show wpAny (model X.prog X.w) X.A (subscriptTail e (.Slice lo c none g) v (.ref i.heap.objs.size)) (EP X a j Q) X.xe { i with heap:=i.heap.push { cls:=.type "slice",data:=.fields #[m,k,.none] } };exact tail_any (ops:=[.ref i.heap.objs.size,v]) J P O (by unhygienic rfl)
def RH(xs:Ms V)(lo c:Ni Int):Ms V:=(xs.drop (HT.sIx xs.length 0 lo)).take (HT.sIx xs.length xs.length c-HT.sIx xs.length 0 lo)
theorem HW(xs:Ms V)(lo c:Ni Int):(RH xs lo c).length<=xs.length:=by unfold RH;rw[Ba,length_drop];omega
def P5(K:Oi):V->Ni Int->Ni Int->Hp->VK->Prop:=fun x lo c H Q=>∃a b,x=.ref a/\nH K H a b/\
 ¬(HT.sIx b.length 0 lo=0/\HT.sIx b.length b.length c=b.length)/\∀p,H p=none->Q (.ref p) (xB H p (.tup (RH b lo c)))
theorem v9:P4 X (P5 X.K):=by
 intro m s C H x v E D lo c F Q I u hs pl y h;obtain⟨a,j,rfl,B,hw,q⟩:=h;cases u;obtain⟨k,r,p,n⟩:=I.tuple B;have i:k.toArray.size=j.length:=by rw[cG];exact r.length.symm
 refine⟨"tuple",_,PyProof.Rows.slot_tuple_getitem.lookup,p.typeIs,?_⟩;refine HT.mw p hs pl y (by rw[i];exact hw) ?_ (by rw[i];exact n);rw[i];refine⟨.ref s.heap.objs.size,_,I.laid (t':=s.toks) (o:=.tup (RH j lo c)) (fun b ob q=>cu _ q) (Ra _) ?_,rfl,q _ (I.hok.fresh (Ra _))⟩;exact⟨n7 (HW j lo c) n,_,(r.drop (HT.sIx j.length 0 lo)).take (HT.sIx j.length j.length c-HT.sIx j.length 0 lo),IsTup.new _ _⟩
def Lj(K:Oi):R2:=fun x y H Q=>∃a b i h,x=.ref a/\y=.ref b/\nH K H a i/\nH K H b h/\i ≠ []/\i.length+h.length<=sizeLine/\
 (h=[]->Q (.ref a) H)/\(h ≠ []->∀p,H p=none->Q (.ref p) (xB H p (.tup (i++h))))
theorem p3.fh{xs:Ms V}{us:Ms Mu}(r:p3 xs us):us=[]↔xs=[]:=by
 cases r with
 | nil=>simp
 | cons _ _=>simp
theorem jr:qv X (binaryOp .Add) (Lj X.K):=by intro k s O H x y v u Q I C B h;obtain⟨a,b,r,p,rfl,rfl,M,L,J,n,E,D⟩:=h;cases C;cases B;obtain⟨G,j,F,_⟩:=I.tuple M;obtain⟨m,i,g,_⟩:=I.tuple L;refine HT.mv F g (fun z=>J (j.fh.mp z)) (fun z=>⟨.ref a,H,I,rfl,E (i.fh.mp z)⟩) (fun z=>?_) (by rw[<- j.length,<- i.length];exact n);refine⟨.ref s.heap.objs.size,_,I.laid (t':=s.toks) (o:=.tup (r++p)) (fun b ob q=>cu _ q) (Ra _) ?_,rfl,D (fun w=>z (i.fh.mpr w)) _ (I.hok.fresh (Ra _))⟩;exact⟨by rw[g8];exact n,_,j.append i,IsTup.new _ _⟩
end
noncomputable def GI(n:Nat)(i:Int):Ni Nat:=if 0<=i then(if i<n then ε i.toNat else none)else if -(n:Int)<=i then ε (i+n).toNat else none
def atI{α:Type}(xs:Ms α)(i:Int):Ni α:=(GI xs.length i).bind fun j=>xs[j]?
theorem JZ{n:Nat}{i:Int}{j:Nat}(h:GI n i=ε j):seqIndex? i n=ε j/\j<n/\-(n:Int)<=i/\i<n:=by
 unfold GI at h;by_cases b:0<=i
 . rw[dh b]at h;by_cases a:i<n
   . rw[dh a]at h;have e:i.toNat=j:=nW h;exact⟨by rw[seqIndex_of b a,e],by omega,by omega,a⟩
   . rw[dG a]at h;cases h
 . rw[dG b]at h;by_cases a:-(n:Int)<=i
   . rw[dh a]at h;have e:(i+n).toNat=j:=nW h;exact⟨by rw[seqIndex_neg nofun a,e],by omega,a,by omega⟩
   . rw[dG a]at h;cases h
theorem dU{a:Type}{xs:Ms a}{i:Int}{v:a}(h:atI xs i=ε v):∃j,seqIndex? i xs.length=ε j/\xs[j]?=ε v/\j<xs.length/\-(xs.length:Int)<=i/\i<xs.length:=by
 unfold atI at h;cases e:GI xs.length i with
 | none=>rw[e]at h;cases h
 | some j=>rw[e]at h;obtain⟨g,f,d,b⟩:=JZ e;exact⟨j,g,h,f,d,b⟩
theorem lD{a:Type}{xs:Ms a}{j:Nat}{v:a}(h:xs[j]?=ε v):atI xs (j:Int)=ε v:=by
 have b:j<xs.length:=(Uo h).1;have e:GI xs.length (j:Int)=ε j:=by unfold GI;rw[dh nofun,dh nofun];simp
 unfold atI;rw[e];exact h
def LY(b:Oe):Prop:=∀o i,subscripted b false o i=operate [o,i] (getItem o i)
def IxR(X:Cx)(r:R2):Prop:=
 ∀(d a:Oe)(b:Ms (Oa×Obj))(s:Nu)(e:St)(H:Hp)(x y:V)(v u:Mu)(Q:VK),py X b e H s->qf x v->qf y u->r x y H Q->
  subscripted a false v u=operate [v,u] (getItem v u)->wpAny (model X.prog X.w) X.A (subscriptTail d a v u) (EP X b e Q) X.xe s
def Ol(X:Cx)(f:String)(r:V->Ms V->Hp->VK->Prop):Prop:=
 ∀(a:Ms (Oa×Obj))(s:Nu)(b:St)(H:Hp)(x:V)(d:Ms V)(v:Mu)(e:Ms Mu)(Q:VK),py X a b H s->qf x v->p3 d e->r x d H Q->
  wpAny (model X.prog X.w) X.A (call (.builtin f) (v::e)) (EP X a b Q) X.xe s
section
variable{X:Cx}{a b:Oe}{E D:TE}{pos:Pos}
theorem IxR.or{r k:R2}(h:IxR X r)(h':IxR X k):IxR X (fun x y H Q=>r x y H Q\/k x y H Q):=by
 intro d e f s g H x y v u Q I j i q hs;rcases q with q | q
 . exact h d e f s g H x y v u Q I j i q hs
 . exact h' d e f s g H x y v u Q I j i q hs
theorem Cj{r:R2}(j:IxR X r)(m:PE X a E)(k:PE X b D)(hs:LY b):PE X (.Subscript a b pos) (hW r E D):=by intro d s e H Q I h;exact Subscript_ (oQ m k I h fun v u f x y o n i g q=>j a b d f e o x y v u Q n i g q (hs _ _))
def bW(K:Oi):R2:=fun x y H Q=>∃p d i v,x=.ref p/\y=.int i/\qq K H p d/\atI d i=ε v/\Q v H
def dW(K:Oi):R2:=fun x y H Q=>∃p d i v,x=.ref p/\y=.int i/\nH K H p d/\atI d i=ε v/\Q v H
def cW:R2:=fun x y H Q=>∃z i c,x=.str z/\y=.int i/\z.length<=sizeLine/\atI z.cps.toList i=ε c/\Q (.str ⟨#[c]⟩) H
theorem my:IxR X (bW X.K):=by
 intro g k d s B H x y v u Q I L J h hs;obtain⟨p,U,i,z,rfl,rfl,M,P,q⟩:=h;cases L;obtain⟨t,rfl⟩:=J;obtain⟨n,r,pl,W⟩:=I.list M;obtain⟨j,f,T,Z,S,R⟩:=dU P;obtain⟨w,F,m⟩:=r.get T;have O:=r.length;have Y:=sK;have e:EP X d B Q w s:=⟨z,H,I,m,q⟩;by_cases C:0<=i
 . have o:i.toNat=j:=by rw[seqIndex_of C R]at f;exact nW f
   exact item_listR pl.isList C nofun (by rw[o];simpa using F) e hs
 . have o:(i+(n.toArray.size:Int)).toNat=j:=by rw[seqIndex_neg nofun S]at f;rw[cG,<- O];exact nW f
   exact subscriptTail_builtinR (x:=w) pl.isList.typeIs slot_list_getitem.lookup
    (wpAny_getItem_list_neg (Q:=fun r G=>r=w/\EP X d B Q r G) pl.isList nofun (by rw[cG]<;>omega) nofun (by rw[o];simpa using F) ⟨rfl,e⟩) hs
theorem nb:IxR X (dW X.K):=by
 intro e f d s m H x y v u Q I B o h hs;obtain⟨p,P,i,z,rfl,rfl,F,J,q⟩:=h;cases B;obtain⟨t,rfl⟩:=o;obtain⟨C,r,pl,R⟩:=I.tuple F;obtain⟨j,M,L,W,U,T⟩:=dU J;obtain⟨w,O,g⟩:=r.get L;have G:=r.length;have S:=sK;have k:EP X d m Q w s:=⟨z,H,I,g,q⟩;exact subscriptTail_builtinR (x:=w) pl.typeIs slot_tuple_getitem.lookup
  (getItem_tuple (j:=j) (Q:=fun r n=>r=w/\EP X d m Q r n) pl nofun nofun (by rw[cG,<- G];exact M) (by simpa using O) ⟨rfl,k⟩) hs
theorem e8:IxR X cW:=by
 intro d e f s F H x y v u Q I m k h hs;obtain⟨z,i,c,rfl,rfl,J,o,q⟩:=h;obtain⟨t,rfl⟩:=m;obtain⟨G,rfl⟩:=k;obtain⟨j,g,B,M,r,p⟩:=dU o;have n:z.cps.toList.length=z.length:=by simp[Str.length]
 rw[n]at g r p;have L:=sK;exact tail_any (typeIs_str s z t) slot_str_getitem.lookup (getItem_str (c:=c) (by
  have C:decide (i < -(2^63:Int))=false:=eN nofun;have e2:decide (i >=2^63)=false:=eN nofun;rw[C,e2,Bool.or_false]) (by rw[g];simpa using B) ⟨.str ⟨#[c]⟩,H,I.tok _,⟨_,rfl⟩,q⟩) hs
def El(K:Oi):R2:=fun x y H Q=>bW K x y H Q\/dW K x y H Q\/cW x y H Q
theorem b8:IxR X (El X.K):=my.or (nb.or e8)
theorem Tv (its:Ms Mu) (n j:Nat) (u:Mu):Obj.mapSeq (·.setIfInBounds j u) { cls:=.type "list",data:=.seq its.toArray n }={ cls:=.type "list",data:=.seq (its.set j u).toArray n }:=by simp[Obj.mapSeq]
theorem py.lst{d:Ms (Oa×Obj)}{f:St}{H:Hp}{s:Nu}{p:Oa}{xs:Ms V}(I:py X d f H s)(h:H p=ε (.lst xs)) :
 ∃(its:Ms Mu) (n:Nat),p3 xs its/\s.heap.get? p=ε { cls:=.type "list",data:=.seq its.toArray n }/\xs.length<=sizeLine:=by
 obtain⟨z,its,n,r,e⟩:=I.hok p _ h;exact⟨its,n,r,e,z⟩
theorem py.nc{d:Ms (Oa×Obj)}{i:St}{H:Hp}{s:Nu}{p:Oa}{xs ys:Ms V}{its its':Ms Mu}{n g:Nat}{f:Obj->Obj}(I:py X d i H s)(h:H p=ε (.lst xs))
 (k:s.heap.get? p=ε { cls:=.type "list",data:=.seq its.toArray n }) (j:f { cls:=.type "list",data:=.seq its.toArray n }={ cls:=.type "list",data:=.seq its'.toArray g }) (r:p3 ys its') (hz:ys.length<=sizeLine) (t:Nat) :
 py X d i (xB H p (.lst ys)) { s with heap:=s.heap.update p f,toks:=t }:=by
 have e:(s.heap.update p f).get? p=ε { cls:=.type "list",data:=.seq its'.toArray g }:=by rw[Fd f k (by rw[j]<;>rfl),j]
 refine I.write (x:=p) (e:=p) (by rw[h];trivial) (.inl rfl) (fun b u m q=>(tu _ _ (m5 m)).trans q) ⟨_,e⟩ ?_;exact⟨hz,its',g,r,e⟩
def B9:V->V->V->Hp->(Hp->Prop)->Prop:=fun o i v H Q=>∃p d k j,o=.ref p/\i=.int k/\H p=ε (.lst d)/\GI d.length k=ε j/\Q (xB H p (.lst (d.set j v)))
theorem yt:SV X B9:=by
 intro d s J H o i v T U u Q I O P M h;obtain⟨p,L,k,j,rfl,rfl,y,S,q⟩:=h;cases O;obtain⟨t,rfl⟩:=P;obtain⟨e,n,r,g,R⟩:=I.lst y;obtain⟨f,Y,C,B⟩:=JZ S;have m:=r.length;have W:=sK;have G:py X d J (xB H p (.lst (L.set j v))) { s with heap:=s.heap.update p (Obj.mapSeq (·.setIfInBounds j u)) }:=
  I.nc y g (Tv e n j u) (r.set M j) (by rw[Ju];exact R) s.toks
 by_cases F:0<=k
 . have x:k.toNat=j:=by rw[seqIndex_of F B]at f;exact nW f
   exact PySem.W.ki_setAt g F nofun (by rw[cG,<- m];exact B) (by rw[x];exact⟨_,G,q⟩)
 . have x:(k+(e.toArray.size:Int)).toNat=j:=by rw[seqIndex_neg nofun C]at f;rw[cG,<- m];exact nW f
   exact PySem.W.ki_setBack g nofun (by rw[cG,<- m];exact C) nofun (by rw[x];exact⟨_,G,q⟩)
theorem Az(lo d:Ni Int)(n:Nat):(sliceBounds lo d none n).1=((HT.sIx n 0 lo:Nat):Int)/\(sliceBounds lo d none n).2.1=((HT.sIx n n d:Nat):Int)/\(sliceBounds lo d none n).2.2=1:=by
 refine⟨?_,?_,rfl⟩
 . cases lo with
   | none=>simp[sliceBounds,HT.sIx]
   | some i=>
    simp![sliceBounds,HT.sIx,Option.getD_none,show(1:Int)>0 by decide,eG];by_cases h:i<0
    . simp![h,eG]<;>omega
    . simp![h,eH]<;>omega
 . cases d with
   | none=>simp[sliceBounds,HT.sIx]
   | some i=>
    simp![sliceBounds,HT.sIx,Option.getD_none,show(1:Int)>0 by decide,eG];by_cases h:i<0
    . simp![h,eG]<;>omega
    . simp![h,eH]<;>omega
theorem Xq(its:Ms Mu)(lo d:Ni Int):slicePick its.toArray lo d none=((its.drop (HT.sIx its.length 0 lo)).take (HT.sIx its.length its.length d-HT.sIx its.length 0 lo)).toArray:=by obtain⟨g,f,e⟩:=Az lo d its.toArray.size;unfold slicePick;rw[g,f,e];simp![sliceRange_one,pick_run,cG]<;>rfl
def N5(K:Oi):V->Ni Int->Ni Int->Hp->VK->Prop:=fun x e f H Q=>∃a d,x=.ref a/\qq K H a d/\∀p,H p=none->Q (.ref p) (xB H p (.lst (RH d e f)))
theorem Dc:P4 X (N5 X.K):=by intro i s y H x v C B f g F Q I k hs pl m h;obtain⟨a,d,rfl,u,q⟩:=h;cases k;obtain⟨n,r,j,p⟩:=I.list u;have e:=r.length;refine⟨"list",_,slot_list_getitem.lookup,j.isList.typeIs,?_⟩;refine wpAny_getItem_list_slice j.isList hs pl m .none ⋯ ?_ (by rw[cG]<;>omega);rw[Xq,<- e];refine⟨.ref s.heap.objs.size,_,I.laid (t':=s.toks) (o:=.lst (RH d f g)) (fun b ob q=>cu _ q) (Ra _) ?_,rfl,q _ (I.hok.fresh (Ra _))⟩;exact⟨n7 (HW d f g) p,_,0,(r.drop (HT.sIx d.length 0 f)).take (HT.sIx d.length d.length g-HT.sIx d.length 0 f),je _ rfl⟩
noncomputable def jH:V->Bool
 | .non=>true
 | .bl _=>true
 | .int _=>true
 | .str _=>true
 | _=>false
noncomputable def pN:V->V->Bool
 | .non,.non=>true
 | .bl a,.bl b=>a==b
 | .bl a,.int b=>(if a then 1 else 0)==b
 | .int a,.bl b=>a==(if b then 1 else 0)
 | .int a,.int b=>a==b
 | .str a,.str b=>a==b
 | _,_=>false
theorem M7{A:Pa}{s:Nu}{y x:V}{u v:Mu}(f:qf y u)(d:qf x v)(fy:jH y=true)(g:jH x=true):SeqAt.EqAt A s u v (pN y x):=by
 cases y with
 | non=>
  cases f;cases x with
  | non=>cases d;exact SeqAt.EqAt.same _
  | bl b=>cases d;exact SeqAt.EqAt.none_bool b
  | int b=>obtain⟨t,rfl⟩:=d;exact SeqAt.EqAt.none_int b t
  | str b=>obtain⟨t,rfl⟩:=d;exact SeqAt.EqAt.none_str b t
  | _=>exact Ci (show false=true from g) Va
 | bl a=>
  cases f;cases x with
  | non=>cases d;exact SeqAt.EqAt.bool_none a
  | bl b=>cases d;exact SeqAt.EqAt.bool_bool a b
  | int b=>obtain⟨t,rfl⟩:=d;exact SeqAt.EqAt.bool_int a b t
  | str b=>obtain⟨t,rfl⟩:=d;exact SeqAt.EqAt.bool_str a b t
  | _=>exact Ci (show false=true from g) Va
 | int a=>
  obtain⟨e,rfl⟩:=f;cases x with
  | non=>cases d;exact SeqAt.EqAt.int_none a e
  | bl b=>cases d;exact SeqAt.EqAt.int_bool a e b
  | int b=>obtain⟨t,rfl⟩:=d;exact SeqAt.EqAt.int_int a e b t
  | str b=>obtain⟨t,rfl⟩:=d;exact SeqAt.EqAt.int_str a e b t
  | _=>exact Ci (show false=true from g) Va
 | str a=>
  obtain⟨e,rfl⟩:=f;cases x with
  | non=>cases d;exact SeqAt.EqAt.str_none a e
  | bl b=>cases d;exact SeqAt.EqAt.str_bool a e b
  | int b=>obtain⟨t,rfl⟩:=d;exact SeqAt.EqAt.str_int a e b t
  | str b=>obtain⟨t,rfl⟩:=d;exact SeqAt.EqAt.str_str a e b t
  | _=>exact Ci (show false=true from g) Va
 | _=>exact Ci (show false=true from fy) Va
def EI(x:V)(u:Mu):Bool:=match u with
 | .none=>pN .non x
 | .bool b=>pN (.bl b) x
 | .int i _=>pN (.int i) x
 | .str z _=>pN (.str z) x
 | _=>false
theorem o0{x y:V}{u:Mu}(r:qf y u)(f:jH y=true):EI x u=pN y x:=by
 cases y with
 | non=>cases r;rfl
 | bl b=>cases r;rfl
 | int i=>obtain⟨t,rfl⟩:=r;rfl
 | str z=>obtain⟨t,rfl⟩:=r;rfl
 | _=>exact Ci (show false=true from f) Va
theorem cM{x:V}:∀{xs:Ms V}{us:Ms Mu},p3 xs us->xs.all jH=true->us.any (EI x)=xs.any fun y=>pN y x
 | _,_,.nil,_=>rfl
 | y::xs,u::us,.cons r t,f=>by rw[Js,rz]at f;rw[Jo,Jo,o0 r f.1,cM t f.2]
theorem WL{A:Pa}{s:Nu}{x:V}{v:Mu}(d:qf x v)(e:jH x=true):∀{xs:Ms V}{us:Ms Mu},p3 xs us->xs.all jH=true->∀u∈us,SeqAt.EqAt A s u v (EI x u)
 | _,_,.nil,_=>fun u hu=>by cases hu
 | y::xs,u::us,.cons r t,f=>fun g hu=>by
  rw[Js,rz]at f;rcases zu.mp hu with rfl | hu
  . rw[o0 r f.1];exact M7 r d f.1 e
  . exact WL d e t f.2 g hu
def dQ(x:V)(xs:Ms V):Bool:=xs.any fun y=>pN y x
def M5(K:Oi)(neg:Bool):R2:=fun x y H Q=>∃p d,y=.ref p/\(qq K H p d\/nH K H p d)/\jH x=true/\d.all jH=true/\Q (.bl (if neg then !dQ x d else dQ x d)) H
theorem Vy:qv X (compareOp .In) (M5 X.K false):=by
 intro f s k H x y v u Q I e i h;obtain⟨p,m,rfl,hq,g,fs,q⟩:=h;cases i;rcases hq with hq | hq
 . obtain⟨d,r,pl,j⟩:=I.list hq;refine SeqAt.in_listAt (EI x) pl.isList (fun w hw=>WL e g r fs w (by simpa using hw)) ⟨.bl _,H,I,rfl,?_⟩;rw[show d.toArray.any (EI x)=d.any (EI x) by simp,cM r fs];exact q
 . obtain⟨d,r,pl,j⟩:=I.tuple hq;refine SeqAt.in_tupleAt (EI x) pl (fun w hw=>WL e g r fs w (by simpa using hw)) ⟨.bl _,H,I,rfl,?_⟩;rw[show d.toArray.any (EI x)=d.any (EI x) by simp,cM r fs];exact q
theorem mz:qv X (compareOp .NotIn) (M5 X.K true):=by
 intro f s k H x y v u Q I e i h;obtain⟨p,m,rfl,hq,g,fs,q⟩:=h;cases i;rcases hq with hq | hq
 . obtain⟨d,r,pl,j⟩:=I.list hq;refine SeqAt.notIn_listAt (EI x) pl.isList (fun w hw=>WL e g r fs w (by simpa using hw)) ⟨.bl _,H,I,rfl,?_⟩;rw[show d.toArray.any (EI x)=d.any (EI x) by simp,cM r fs];exact q
 . obtain⟨d,r,pl,j⟩:=I.tuple hq;refine SeqAt.notIn_tupleAt (EI x) pl (fun w hw=>WL e g r fs w (by simpa using hw)) ⟨.bl _,H,I,rfl,?_⟩;rw[show d.toArray.any (EI x)=d.any (EI x) by simp,cM r fs];exact q
theorem Ax:Ze X (.builtin "len") (fun i H Q=>∃p e,i=[.ref p]/\(qq X.K H p e\/nH X.K H p e)/\Q (.int e.length) H):=by
 intro j s n H i o Q I r h;obtain⟨p,e,rfl,hq,q⟩:=h;obtain⟨u,rfl,k⟩:=HF r;cases k;have x:=sK;rcases hq with hq | hq
 . obtain⟨g,f,pl,m⟩:=I.list hq;have d:=f.length;exact Calls.call_len_list pl.isList (by simp![cG]<;>omega) ⟨.int e.length,H,I.tok _,⟨s.toks+1,by rw[cG,d]⟩,q⟩
 . obtain⟨g,f,pl,m⟩:=I.tuple hq;have d:=f.length;exact len_tuple pl (by simp![cG]<;>omega) ⟨.int e.length,H,I.tok _,⟨s.toks+1,by rw[cG,d]⟩,q⟩
theorem Bx:Ze X (.builtin "len") (fun d H Q=>∃z,d=[.str z]/\z.length<=sizeLine/\Q (.int z.length) H):=by intro e s f H d g Q I r h;obtain⟨z,rfl,i,q⟩:=h;obtain⟨u,rfl,t,rfl⟩:=HF r;have j:=sK;exact len_str nofun ⟨.int z.length,H,I.tok _,⟨_,rfl⟩,q⟩
theorem Ze.or{f:Mu}{r k:Ms V->Hp->VK->Prop}(h:Ze X f r)(h':Ze X f k):Ze X f (fun e H Q=>r e H Q\/k e H Q):=by
 intro d s g H e i Q I j q;rcases q with q | q
 . exact h d s g H e i Q I j q
 . exact h' d s g H e i Q I j q
theorem Fx:Ze X (.type "list") (fun F H Q=>∃p g,F=[.ref p]/\(qq X.K H p g\/nH X.K H p g)/\∀l,H l=none->Q (.ref l) (xB H l (.lst g))):=by
 intro k s J H F M Q I r h;obtain⟨p,g,rfl,hq,q⟩:=h;obtain⟨u,rfl,L⟩:=HF r;cases L;have y:∀(d:Ms Mu),p3 g d->g.length<=sizeLine->∀(f:Pu)(j:Nat),(∀b G,s.heap.get? b=ε G->f.get? b=ε G)->
  f.get? s.heap.objs.size=ε { cls:=.type "list",dict:=none,data:=.seq d.toArray j,slots:=#[] }->EP X k J Q (.ref s.heap.objs.size) { s with heap:=f }:=fun d i m f j kp e=>
  ⟨.ref s.heap.objs.size,_,I.laid (t':=s.toks) kp (Ra _) (show Xa X.prog X.w _ f _ (.lst g)from⟨m,d,j,i,e⟩),rfl,q _ (I.hok.fresh (Ra _))⟩
 rcases hq with hq | hq
 . obtain⟨d,i,pl,m⟩:=I.list hq;have x:=i.length;obtain⟨o,B,C,n,hd⟩:=pl.isList;exact call_list_seq p (.inl rfl) B C hd (fun f j kp e=>y d i m f j kp e) (by simp![cG]<;>omega)
 . obtain⟨d,i,pl,m⟩:=I.tuple hq;have x:=i.length;obtain⟨o,B,C,n,hd⟩:=pl;exact call_list_seq p (.inr rfl) B C hd (fun f j kp e=>y d i m f j kp e) (by simp![cG]<;>omega)
def A6(K:Oi)(T:String)(x:V)(H:Hp):Prop:=match x with
 | .str _=>T = "str"
 | .int _=>T = "int"
 | .ref p=>(T = "list" /\ ∃e,qq K H p e)\/(T = "tuple" /\ ∃o,K.lookup p=ε o/\o.cls=.type "tuple" /\ o.dict=none)\/
  (T = "dict" /\ ((∃d,H p=ε (.dK d))\/∃d,H p=ε (.dT d)))\/(T = "set" /\ ∃S n,H p=ε (.set S n))
 | _=>False
theorem F8{f:Ms (Oa×Obj)}{j:St}{H:Hp}{s:Nu}{T:String}{x:V}{v:Mu}(I:py X f j H s)(r:qf x v)(g:A6 X.K T x H) :
 s.TypeIs v T/\∀a,v=.ref a->∃ob,s.heap.get? a=ε ob/\ob.dict=none:=by
 cases x with
 | str z=>obtain⟨t,rfl⟩:=r;cases (show T = "str" from g);exact⟨typeIs_str s z t,fun _ e=>nomatch e⟩
 | int i=>obtain⟨t,rfl⟩:=r;cases (show T = "int" from g);exact⟨typeIs_int s i t,fun _ e=>nomatch e⟩
 | ref p=>
  cases r;rcases g with⟨rfl,u,m⟩ | ⟨rfl,o,d,q,hd⟩ | ⟨rfl,d⟩ | ⟨rfl,S,n,d⟩
  . obtain⟨k,_,pl,_⟩:=I.list m;refine⟨pl.isList.typeIs,fun a e=>?_⟩;cases e;obtain⟨o,n,e,c,hd,_⟩:=pl;exact⟨o,e,hd⟩
  . refine⟨⟨o,I.kIn p o d,q⟩,fun a e=>?_⟩;cases e;exact⟨o,I.kIn _ o d,hd⟩
  . have z:∃o,s.heap.get? p=ε o/\o.ExactDict:=by
     rcases d with⟨h,d⟩ | ⟨h,d⟩
     . obtain⟨_,_,_,_,o,_,_,e,ex,_⟩:=I.hok p _ d;exact⟨o,e,ex⟩
     . obtain⟨_,_,_,_,o,_,_,e,ex,_⟩:=I.hok p _ d;exact⟨o,e,ex⟩
    obtain⟨o,e,ex⟩:=z;refine⟨⟨o,e,ex.1⟩,fun a e2=>?_⟩;cases e2;exact⟨o,e,ex.2.1⟩
  . obtain⟨o,_,_,_,e,ex,_⟩:=I.hok p _ d;refine⟨⟨o,e,ex.1⟩,fun a e2=>?_⟩;cases e2;exact⟨o,e,ex.2.1⟩
 | _=>exact Ea g
noncomputable def Lp(K:Oi)(T:String)(r:V->Ms V->Hp->VK->Prop)(B:TE)(t:TA):TE:=fun d H Q=>B d H fun x e=>A6 K T x e/\t d e fun f g=>r x f g Q
variable{o e:Oe}{g:Ms Oe}{B:TE}{t:TA}{name:Str}{m d:Pos}{T C:String}{r:V->Ms V->Hp->VK->Prop}
theorem EV (W:PlainAttrs T) (slot:Slot T name C) (q:typeOf (.builtin C)=pure (.type "method_descriptor")) (Z:Ol X C r) (Y:PE X o B) (ha:PA X (e::g) t)
 (k:autoParam (attributeBase o name X.env (eval o X.env)=eval o X.env) Æ)
 (n:((backTo d (starEach (e::g) X.env)).all (fun x=>!x.1)&&(backToKw d (keywordEach [] X.env)).all (fun x=>x.1.isSome)
  && decide ((e::g).length+([]:Ms Keyword).length+(if([]:Ms Keyword).isEmpty then 0 else 1)<30))=true:=by rfl)
 (j:autoParam ((m.endLine==d.line)=true) Æ) (hs:autoParam (starEach (e::g) X.env=(false,eval e X.env)::starEach g X.env) Æ) (i:autoParam ((backTo d (starEach g X.env)).any (·.1)=false) Æ) :
 PE X (.Call (.Attribute o name m) (e::g) [] d) (Lp X.K T r B t):=by
 intro f s p H Q I h;refine wpAny_Call_method_late k n j rfl (vB (Y f s p H _ I h) fun v P G=>?_);obtain⟨x,H1,F,u,M,U⟩:=G;obtain⟨h1,h2⟩:=F8 F u M;refine⟨T,C,W,slot,q,h1,h2,?_⟩;have y:=ha d f P p H1 _ F U;rw[hs]at y ⊢;refine Calls.callWith_builtin (by show(false || (backTo d (starEach g X.env)).any (·.1))=false;rw[i]<;>rfl) (Calls.evalArgs_plain ?_);exact vB y fun L O ⟨J,H2,I2,R,S⟩=>Z f O p H2 x J v L Q I2 u R S
end
def K4(X:Cx)(f:String)(r:V->Ms V->Hp->VK->Prop):Prop:=
 ∀(a:Ms (Oa×Obj))(s:Nu)(b:St)(H:Hp)(x:V)(d:Ms V)(v:Mu)(e:Ms Mu)(Q:VK),py X a b H s->qf x v->p3 d e->r x d H Q->
  wpAny (model X.prog X.w) X.A (call (.builtin f) (v::e)) (EP X a b Q) X.xe s
theorem p3.one:∀{x:V}{us:Ms Mu},p3 [x] us->∃u,us=[u]/\qf x u
 | _,_,.cons r .nil=>⟨_,rfl,r⟩
theorem p3.eraseIdx:∀{xs:Ms V}{us:Ms Mu}(i:Nat),p3 xs us->p3 (xs.eraseIdx i) (us.eraseIdx i)
 | _,_,_,.nil=>.nil
 | _,_,0,.cons _ t=>t
 | _,_,i+1,.cons r t=>.cons r (p3.eraseIdx i t)
theorem p3.rep{xs:Ms V}{us:Ms Mu}(h:p3 xs us):∀k:Nat,p3 (List.replicate k xs).flatten (List.replicate k us).flatten
 | 0=>.nil
 | k+1=>by rw[Ke,Ke,flatten_cons,flatten_cons];exact p3.append h (p3.rep h k)
theorem QX{a:Type}:∀(l:Ms a)(i:Nat),(l.eraseIdx i).length<=l.length
 | [],_=>Ra _
 | _::_,0=>Nat.le_succ _
 | _::r,i+1=>Nat.succ_le_succ (QX r i)
theorem wX(its:Ms Mu):∀(k:Nat)(a:Ms Mu),
 List.foldl (fun d b=>d++b) a.toArray (List.replicate k its.toArray)=(a++(List.replicate k its).flatten).toArray
 | 0,a=>by simp
 | k+1,a=>by
  have e:a.toArray++its.toArray=(a++its).toArray:=by simp
  have e2:(a++its)++(List.replicate k its).flatten=a++(List.replicate (k+1) its).flatten:=by rw[Ke,flatten_cons,nu]
  rw[<- e2,<- wX its k (a++its),<- e,Ke,foldl_cons]
section
variable{X:Cx}{a:Ms (Oa×Obj)}{c:St}{H:Hp}{s:Nu}{l b:Oa}{xs ys zs:Ms V}
theorem py.fk{its its':Ms Mu}{n:Nat}{f:Pb Mu->Pb Mu}{t':Nat}(I:py X a c H s)(j:H l=ε (.lst xs))
 (e:s.heap.get? l=ε { cls:=.type "list",data:=.seq its.toArray n }) (h:f its.toArray=its'.toArray) (d:p3 ys its') (hz:ys.length<=sizeLine) :
 py X a c (xB H l (.lst ys)) { s with heap:=s.heap.update l (Obj.mapSeq f),toks:=t' }:=by
 have q:=PySem.IsL.update e f;rw[h]at q;refine I.write (x:=l) (e:=l) (by rw[j];exact trivial) (.inl rfl) (fun k u i g=>(tu s.heap (Obj.mapSeq f) (m5 i)).trans g) ⟨_,q⟩ ?_;exact⟨hz,its',_,d,q⟩
theorem py.fq{its:Ms Mu}{t':Nat}(I:py X a c H s)(d:p3 ys its)(hz:ys.length<=sizeLine) :
 py X a c (xB H s.heap.objs.size (.lst ys)) { s with heap:=s.heap.push { cls:=.type "list",data:=.seq its.toArray },toks:=t' }:=
 I.laid (fun _ _ q=>cu _ q) (Ra _) ⟨hz,its,0,d,je _ rfl⟩
theorem py.fresh(I:py X a c H s):H s.heap.objs.size=none:=I.hok.fresh (Ra _)
theorem py.dm (I:py X a c H s) (d:H l=ε (.lst xs)):xs.length<=sizeLine/\∃(its:Ms Mu) (n:Nat),p3 xs its/\xs.length=its.length/\s.heap.get? l=ε { cls:=.type "list",data:=.seq its.toArray n }:=by obtain⟨z,its,n,r,e⟩:=I.hok l _ d;exact⟨z,its,n,r,r.length,e⟩
theorem rY{n:Nat}(h:n<=sizeLine):Builtin.List.listTooLong n=false:=by unfold Builtin.List.listTooLong;exact eN nofun
end
section
variable{X:Cx}
def rm:V->Ms V->Hp->VK->Prop:=fun x b H Q=>∃l a y,x=.ref l/\b=[y]/\H l=ε (.lst a)/\a.length<sizeLine/\Q .non (xB H l (.lst (a++[y])))
theorem RX:K4 X "list.append" rm:=by intro b s j H x m v o Q I f g h;obtain⟨l,k,y,rfl,rfl,d,p,q⟩:=h;cases f;obtain⟨u,rfl,i⟩:=g.one;obtain⟨z,a,n,r,B,e⟩:=I.dm d;refine call_meets F.slot_list_append ⟨_,e,rfl⟩ F.entry_list_append (F.args_list_append_2 _ _) (PySem.list_append l a.toArray n u (by rw[cG];omega)) ⟨e,?_⟩;refine⟨.non,_,I.fk (its':=a++[u]) d e ⋯ (r.append (.cons i .nil)) ?_,rfl,q⟩;rw[g8,length_singleton];omega
def um:V->Ms V->Hp->VK->Prop:=fun x d H Q=>∃l b a zs,x=.ref l/\d=[.ref b]/\H l=ε (.lst a)/\H b=ε (.lst zs)/\a.length+zs.length<=sizeLine/\Q .non (xB H l (.lst (a++zs)))
theorem Qy:K4 X "list.extend" um:=by
 intro i s D H x J v L Q I k m h;obtain⟨l,b,G,zs,rfl,rfl,j,C,M,q⟩:=h;cases k;obtain⟨u,rfl,o⟩:=m.one;cases o;obtain⟨z,d,n,r,O,e⟩:=I.dm j;obtain⟨E,a,y,p,B,e2⟩:=I.dm C;have g:d.toArray.size+a.toArray.size<=sizeLine:=by rw[cG,cG];omega
 have f:¬(!d.toArray.isEmpty&&Builtin.List.listTooLong (d.toArray.size+a.toArray.size))=true:=by rw[rY g,Ge];exact Va
 refine call_meets F.slot_list_extend ⟨_,e,rfl⟩ F.entry_list_extend (F.args_list_extend_2 _ _)
  (AutoSeq1.list_extend_list_list_0 l d.toArray n b a.toArray y f (by rw[cG];omega) nofun) ⟨e,e2,?_⟩
 refine⟨.non,_,I.fk (its':=d++a) j e ⋯ (r.append p) ?_,rfl,q⟩;rw[g8];omega
def p9:V->Ms V->Hp->VK->Prop:=fun x b H Q=>∃l a i k y,x=.ref l/\b=[.int i]/\H l=ε (.lst a)/\-(2^63)<=i/\i<2^63/\seqIndex? i a.length=ε k/\a[k]?=ε y/\Q y (xB H l (.lst (a.eraseIdx k)))
theorem Qg:K4 X "list.pop" p9:=by
 intro d s G H x J v L Q I j m h;obtain⟨l,g,i,k,y,rfl,rfl,f,E,D,C,p,q⟩:=h;cases j;obtain⟨u,rfl,o⟩:=m.one;obtain⟨t,rfl⟩:=o;obtain⟨z,a,n,r,B,e⟩:=I.dm f;obtain⟨w,hw,b⟩:=r.get p;refine call_meets F.slot_list_pop ⟨_,e,rfl⟩ F.entry_list_pop (F.args_list_pop_2 _ _)
  (MeetsSeq.list_pop_at l a.toArray n i t k w (fitsIndex_both E D) (by rw[cG,<- B];exact C) (by rw[<- Array.getElem?_toList];exact hw) (by rw[cG];omega)) ⟨e,?_⟩
 refine⟨y,_,I.fk (its':=a.eraseIdx k) f e ?_ (r.eraseIdx k) ?_,b,q⟩
 . show a.toArray.eraseIdxIfInBounds k=(a.eraseIdx k).toArray;rw[eraseIdxIfInBounds_toArray]
 . have:=QX g k;omega
def eW:R2:=fun x y H Q=>∃l k a,x=.ref l/\y=.int k/\H l=ε (.lst a)/\-(2^63)<=k/\k<2^63/\a.length*k.toNat<=sizeLine/\
 ∀p,H p=none->Q (.ref p) (xB H p (.lst (List.replicate k.toNat a).flatten))
theorem uf{a:Type}(xs:Ms a)(k:Nat):(List.replicate k xs).flatten.length=k*xs.length:=by
 induction k with
 | zero=>simp
 | succ k ih=>rw[Ke,flatten_cons,g8,ih,Nat.succ_mul,Nat.add_comm]
theorem Y0:qv X (binaryOp .Mult) eW:=by
 intro B s R H x y v u Q I G E h;obtain⟨l,k,S,rfl,rfl,L,O,M,C,q⟩:=h;cases G;obtain⟨t,rfl⟩:=E;obtain⟨z,b,n,r,J,e⟩:=I.dm L;have f:b.toArray.size*k.toNat<=sizeLine:=by rw[cG,<- J];exact C
 have i:¬b.toArray.size*k.toNat>(2^63-1)/8:=by
  have:(sizeLine:Nat)<=(2^63-1)/8:=by decide
  omega
 have g:¬(!Builtin.List.listFitsIndex k)=true:=by rw[fitsIndex_both O M];exact Va
 have j:¬Builtin.List.listTooLong (b.toArray.size*k.toNat)=true:=by rw[rY f];exact Va
 have d:List.foldl (fun p o=>p++o) #[] (List.replicate (if b.toArray.isEmpty=true then 0 else k.toNat) b.toArray)=(List.replicate k.toNat b).flatten.toArray:=by
  have P:∀m:Nat,List.foldl (fun p o=>p++o) #[] (List.replicate m b.toArray)=(List.replicate m b).flatten.toArray:=fun m=>by have:=wX b m [];rw[Ui]at this;exact this
  rw[P];cases b with
  | nil=>simp
  | cons a W=>rw[dG ⋯]
 refine wpAny_binaryOp_repeat_ref (T := "list") (U := "int") (by decide) ⟨_,e,rfl⟩ (fun D=>typeIs_int D k t) noFill_list_mul F.fills_int_mul F.slot_int_rmul repeat_list F.slot_int_index.lookup
  (call_meets F.slot_int_rmul (typeIs_int s k t) F.entry_int_rmul (F.args_int_rmul_2 _ _) (int___rmul___int_list k t l b.toArray n)
   ⟨e,rfl,⟨_,e,rfl⟩,call_meets F.slot_list_mul ⟨_,e,rfl⟩ F.entry_list_mul (F.args_list_mul_2 _ _) (AutoListH.list___mul___list_int_3 l b.toArray n k t g i j) ⟨e,?_⟩⟩)
 rw[d];exact⟨.ref _,_,I.fq (t':=s.toks) (r.rep k.toNat) (by rw[uf,Nat.mul_comm];exact C),rfl,q _ I.fresh⟩
end
section
variable{prog:Oo}{w:O4}{A:Pa}{E:Mu->Nu->Prop}{s:Nu}
end
section
variable{X:Cx}
end
end L2
namespace Att
open PySem.W PySem.Calls
theorem Lq{P:Params}{h:Pu}:∀(ns:Ms Int)(vs:Ms Mu),WellAll P h vs (ns.map WData.int)->IntsAre vs ns:=by
 intro ns
 induction ns with
 | nil=>intro vs w;rw[Uu]at w;cases w;exact .nil
 | cons n ns ih=>
  intro vs w;rw[Qs]at w;cases w with
  | cons a b=>cases a;exact .cons _ _ (ih _ b)
theorem qy{l:OpenLaw}{n:Nat}(B:l.most=ε n){P:Params}{h:Pu}{args:Ms WData}{b:Ms Mu}
 (e:l.row.toRowW.claim.pre args=true) (k:WellAll P h b args) :
 ∃a o ns,b=[Value.ref a]/\args=[WData.list (ns.map WData.int)]/\h.get? a=ε { cls:=.type "list",data:=.seq o.toArray }/\IntsAre o ns/\ns.length<=n:=by
 have m:WShape.hasAll [] args [.list .int]=true:=(pre_splitW e).1;have p:l.pre.holds [] { args:=args }=true:=(pre_splitW e).2;obtain⟨d,r,rfl,E,D⟩:=hasAllW_cons m;obtain rfl:=hasAllW_nil D;obtain⟨F,rfl,C⟩:=hasW_list E;obtain⟨ns,rfl⟩:=items_int C;have f:ns.length<=n:=by
  unfold OpenLaw.pre at p;have j:(WTm.not (.lt (.lit (.int (n:Int))) (.len (.arg 0)))).holds [] { args:=[.list (ns.map .int)] }=true:=by have j:=(holds_andW p).1;rw[B]at j;exact j
  have i:=condW_of j (w_not (w_lt w_lit (w_len_list (w_arg rfl))));rw[lq]at i;refine Nat.le_of_not_lt fun q=>?_
  have x:(n:Int)<((ns.length:Nat):Int):=by omega
  first
   | (rw[eO x]at i;exact Ci i (by decide))
   | (simp at i;omega)
 cases k with
 | cons u s=>
  cases s;cases u with
  | list y g=>exact⟨_,_,ns,rfl,rfl,y,Lq ns _ g,f⟩
theorem cg(l:OpenLaw)(args:Ms WData):l.row.toRowW.claim.post args (.bool true) args=true:=
 postW_of (r:=l.row.toRowW) (X:=(true==true))
  (show WShape.has [] (.bool true) .bool=true by first | rfl | decide | simp[WShape.has,WShape.arms,WShape.armsAll])
  (show(WTm.eq .res (.lit (.bool true))).value [] { args:=args,res:=ε (.bool true),after:=args }=ε (.bool (true==true))from w_eq_bool (w_res rfl) w_lit) rfl
theorem ng{l:OpenLaw}{n:Nat}{q:Oo}{e:Ms Str}{J:(Str->Ni Mu)->Pu->Prop}{I:O4->Pu->Prop}{d:DefRec}
 (P:l.most=ε n) (B:d.params.defaults=[])
 (call:∀(w:O4)(s₀ b:Nu)(mg u:Str->Ni Mu)(fa:Oa)(o:Obj)(s p h:Mu)(a:Oa)(vs:Ms Mu)(ns:Ms Int),
  Ground q e [] J w s₀ mg u b.heap->I w b.heap->
  b.heap.get? fa=ε o->o.data=.func (docDef d.name d.params d.body d.scope s p h)->b.heap.CodeRec p d.name->mg d.name=ε (.ref fa)->
  b.heap.get? a=ε { cls:=.type "list",data:=.seq vs.toArray }->IntsAre vs ns->ns.length<=n->b.gens=#[]->
  codeAny (model l.prog w) callerA (.call (.ref fa) ⟨[.ref a],[]⟩) (fun r m=>r=.ok (.ret (.bool true))/\OldK b.heap m.heap/\m.os=b.os/\AllBare m.gens) b) :
 WalkO q e J I l.row.toRowW d [] (fun f vs=>PySem.call f vs):=by
 intro w s₀ b mg u G Y fa o s p h X kV O hd C F y S H D Z i E L x R;obtain rfl:X=.none:=Dflts.none F B;obtain rfl:kV=.none:=Dflts.noKw F;obtain⟨a,vs,ns,rfl,rfl,j,g,k⟩:=qy P i x;refine enter_call (codeAny_mono (call w s₀ b mg u fa o s p h a vs ns G Y O (fd_plain hd) C y j g k S) fun r m M=>?_);obtain⟨rfl,W,U,T⟩:=M;exact⟨.inl ⟨.bool true,.bool true,[],rfl,fun _=>rfl,.bool true,cg l _,fun _=>⟨List.Pairwise.nil,fun _ Q=>(nomatch Q)⟩⟩,W,U,T⟩
section
variable{prog:Oo}{w:O4}{A:Pa}{E:Mu->Nu->Prop}{s:Nu}{K:Oi}
end
end Att
namespace L2
theorem mY:∀{vs:Ms Mu}{ns:Ms Int},IntsAre vs ns->p3 (ns.map V.int) vs
 | _,_,.nil=>.nil
 | _,_,.cons n t h=>.cons ⟨t,rfl⟩ (mY h)
def kQ(H:Hp):Prop:=∀b,H b=none\/∃o a,H b=ε (.frz o (.lst a))
theorem Lg{P:Oo}{w:O4}{K:Oi}{mg O:Str->Ni Mu}{CX:QK}{k:Nat}{fa a:Oa}{fd:FuncData}{x:Str}{sp:Sp}{s₁:Nu}{vs:Ms Mu}{ns:Ms Int}
 (KX:K.In s₁.heap) (E:s₁.heap.Ns mainGlobals mg) (f:s₁.heap.Ns builtinsNs O) (S:∀x:Str,x ≠ "__name__" ->O x=bootBuiltins x) (G:s₁.heap.NoLimit) (hg:s₁.gens=#[])
 (L:s₁.heap.get? a=ε { cls:=.type "list",data:=.seq vs.toArray }) (Y:IntsAre vs ns) (X:ns.length<=sizeLine) (hr:Vu k callerA)
 (F:∀base:Pu,K.In base->base.Ns mainGlobals mg->YD P w K mg base CX k fa fd [x] sp) (p:∀(s:Nu)(u:Mu),BindsTo s fd ⟨[u],[]⟩ [(x,u)])
 (Q:∀H:Hp,kQ H->qq K H a (ns.map V.int)->sp [.ref a] H (fun v _=>v=.bl true) fun _ _ _=>False)
 (T:∀H e g,CX [] H s₁ (fun _ _ _=>False) e g->False) :
 codeAny (model P w) callerA (.call (.ref fa) ⟨[.ref a],[]⟩) (fun r g=>r=.ok (.ret (.bool true))/\OldK s₁.heap g.heap/\g.os=s₁.os/\AllBare g.gens) s₁:=by
 have W:=mY Y;have C:=Y.length;have j:∀H:Hp,kQ H->qq K H a (ns.map V.int)->rg P w H s₁.heap->(∀b,H b≠none->b=a)->(H a≠none->K.lookup a=none)->
  codeAny (model P w) callerA (.call (.ref fa) ⟨[.ref a],[]⟩) (fun r g=>r=.ok (.ret (.bool true))/\OldK s₁.heap g.heap/\g.os=s₁.os/\AllBare g.gens) s₁:=by
  intro H Z hS hok hA hK;have y:∀{b:Oa}{o:Obj},s₁.heap.get? b=ε o->H b=none->(qH s₁.heap H).get? b=ε o:=fun e n=>Qh e n
  have M:∀{b:Oa}{o:Obj}{J:Pb DictEntry}{ep:Nat},s₁.heap.get? b=ε o->o.data=.dict J ep->H b=none:=fun {b o J ep} e d=>by
   cases q:H b with
   | none=>rfl
   | some u=>have U:b=a:=hA b (by rw[q];simp);subst U;rw[L]at e;cases e;have d':Data.seq vs.toArray _=Data.dict J ep:=d;cases d'
  have i:∀{b:Oa}{m:Str->Ni Mu},s₁.heap.Ns b m->(qH s₁.heap H).Ns b m:=fun {b m} ⟨o,J,ep,e,d,r⟩=>⟨o,J,ep,y e (M e d),d,r⟩
  have I:K.In (qH s₁.heap H):=fun b o e=>y (KX b o e) (by
   cases q:H b with
   | none=>rfl
   | some u=>
    have U:b=a:=hA b (by rw[q];simp);subst U;rw[hK (by rw[q];simp)]at e;cases e)
  have hM:Mod K mg (qH s₁.heap H):=⟨I,i E,⟨O,i f,S⟩,let ⟨mc,h1,h2⟩:=G;⟨mc,i h1,h2⟩⟩;have e0:cr P w K mg (qH s₁.heap H) callerA [] s₁ H:=⟨rfl,hM,fun b o e=>Yt e,Nat.le_of_eq (Kw _ _),trivial,fun b f=>Ci (show b∈([]:Ms Oa)from f) ⋯,hok,.of_eq hg⟩;refine codeAny_mono ((F _ I (i E)).run callerA [] s₁ H ⟨[.ref a],[]⟩ [.ref a] [.ref a] _ _ hr e0 (p s₁ (.ref a)) (.cons rfl .nil) (Q H Z hS)) fun r g h=>?_
  cases r with
  | error e=>exact(T H e g h).elim
  | ok fl=>
   cases fl with
   | next=>exact Ea h
   | brk=>exact Ea h
   | cont=>exact Ea h
   | ret u=>
    obtain⟨v,H',os,bare,un,D,r',q⟩:=h;have q':v=.bl true:=q;subst q';obtain rfl:u=Value.bool true:=r';refine⟨rfl,OldK.of_keep fun b o e=>?_,os,bare⟩;cases q:H b with
    | none=>exact un.keep b o e q (by intro z;exact Ci (show b∈([]:Ms Oa)from z) ⋯) ⋯
    | some u=>
     rcases Z b with z | ⟨ob,xs,z⟩
     . rw[q]at z;cases z
     . have z2:=un.bp b ob _ z;obtain⟨e1,_⟩:=hok b _ z;obtain⟨e2,_⟩:=D b _ z2;rw[e]at e1;cases e1;exact e2
 cases R:K.lookup a with
 | some o=>have e:=KX a o R;rw[L]at e;cases e;refine j (fun _=>none) (fun _=>.inl rfl) (.inr ⟨_,vs.toArray,_,R,rfl,rfl,rfl,by rw[cG,C];exact X,by simpa using W⟩) (fun b u z=>by have B:(none:Ni HO)=ε u:=z;cases B) (fun b z=>Ci rfl z) fun z=>Ci rfl z
 | none=>
  refine j (fun b=>if b=a then ε (.frz { cls:=.type "list",data:=.seq vs.toArray } (.lst (ns.map V.int)))else none) (fun b=>?_) (.inl (.inr ⟨{ cls:=.type "list",data:=.seq vs.toArray },dh rfl⟩)) (fun b u z=>?_) (fun b z=>?_) fun _=>R
  . by_cases f:b=a
    . exact .inr ⟨_,_,dh f⟩
    . exact .inl (dG f)
  . by_cases f:b=a
    . have B:=(dh f).symm.trans z;cases B;subst f;exact⟨L,by rw[lq];exact X,vs,_,W,L⟩
    . have B:=(dG f).symm.trans z;cases B
  . by_cases f:b=a
    . exact f
    . exact Ci (dG f) z
theorem Zc{l:PySem.W.OpenLaw}{n k:Nat}{q:Oo}{g:Ms Str}{Z:(Str->Ni Mu)->Pu->Prop}{J:O4->Pu->Prop}{d:DefRec}{K:Params->Oi}{CX:O4->QK}{sp:O4->Sp}{x:Str}
 (O:l.most=ε n) (y:n<=sizeLine) (C:d.params.defaults=[]) (M:Vu k callerA)
 (S:∀(w:O4)(h:Pu),J w h->(K w.params).In h)
 (F:∀(w:O4)(mg:Str->Ni Mu)(fa:Oa)(h:Pu),(K w.params).In h->h.Ns mainGlobals mg->mg d.name=ε (.ref fa)->
  ∃E:FuncData,(∀(s:Nu)(u:Mu),BindsTo s E ⟨[u],[]⟩ [(x,u)])/\
   ∀base:Pu,(K w.params).In base->base.Ns mainGlobals mg->YD l.prog w (K w.params) mg base (CX w) k fa E [x] (sp w))
 (r:∀(w:O4)(H:Hp)(a:Oa)(ns:Ms Int),ns.length<=n->kQ H->qq (K w.params) H a (ns.map V.int)->sp w [.ref a] H (fun v _=>v=.bl true) fun _ _ _=>False)
 (D:∀(w:O4)(H:Hp)(s:Nu)(e:Mu)(p:Nu),CX w [] H s (fun _ _ _=>False) e p->False) :
 PySem.W.WalkO q g Z J l.row.toRowW d [] (fun f I=>PySem.call f I):=by
 refine Att.ng O C fun w s₀ j mg mb fa o pm cd X a I ns G Y ho hd Q B m i b P=>?_
 have L:=S w _ Y;obtain⟨E,R,W⟩:=F w mg fa _ L G.T.g B;exact Lg L G.T.g G.T.b G.T.builtins G.T.nolimit P m i (n7 b y) M W R (fun H U T=>r w H a ns b U T) fun H e p=>D w H j e p
noncomputable def tU(s:Ou)(j:Nat):Ou:=match s with
 | .ClassDef _ _ _ a _ _ _ _ _ _ _=>a.getD j (.Pass ⟨0,0,0,0⟩)
 | _=>.Pass ⟨0,0,0,0⟩
noncomputable def CF(s:Ou):Arguments:=match s with
 | .FunctionDef _ a _ _ _ _ _ _ _ _=>a
 | _=>{ posonlyargs:=[],args:=[],vararg:=none,kwonlyargs:=[],kw_defaults:=[],kwarg:=none,defaults:=[] }
noncomputable def BD(s:Ou):Ms Ou:=match s with
 | .FunctionDef _ _ b _ _ _ _ _ _ _=>b
 | _=>[]
noncomputable def BA(s:Ou):Scope:=match s with
 | .FunctionDef _ _ _ _ _ _ a _ _ _=>a
 | _=>{ kind:=.function,names:=[],isGenerator:=false,isCoroutine:=false }
noncomputable abbrev LG:QK:=fun _ _ _ _ _ _=>False
noncomputable abbrev E0:XK:=fun _ _ _=>False
theorem DV{X:Cx}:pK LG X E0:=fun _ _ _ _ _ _ _ h=>h.elim
structure Fun(K:Frag)(x qual:Str)(st:Stmt)(f:Addr)(fd:FuncData):Prop where
 ex:∃(oc:Value)(od:Option Addr)(kV doc pm:Value)(an:Option Addr)(cdv ct:Value)(osl:Array (Option Value)),
  fd=fnOf x qual (CF st) (BD st) (BA st) .none kV doc pm an cdv ct/\K.lookup f=ε ⟨oc,od,.func fd,osl⟩/\PySem.W.codeIn K cdv qual=true
 kp:keepIn K (.ref f)=true
section
variable{P:Oo}{w:O4}{K:Oi}{b:Str->Ni Mu}{a:Pu}
theorem Fun.ok{x d:Str}{st:Ou}{f:Oa}{n:FuncData}{N i:Ms Str}{k:Nat}{sp:Sp}(F:Fun K x d st f n)(S:SA N i (BA st))(len:∀vs H Q E,sp vs H Q E->vs.length=i.length)
 (g:∀(e:Mu)(A:Pa)(outer:Ms Env)(s:Nu)(H:Hp)(vs:Ms V)(Q:VK)(E:XK),Vu k (A.deeper (envOfC d (BA st) s.heap.objs.size f e))->sp vs H Q E->
  ∃t,PSs (LF LG P w K b a N d (BA st) f e A outer s H E).nox (BD st) t/\t { nx:=fun _ y=>Q .non y,rt:=Q } (KG N vs) H):YD P w K b a LG (k+1) f n i sp:=by
 obtain⟨D,C,kV,u,B,G,e,ct,o,rfl,p,m⟩:=F.ex;refine X2 p m S len fun A outer s H vs Q E r j=>?_
 obtain⟨t,h,q⟩:=g e A outer s H vs Q E r j;exact⟨t,h.nox,q⟩
theorem Fun.binds{x d:Str}{st:Ou}{f:Oa}{m:FuncData}{i:Ms Str}(F:Fun K x d st f m)
 (h:∀(kV e j:Mu)(k:Ni Oa)(g ct:Mu)(us:Ms Mu),us.length=i.length->bindArgs (fnOf x d (CF st) (BD st) (BA st) .none kV e j k g ct) ⟨us,[]⟩=pure (i.zip us)):qr K m i []:=by
 obtain⟨q,p,kV,e,j,k,g,ct,n,rfl,r,o⟩:=F.ex;exact .all (h kV e j k g ct)
theorem vP{x d:Str}{st:Ou}{f:Oa}{m:Mu}{od j:Ni Oa}{h:Pb (Ni Mu)}{kV g i e ct:Mu}(l:K.lookup f=ε ⟨m,od,.func (fnOf x d (CF st) (BD st) (BA st) .none kV g i j e ct),h⟩)
 (c:PySem.W.codeIn K e d=true) (k:keepIn K (.ref f)=true):Fun K x d st f (fnOf x d (CF st) (BD st) (BA st) .none kV g i j e ct):=⟨⟨m,od,kV,g,i,j,e,ct,h,rfl,l,c⟩,k⟩
end
section
variable{X:Cx}
end
theorem rH{A B:Prop}(h:B):if false=true then A else B:=by rw[dG Va];exact h
theorem sH{A B:Prop}(h:A):if true=true then A else B:=by rw[dh rfl];exact h
def Ql(H a:Hp):Prop:=∀b o,H b=ε o->a b=ε o
open PySem.AutoSeq1 (wpAny_loadPart')
open PySem.SeqAt PySem.MeetsSeq PySem.MeetsSeq2 PySem.MeetsSeq3
theorem jw(l b:Oa)(items a:Pb Mu)(n j:Nat)(p f:Ni Oa)(i e:Pb (Ni Mu))(m:items.size+a.size<=sizeLine) :
 Meets (Builtin.«list.__add__» ⟨[.ref l,.ref b],[]⟩) (fun _ R s=>s.heap.get? l=ε { cls:=.type "list",dict:=p,data:=.seq items n,slots:=i }/\s.heap.get? b=ε { cls:=.type "list",dict:=f,data:=.seq a j,slots:=e }/\R (.ok (.ret (Value.ref s.heap.objs.size))) { s with heap:=s.heap.push { cls:=Value.type "list",data:=Data.seq (items++a) },toks:=s.toks }):=
 .of_wp fun prog w A R s h=>by obtain⟨r,g,d,q,os⟩:=s;obtain⟨k,o,h⟩:=h;have C:=AutoSeq1.idx_int;have B:=AutoSeq1.sub_tuple_tuple;have y:=AutoSeq1.sub_list_list;have x:=AutoSeq1.sub_tuple_list;have u:=AutoSeq1.sub_list_tuple;wp_walk using wpAny_loadPart' k,wpAny_loadPart' o;exact⟨_,rfl,h⟩
section
variable{X:Cx}
theorem QZ:qv X (binaryOp .Add) (fun x y H Q=>∃l b f zs,x=.ref l/\y=.ref b/\qq X.K H l f/\qq X.K H b zs/\f.length+zs.length<=sizeLine/\∀p,H p=none->Q (.ref p) (xB H p (.lst (f++zs)))):=by
 intro k s S H x y v u Q I J G h;obtain⟨l,b,f,zs,rfl,rfl,O,P,Y,q⟩:=h;cases J;cases G;obtain⟨d,r,⟨⟨c1,d1,W,i⟩,n,e,E,D,C⟩,z⟩:=I.list O;obtain⟨a,j,⟨⟨c2,d2,U,g⟩,L,e2,B,o,m⟩,T⟩:=I.list P;simp only at E D C B o m;subst E D C B o m;have Z:=r.length;have M:=j.length;refine concat_meets ⟨_,e,rfl⟩ ⟨_,e2,rfl⟩ noFill_list_add seq_list_add F.slot_list_add F.entry_list_add (F.args_list_add_2 _ _) (jw l b d.toArray a.toArray n L none none i g (by rw[cG,cG];omega)) ⟨e,e2,?_⟩;have R:d.toArray++a.toArray=(d++a).toArray:=by simp
 rw[R];exact⟨.ref _,_,I.fq (t':=s.toks) (r.append j) (by rw[g8];omega),rfl,q _ I.fresh⟩
theorem tO{us:Ms Mu}{ns:Ms Int}(h:IntsAre us ns):∃a:Pb (Int×Tok),us.toArray=intItems a/\a.toList.map (·.1)=ns:=by obtain⟨a,e⟩:=h.allInts.items;refine⟨a,e,?_⟩;have e2:=h.numsOf;rw[<- nums_intItems,<- e];exact e2
theorem Ak (n:X.calm=true):Ze X (.builtin "sum") (fun a H Q=>∃(p:Oa) (ns:Ms Int),a=[.ref p]/\qq X.K H p (ns.map V.int)/\Q (.int ns.sum) H):=by
 intro b s o H a y Q I r h;obtain⟨p,ns,rfl,m,q⟩:=h;obtain⟨u,rfl,g⟩:=HF r;cases g;obtain⟨j,i,pl,C⟩:=I.list m;obtain⟨x,e,e2⟩:=tO (ZJ i);have d:=pl.isList;rw[e]at d;refine sum_intListG (I.ok.hd n) d fun D B f k=>⟨.int ns.sum,H,I.kept k,⟨f,?_⟩,q⟩
 rw[preSum_eq,Je ⋯,e2]
theorem Yw (E:X.calm=true):Ze X (.builtin "max") (fun g H Q=>∃(p:Oa) (ns:Ms Int),g=[.ref p]/\qq X.K H p (ns.map V.int)/\ns ≠ []/\∀M,M∈ns->(∀a∈ns,a<=M)->Q (.int M) H):=by
 intro i s G H g J Q I r h;obtain⟨p,ns,rfl,C,f,q⟩:=h;obtain⟨u,rfl,o⟩:=HF r;cases o;obtain⟨y,x,pl,O⟩:=I.list C;obtain⟨b,e,e2⟩:=tO (ZJ x);have m:=pl.isList;rw[e]at m;have d:0<b.size:=by
  rcases Nat.eq_zero_or_pos b.size with z | z
  . exfalso;apply f;rw[<- e2];have:b.toList=[]:=by apply eq_nil_of_length_eq_zero;simpa using z
    rw[this];rfl
  . exact z
 refine max_intList (I.ok.hd E) m d fun v R L B k=>?_
 obtain⟨t,rfl⟩:=intItems_at B;obtain⟨P,F⟩:=argBest_gt (numAt b) (b.size-1);refine⟨.int _,H,I.kept k,⟨t,rfl⟩,q _ ?_ fun a n=>?_⟩
 . rw[numAt_eq,<- e2];exact getD_mem (by rw[lq,vo];omega)
 . rw[<- e2]at n;obtain⟨j,D,rfl⟩:=mem_getD n;rw[lq,vo]at D;rw[<- numAt_eq];exact F j nofun
theorem ak (E:X.calm=true):Ze X (.builtin "min") (fun g H Q=>∃(p:Oa) (ns:Ms Int),g=[.ref p]/\qq X.K H p (ns.map V.int)/\ns ≠ []/\∀M,M∈ns->(∀a∈ns,M<=a)->Q (.int M) H):=by
 intro i s G H g J Q I r h;obtain⟨p,ns,rfl,C,f,q⟩:=h;obtain⟨u,rfl,o⟩:=HF r;cases o;obtain⟨y,x,pl,O⟩:=I.list C;obtain⟨b,e,e2⟩:=tO (ZJ x);have m:=pl.isList;rw[e]at m;have d:0<b.size:=by
  rcases Nat.eq_zero_or_pos b.size with z | z
  . exfalso;apply f;rw[<- e2];have:b.toList=[]:=by apply eq_nil_of_length_eq_zero;simpa using z
    rw[this];rfl
  . exact z
 refine min_intList (I.ok.hd E) m d fun v R L B k=>?_
 obtain⟨t,rfl⟩:=intItems_at B;obtain⟨P,F⟩:=argBest_lt (numAt b) (b.size-1);refine⟨.int _,H,I.kept k,⟨t,rfl⟩,q _ ?_ fun a n=>?_⟩
 . rw[numAt_eq,<- e2];exact getD_mem (by rw[lq,vo];omega)
 . rw[<- e2]at n;obtain⟨j,D,rfl⟩:=mem_getD n;rw[lq,vo]at D;rw[<- numAt_eq];exact F j nofun
def Jm(K:Oi)(H:Hp)(x:V)(t:String):Prop:=match x with
 | .non=>t = "NoneType"
 | .bl _=>t = "bool"
 | .int _=>t = "int"
 | .str _=>t = "str"
 | .ref a=>(t = "list" /\ ∃b,qq K H a b)\/(t = "tuple" /\ ∃b,nH K H a b)
 | _=>False
theorem Vk {T:String}:Ze X (.builtin "isinstance") (fun B H Q=>∃x t b,B=[x,.ty T]/\Jm X.K H x t/\PySem.W.kitOne X.K (.type t) (.type T)=ε b/\Q (.bl b) H):=by
 intro g s C H B F Q I r h;obtain⟨x,t,b,rfl,ty,e,q⟩:=h;obtain⟨u,G,rfl,f,E⟩:=VM r;cases E;have d:∀j,EP X g C Q (.bool b) { s with toks:=j }:=fun j=>⟨.bl b,H,I.tok j,rfl,q⟩
 cases x with
 | non=>cases (show t = "NoneType" from ty);cases f;exact PySem.W.kia_one PySem.W.kitx_none I.kIn Ja e (fun z=>nomatch z) d
 | bl y=>cases (show t = "bool" from ty);cases f;exact PySem.W.kia_one PySem.W.kitx_bool I.kIn Ja e (fun z=>nomatch z) d
 | int i=>cases (show t = "int" from ty);obtain⟨_,rfl⟩:=f;exact PySem.W.kia_one PySem.W.kitx_int I.kIn Ja e (fun z=>nomatch z) d
 | str y=>cases (show t = "str" from ty);obtain⟨_,rfl⟩:=f;exact PySem.W.kia_one PySem.W.kitx_str I.kIn Ja e (fun z=>nomatch z) d
 | ref a=>
  cases f;rcases ty with⟨rfl,D,sq⟩ | ⟨rfl,D,sq⟩
  . obtain⟨k,_,⟨o,n,p,m,_,_⟩,_⟩:=I.list sq;exact PySem.W.kia_one PySem.W.kitx_list I.kIn ⟨o,p,m⟩ e (fun z=>nomatch z) d
  . obtain⟨k,_,⟨o,p,m,_⟩,_⟩:=I.tuple sq;exact PySem.W.kia_one PySem.W.kitx_tuple I.kIn ⟨o,p,m⟩ e (fun z=>nomatch z) d
 | byt _=>exact Ea ty
 | flt _=>exact Ea ty
 | ty _=>exact Ea ty
end
open PySem.AutoSeq1 (wpAny_loadPart')
open PySem.SeqAt PySem.MeetsSeq PySem.MeetsSeq2 PySem.MeetsSeq3
theorem Gv(l b:Oa)(items a:Pb Mu)(n L:Nat)(S E:Ni Oa)(J u:Pb (Ni Mu))(e:Nat->Bool) :
 Meets (Builtin.«tuple.__ne__» ⟨[.ref l,.ref b],[]⟩)
  (fun A R s=>s.heap.get? l=ε { cls:=.type "tuple",dict:=S,data:=.seq items n,slots:=J }/\s.heap.get? b=ε { cls:=.type "tuple",dict:=E,data:=.seq a L,slots:=u }/\
   (∀j (I:j<items.size) (h2:j<a.size),EqAt A.in1 s items[j] a[j] (e j))/\
   R (.ok (.ret (.bool (!((List.range (min items.size a.size)).all e&&items.size==a.size))))) s):=
 .of_wp fun prog w A R s h=>by
  obtain⟨G,g,d,F,os⟩:=s;obtain⟨O,Q,P,h⟩:=h;have T:=AutoSeq1.sub_tuple_tuple;have H:(items.toList.zip a.toList).length=min items.size a.size:=by simp
  wp_walk using wpAny_loadPart' O,wpAny_loadPart' Q,wpAny_forIn_list _ (fun rest b B=>b.1=none/\B=⟨G,g,d,F,os⟩/\∃i,rest=(items.toList.zip a.toList).drop i/\
   R (.ok (.ret (.bool (!(((List.range (min items.size a.size)).drop i).all e&&items.size==a.size))))) ⟨G,g,d,F,os⟩) _
  case turn=>
   rintro⟨y,x⟩ rest b B ⟨o,rfl,i,k,f⟩;have q:i<(items.toList.zip a.toList).length:=by
    rcases Nat.lt_or_ge i (items.toList.zip a.toList).length with h' | h'
    . exact h'
    . rw[drop_of_length_le h']at k;cases k
   have C:i<min items.size a.size:=H ▸ q;have I:i<items.size:=ji C (Nat.min_le_left _ _);have h2:i<a.size:=ji C (Nat.min_le_right _ _);rw[xr q]at k;injection k with p m
   have r:y=items[i]:=by have:=congrArg Prod.fst p;simpa using this
   have M:x=a[i]:=by have:=congrArg Prod.snd p;simpa using this
   subst r M;have hd:(List.range (min items.size a.size)).drop i=i::(List.range (min items.size a.size)).drop (i+1):=by simp[xr,C]
   rw[hd,Js]at f;refine ao (P i I h2 prog w _ _ ?_);cases r:e i with
   | true=>
    rw[r]at f
    wp_walk
    exact⟨rfl,rfl,i+1,m,by simpa only[Fi]using f⟩
   | false=>
    rw[r]at f
    wp_walk
    exact⟨_,rfl,by simpa only[Ga,qe]using f⟩
  case fin=>
   rintro⟨W,U⟩ B ⟨o,rfl,i,k,f⟩;simp only at o;subst o;have D:min items.size a.size<=i:=by
    rcases Nat.lt_or_ge i (items.toList.zip a.toList).length with h' | h'
    . rw[xr h']at k;cases k
    . exact H ▸ h'
   rw[drop_of_length_le (by simpa using D)]at f
   wp_walk
   exact⟨_,rfl,by simpa[Builtin.Tuple.tupleCompareSizes,bne]using f⟩
  case h=>exact⟨rfl,rfl,0,rfl,by simpa only[drop_zero]using h⟩
theorem Ry(l b:Oa)(items a:Pb Mu)(n E:Nat)(I B:Ni Oa)(D x:Pb (Ni Mu))(hsz:items.size=a.size)(e:Nat->Bool)(k:Nat) :
 ∀i:Nat,items.size-i=k->Meets (Builtin.«list.__eq__.loop» ⟨[.ref l,.ref b,rawInt i,rawInt 3],[]⟩)
  (fun A R s=>s.heap.get? l=ε { cls:=.type "list",dict:=I,data:=.seq items n,slots:=D }/\s.heap.get? b=ε { cls:=.type "list",dict:=B,data:=.seq a E,slots:=x }/\
   (∀j (J:j<items.size) (h2:j<a.size),EqAt A.in1 s items[j] a[j] (e j))/\
   R (.ok (.ret (.bool (!(((List.range items.size).drop i).all e))))) s):=by
 induction k with
 | zero=>
  intro i G prog w A R s h;obtain⟨F,g,d,C,os⟩:=s;obtain⟨q,r,y,h⟩:=h
  wp_walk using wpAny_loadPart' q,wpAny_loadPart' r
  have m:items[((i:Nat):Int).toNat]?=none:=by simp;omega
  have f:a[((i:Nat):Int).toNat]?=none:=by simp;omega
  have hd:(List.range items.size).drop i=[]:=by simp;omega
  rw[hd]at h;rw[m,f]
  wp_walk using wpAny_loadPart' q,wpAny_loadPart' r
  show R (.ok (.ret (.bool (items.size !=a.size)))) _;rw[hsz];simpa using h
 | succ k ih=>
  intro i G prog w A R s h;obtain⟨F,g,d,C,os⟩:=s;obtain⟨q,r,y,h⟩:=h
  wp_walk using wpAny_loadPart' q,wpAny_loadPart' r
  have p:i<items.size:=by omega
  have o:i<a.size:=by omega
  have m:items[((i:Nat):Int).toNat]?=ε items[i]:=by simp[p]
  have f:a[((i:Nat):Int).toNat]?=ε a[i]:=by simp[o]
  have hd:(List.range items.size).drop i=i::(List.range items.size).drop (i+1):=by simp[xr,p]
  have H:((i:Int)+1)=((i+1:Nat):Int):=by push_cast;rfl
  rw[hd,Js]at h;rw[m,f];refine ao (y i p o prog w _ _ ?_);cases u:e i with
  | true=>
   rw[u]at h
   wp_walk
   rw[H];exact⟨plainId_quiet plain_eq_loop _,Ho entry_eq_loop (by
    rw[Gi plain_eq_loop _];exact ih (i+1) nofun prog w A R _ ⟨q,r,y,by simpa only[Fi]using h⟩)⟩
  | false=>
   rw[u]at h
   wp_walk using wpAny_loadPart' q,wpAny_loadPart' r
   rw[m,f]
   wp_walk
   simpa using h
theorem qw(l b:Oa)(items a:Pb Mu)(n m:Nat)(q i:Ni Oa)(k f:Pb (Ni Mu))(hsz:items.size=a.size)(e:Nat->Bool) :
 Meets (Builtin.«list.__ne__» ⟨[.ref l,.ref b],[]⟩)
  (fun A R s=>s.heap.get? l=ε { cls:=.type "list",dict:=q,data:=.seq items n,slots:=k }/\s.heap.get? b=ε { cls:=.type "list",dict:=i,data:=.seq a m,slots:=f }/\
   (∀j (B:j<items.size) (h2:j<a.size),EqAt A.in1 s items[j] a[j] (e j))/\
   R (.ok (.ret (.bool (!((List.range items.size).all e))))) s):=by
 intro prog w A R s h;obtain⟨y,g,d,x,os⟩:=s;obtain⟨o,p,u,h⟩:=h;have C:=AutoSeq1.sub_list_list;have r:¬(items.size !=a.size)=true:=by simp[hsz]
 wp_walk using wpAny_loadPart' o,wpAny_loadPart' p
 exact⟨plainId_quiet plain_eq_loop _,Ho entry_eq_loop (by
  rw[Gi plain_eq_loop _];exact Ry l b items a n m q i k f hsz e _ 0 rfl prog w A R _ ⟨o,p,u,by simpa only[drop_zero]using h⟩)⟩
theorem Rj(l b:Oa)(items a:Pb Mu)(n j:Nat)(p f:Ni Oa)(i e:Pb (Ni Mu))(m:(items.size !=a.size)=true) :
 Meets (Builtin.«list.__ne__» ⟨[.ref l,.ref b],[]⟩)
  (fun _ R s=>s.heap.get? l=ε { cls:=.type "list",dict:=p,data:=.seq items n,slots:=i }/\s.heap.get? b=ε { cls:=.type "list",dict:=f,data:=.seq a j,slots:=e }/\
   R (.ok (.ret (.bool true))) s):=
 .of_wp fun prog w A R s h=>by
  obtain⟨r,g,d,q,os⟩:=s;obtain⟨k,o,h⟩:=h;have u:=AutoSeq1.sub_list_list
  wp_walk using wpAny_loadPart' k,wpAny_loadPart' o
  exact⟨_,rfl,h⟩
section
variable{prog:Oo}{w:O4}{A:Pa}{E:Mu->Nu->Prop}{s:Nu}{Q:Mu->Nu->Prop}
theorem Sy{l b:Oa}{items a:Pb Mu}{e:Nat->Bool}(C:s.heap.IsTuple l items)(D:s.heap.IsTuple b a)(B:A.units<cLine)
 (he:∀j (I:j<items.size) (h2:j<a.size),EqAt A.in1 s items[j] a[j] (e j)) (h:Q (.bool (!((List.range (min items.size a.size)).all e&&items.size==a.size))) s):wpAny (model prog w) A (compareOp .NotEq (.ref l) (.ref b)) Q E s:=by
 obtain⟨⟨H,G,q,u⟩,o,p,n,hd⟩:=id C;obtain⟨⟨r,k,m,i⟩,d,g,y,f⟩:=id D;simp only at p hd g f;subst p hd g f;exact richCompare_meets_room (op:=.NotEq) ⟨_,o,rfl⟩ ⟨_,d,rfl⟩ F.slot_tuple_ne F.entry_tuple_ne (F.args_tuple_ne_2 _ _) (Gv l b items a n y G k u i e) ⟨o,d,he,⟨(fun x=>nomatch x),h⟩⟩ B
theorem Sg{l b:Oa}{items a:Pb Mu}{e:Nat->Bool}(C:s.heap.IsList l items)(D:s.heap.IsList b a)(hsz:items.size=a.size)(B:A.units<cLine)
 (he:∀j (I:j<items.size) (h2:j<a.size),EqAt A.in1 s items[j] a[j] (e j)) (h:Q (.bool (!((List.range items.size).all e))) s):wpAny (model prog w) A (compareOp .NotEq (.ref l) (.ref b)) Q E s:=by
 obtain⟨⟨H,G,q,u⟩,o,p,n,hd⟩:=id C;obtain⟨⟨r,k,m,i⟩,d,g,y,f⟩:=id D;simp only at p hd g f;subst p hd g f;exact richCompare_meets_room (op:=.NotEq) ⟨_,o,rfl⟩ ⟨_,d,rfl⟩ F.slot_list_ne F.entry_list_ne (F.args_list_ne_2 _ _) (qw l b items a n y G k u i hsz e) ⟨o,d,he,⟨(fun x=>nomatch x),h⟩⟩ B
theorem Zq{l b:Oa}{items a:Pb Mu}(y:s.heap.IsList l items)(B:s.heap.IsList b a)(hsz:(items.size !=a.size)=true)(u:A.units<cLine)
 (h:Q (.bool true) s):wpAny (model prog w) A (compareOp .NotEq (.ref l) (.ref b)) Q E s:=by
 obtain⟨⟨D,C,o,q⟩,k,m,n,hd⟩:=id y;obtain⟨⟨p,i,j,g⟩,d,f,r,e⟩:=id B;simp only at m hd f e;subst m hd f e;exact richCompare_meets_room (op:=.NotEq) ⟨_,k,rfl⟩ ⟨_,d,rfl⟩ F.slot_list_ne F.entry_list_ne (F.args_list_ne_2 _ _) (Rj l b items a n r C i q g hsz) ⟨k,d,⟨(fun x=>nomatch x),h⟩⟩ u
end
end L2
namespace SM
inductive Dt where
 | non | bl (b:Bool) | int (i:Int) | str (x:Str) | tup (xs:List Dt) | lst (xs:List Dt) | ref (n:Nat) | ntp (xs:List Int)
inductive Ob where
 | lst (xs:List Dt)
 | ins (x:Str) (fs:List (Str×Dt))
 | dk (kvs:List (fC×Dt))
 | dt (kvs:List (List Int×Dt))
 | df (kvs:List (List Int×Dt))
noncomputable abbrev HI:=Ms Ob
noncomputable abbrev LI:=Ms (Ni Dt)
structure Rg where
 v:List Addr
 z:List Addr
def Rg.no(ρ:Rg)(a:Oa):Prop:=a∉ρ.v/\a∉ρ.z
noncomputable def Rg.add(ρ:Rg)(p:Oa):Rg:=⟨ρ.v++[p],ρ.z⟩
noncomputable def Rg.hide(ρ:Rg)(p:Oa):Rg:=⟨ρ.v,p::ρ.z⟩
noncomputable def Rg.nil:Rg:=⟨[],[]⟩
def rc(K:Oi)(H:Hp)(ρ:Rg)(a:Oa)(vs:Ms V):Prop:=
 (ρ.no a/\Rd H a (.tup vs))\/
  ∃(o:Obj) (b:Pb Mu) (n:Nat),K.lookup a=ε o/\o.cls=.type "tuple" /\ o.data=.seq b n/\b.size<=sizeLine/\p3 vs b.toList
def rd(K:Oi)(H:Hp)(ρ:Rg)(a:Oa)(vs:Ms V):Prop:=
 (ρ.no a/\Rd H a (.lst vs))\/
  ∃(o:Obj) (b:Pb Mu) (n:Nat),K.lookup a=ε o/\o.cls=.type "list" /\ o.dict=none/\o.data=.seq b n/\b.size<=sizeLine/\p3 vs b.toList
theorem rc.sq{K:Oi}{H:Hp}{ρ:Rg}{a:Oa}{vs:Ms V}(h:rc K H ρ a vs):nH K H a vs:=by
 rcases h with⟨_,h⟩ | h
 . exact .inl h
 . exact .inr h
theorem rd.sq{K:Oi}{H:Hp}{ρ:Rg}{a:Oa}{vs:Ms V}(h:rd K H ρ a vs):qq K H a vs:=by
 rcases h with⟨_,h⟩ | h
 . exact .inl h
 . exact .inr h
mutual
noncomputable def Qi(K:Oi)(H:Hp)(ρ:Rg):Dt->V->Prop
 | .non,v=>v=.non
 | .bl b,v=>v=.bl b
 | .int i,v=>v=.int i
 | .str x,v=>v=.str x
 | .tup xs,v=>∃a d,v=.ref a/\rc K H ρ a d/\Qe K H ρ xs d
 | .lst xs,v=>∃a d,v=.ref a/\rd K H ρ a d/\Qe K H ρ xs d
 | .ref n,v=>∃a,v=.ref a/\ρ.v[n]?=ε a
 | .ntp xs,v=>∃a,v=.ref a/\ρ.no a/\H a=ε (.tup (xs.map V.int))
noncomputable def Qe(K:Oi)(H:Hp)(ρ:Rg):Ms Dt->Ms V->Prop
 | [],vs=>vs=[]
 | x::xs,vs=>∃v r,vs=v::r/\Qi K H ρ x v/\Qe K H ρ xs r
end
structure qc(ρ ρ':Rg)(H H':Hp):Prop where
 pre:∃e,ρ'.v=ρ.v++e/\∀a∈e,H a=none
 hid:ρ'.z=ρ.z
 keep:∀a o,H a=ε o->a∉ρ.v->H' a=ε o
 live:∀a,H' a=none->H a=none
 fz:∀a o u,H a=ε (.frz o u)->H' a=ε (.frz o u)
theorem qc.refl(ρ:Rg)(H:Hp):qc ρ ρ H H:=⟨⟨[],by simp,by simp⟩,rfl,fun _ _ h _=>h,fun _ h=>h,fun _ _ _ h=>h⟩
theorem qc.hG{ρ b:Rg}{H g:Hp}(x:qc ρ b H g){a:Oa}{o:HO}(h:H a=ε o)(n:a∉ρ.v):a∉b.v:=by
 obtain⟨e,f,d⟩:=x.pre;rw[f];intro hm;rcases Aa.mp hm with hm | hm
 . exact n hm
 . have:=d a hm;rw[h]at this;cases this
theorem qc.fw{ρ b:Rg}{H d:Hp}(x:qc ρ b H d){a:Oa}{o:HO}(h:H a=ε o)(n:ρ.no a):b.no a:=⟨x.hG h n.1,by rw[x.hid];exact n.2⟩
theorem qc.trans{ρ d b:Rg}{H f H2:Hp}(x:qc ρ d H f)(y:qc d b f H2):qc ρ b H H2:=by
 refine⟨?_,y.hid.trans x.hid,fun a o h n=>y.keep a o (x.keep a o h n) (x.hG h n),fun a h=>x.live a (y.live a h),fun a o u h=>y.fz a o u (x.fz a o u h)⟩;obtain⟨e,i,k⟩:=x.pre;obtain⟨m,g,j⟩:=y.pre;refine⟨e++m,by rw[g,i,nu],fun a ha=>?_⟩;rcases Aa.mp ha with ha | ha
 . exact k a ha
 . exact x.live a (j a ha)
theorem qc.get{ρ b:Rg}{H f:Hp}(x:qc ρ b H f){n:Nat}{a:Oa}(h:ρ.v[n]?=ε a):b.v[n]?=ε a:=by obtain⟨e,d,_⟩:=x.pre;have:=(Uo h).1;rw[d,Vo this];exact h
theorem qc.fresh{ρ:Rg}{H:Hp}{p:Oa}{o:HO}(h:H p=none):qc ρ ρ H (xB H p o):=by
 refine⟨⟨[],by simp,by simp⟩,rfl,fun a u e _=>?_,fun a e=>?_,fun a o u e=>by rw[WA (kD e h)];exact e⟩
 . rw[WA (kD e h)];exact e
 . by_cases b:a=p
   . subst b;exact h
   . rw[WA b]at e;exact e
theorem qc.own{ρ:Rg}{H:Hp}{p:Oa}{o:HO}(h:H p=none):qc ρ (ρ.add p) H (xB H p o):=by refine⟨⟨[p],rfl,fun a b=>?_⟩,rfl,(qc.fresh (ρ:=ρ) h).keep,(qc.fresh (ρ:=ρ) h).live,(qc.fresh (ρ:=ρ) h).fz⟩;rw[zc.mp b];exact h
def IV(H:Hp)(a:Oa):Prop:=∀o u,H a≠ε (.frz o u)
theorem XH{H:Hp}{a:Oa}{vs:Ms V}(h:H a=ε (.lst vs)):IV H a:=fun _ _ e=>by rw[h]at e;cases e
theorem qc.write{ρ:Rg}{H:Hp}{a:Oa}{o:HO}(g:a∈ρ.v)(f:IV H a):qc ρ ρ H (xB H a o):=by
 refine⟨⟨[],by simp,by simp⟩,rfl,fun b u e n=>?_,fun b e=>?_,fun b q u e=>by rw[WA (fun z:b=a=>f q u (by rw[<- z];exact e))];exact e⟩
 . rw[WA (fun z=>n (by rw[z];exact g))];exact e
 . by_cases d:b=a
   . subst d;rw[AC]at e;cases e
   . rw[WA d]at e;exact e
structure DF(ρ ρ':Rg)(H H':Hp):Prop where
 no:∀a u,H a=ε u->ρ.no a->ρ'.no a
 eq:∀a u,H a=ε u->ρ.no a->H' a=ε u
 ix:∀(n:Nat) a,ρ.v[n]?=ε a->ρ'.v[n]?=ε a
 fz:∀a o u,H a=ε (.frz o u)->H' a=ε (.frz o u)
theorem qc.same{ρ a:Rg}{H H':Hp}(x:qc ρ a H H'):DF ρ a H H':=⟨fun _ _ e n=>x.fw e n,fun _ _ e n=>x.keep _ _ e n.1,fun _ _ e=>x.get e,x.fz⟩
theorem rc.same{K:Oi}{ρ b:Rg}{H d:Hp}(x:DF ρ b H d){a:Oa}{vs:Ms V}(h:rc K H ρ a vs):rc K d b a vs:=by
 rcases h with⟨n,t | ⟨y,t⟩⟩ | t
 . exact .inl ⟨x.no _ _ t n,.inl (x.eq _ _ t n)⟩
 . exact .inl ⟨x.no _ _ t n,.inr ⟨y,x.eq _ _ t n⟩⟩
 . exact .inr t
theorem rd.same{K:Oi}{ρ b:Rg}{H d:Hp}(x:DF ρ b H d){a:Oa}{vs:Ms V}(h:rd K H ρ a vs):rd K d b a vs:=by
 rcases h with⟨n,t | ⟨y,t⟩⟩ | t
 . exact .inl ⟨x.no _ _ t n,.inl (x.eq _ _ t n)⟩
 . exact .inl ⟨x.no _ _ t n,.inr ⟨y,x.eq _ _ t n⟩⟩
 . exact .inr t
mutual
theorem Qi.same{K:Oi}{ρ b:Rg}{H g:Hp}(x:DF ρ b H g):∀(d:Dt){v:V},Qi K H ρ d v->Qi K g b d v
 | .non,_,h=>by simp![Qi]at h ⊢;exact h
 | .bl _,_,h=>by simp![Qi]at h ⊢;exact h
 | .int _,_,h=>by simp![Qi]at h ⊢;exact h
 | .str _,_,h=>by simp![Qi]at h ⊢;exact h
 | .tup xs,_,h=>by simp![Qi]at h ⊢;obtain⟨a,f,e,t,r⟩:=h;exact⟨a,f,e,t.same x,Qe.same x xs r⟩
 | .lst xs,_,h=>by simp![Qi]at h ⊢;obtain⟨a,f,e,t,r⟩:=h;exact⟨a,f,e,t.same x,Qe.same x xs r⟩
 | .ref _,_,h=>by simp![Qi]at h ⊢;obtain⟨a,e,t⟩:=h;exact⟨a,e,x.ix _ _ t⟩
 | .ntp _,_,h=>by simp![Qi]at h ⊢;obtain⟨a,e,n,t⟩:=h;exact⟨a,e,x.no _ _ t n,x.eq _ _ t n⟩
theorem Qe.same{K:Oi}{ρ a:Rg}{H b:Hp}(x:DF ρ a H b):∀(ds:Ms Dt){vs:Ms V},Qe K H ρ ds vs->Qe K b a ds vs
 | [],_,h=>by simp![Qe]at h ⊢;exact h
 | d::ds,_,h=>by simp![Qe]at h ⊢;obtain⟨v,r,e,g,f⟩:=h;exact⟨v,r,e,Qi.same x d g,Qe.same x ds f⟩
end
theorem Qi.ext{K:Oi}{ρ a:Rg}{H b:Hp}(x:qc ρ a H b)(d:Dt){v:V}(h:Qi K H ρ d v):Qi K b a d v:=Qi.same x.same d h
theorem Qe.ext{K:Oi}{ρ a:Rg}{H b:Hp}{ds:Ms Dt}{vs:Ms V}(h:Qe K H ρ ds vs)(x:qc ρ a H b):Qe K b a ds vs:=Qe.same x.same ds h
section
variable{K:Oi}{H:Hp}{ρ:Rg}
theorem Qe.nil:Qe K H ρ [] []:=by simp![Qe]
theorem Qe.cons{d:Dt}{v:V}{ds:Ms Dt}{vs:Ms V}(h:Qi K H ρ d v)(r:Qe K H ρ ds vs):Qe K H ρ (d::ds) (v::vs):=by simp![Qe];exact⟨v,vs,rfl,h,r⟩
theorem Qe.Xe{d:Dt}{ds:Ms Dt}{vs:Ms V}(h:Qe K H ρ (d::ds) vs):∃v r,vs=v::r/\Qi K H ρ d v/\Qe K H ρ ds r:=by simpa only[Qe]using h
theorem Qe.ag{vs:Ms V}(h:Qe K H ρ [] vs):vs=[]:=by simpa only[Qe]using h
theorem Qe.length:∀{ds:Ms Dt}{vs:Ms V},Qe K H ρ ds vs->vs.length=ds.length
 | [],_,h=>by rw[h.ag];rfl
 | d::ds,_,h=>by obtain⟨v,r,rfl,_,a⟩:=h.Xe;rw[Qu,Qu,Qe.length a]
theorem Qe.get:∀{ds:Ms Dt}{vs:Ms V}{i:Nat}{d:Dt},Qe K H ρ ds vs->ds[i]?=ε d->∃v,vs[i]?=ε v/\Qi K H ρ d v
 | [],_,_,_,_,e=>by simp at e
 | d::ds,_,0,_,h,e=>by obtain⟨v,r,rfl,g,_⟩:=h.Xe;simp at e;subst e;exact⟨v,rfl,g⟩
 | d::ds,_,i+1,d',h,e=>by obtain⟨v,r,rfl,_,f⟩:=h.Xe;obtain⟨u,b,a⟩:=Qe.get (i:=i) f (by simpa using e);exact⟨u,by simpa using b,a⟩
theorem Qe.append:∀{ds a:Ms Dt}{vs us:Ms V},Qe K H ρ ds vs->Qe K H ρ a us->Qe K H ρ (ds++a) (vs++us)
 | [],_,_,_,h,h'=>by rw[h.ag];exact h'
 | d::ds,_,_,_,h,h'=>by obtain⟨v,r,rfl,e,b⟩:=h.Xe;exact .cons e (Qe.append b h')
theorem Qe.set:∀{ds:Ms Dt}{vs:Ms V}{d:Dt}{v:V}(i:Nat),Qe K H ρ ds vs->Qi K H ρ d v->Qe K H ρ (ds.set i d) (vs.set i v)
 | [],_,_,_,_,h,_=>by rw[h.ag];exact .nil
 | d::ds,_,_,_,0,h,q=>by obtain⟨v,r,rfl,b,a⟩:=h.Xe;exact .cons q a
 | d::ds,_,_,_,i+1,h,q=>by obtain⟨v,r,rfl,b,a⟩:=h.Xe;exact .cons b (Qe.set i a q)
theorem Qe.take:∀{ds:Ms Dt}{vs:Ms V}(n:Nat),Qe K H ρ ds vs->Qe K H ρ (ds.take n) (vs.take n)
 | [],_,n,h=>by rw[h.ag];simp;exact .nil
 | d::ds,_,0,h=>.nil
 | d::ds,_,n+1,h=>by obtain⟨v,r,rfl,b,a⟩:=h.Xe;exact .cons b (Qe.take n a)
theorem Qe.drop:∀{ds:Ms Dt}{vs:Ms V}(n:Nat),Qe K H ρ ds vs->Qe K H ρ (ds.drop n) (vs.drop n)
 | [],_,n,h=>by rw[h.ag];simp;exact .nil
 | d::ds,_,0,h=>h
 | d::ds,_,n+1,h=>by obtain⟨v,r,rfl,b,a⟩:=h.Xe;exact Qe.drop n a
theorem Qe.ints(ns:Ms Int):Qe K H ρ (ns.map Dt.int) (ns.map V.int):=by
 induction ns with
 | nil=>exact .nil
 | cons n ns ih=>exact .cons (by simp![Qi]) ih
theorem Qe.bi:∀{ns:Ms Int}{vs:Ms V},Qe K H ρ (ns.map Dt.int) vs->vs=ns.map V.int
 | [],_,h=>h.ag
 | n::ns,_,h=>by obtain⟨v,r,rfl,a,b⟩:=Qe.Xe h;simp![Qi]at a;rw[a,Qe.bi b];rfl
theorem Ti{i:Int}{v:V}:Qi K H ρ (.int i) v↔v=.int i:=by simp![Qi]
theorem Vi{i:Bool}{v:V}:Qi K H ρ (.bl i) v↔v=.bl i:=by simp![Qi]
theorem Zo{i:Str}{v:V}:Qi K H ρ (.str i) v↔v=.str i:=by simp![Qi]
theorem Zi{v:V}:Qi K H ρ .non v↔v=.non:=by simp![Qi]
theorem Wo{xs:Ms Dt}{v:V}:Qi K H ρ (.tup xs) v↔∃a vs,v=.ref a/\rc K H ρ a vs/\Qe K H ρ xs vs:=by simp![Qi]
theorem Xi{xs:Ms Dt}{v:V}:Qi K H ρ (.lst xs) v↔∃a vs,v=.ref a/\rd K H ρ a vs/\Qe K H ρ xs vs:=by simp![Qi]
theorem bc{xs:Ms Int}{v:V}:Qi K H ρ (.ntp xs) v↔∃a,v=.ref a/\ρ.no a/\H a=ε (.tup (xs.map V.int)):=by simp![Qi]
theorem Xu{n:Nat}{v:V}:Qi K H ρ (.ref n) v↔∃a,v=.ref a/\ρ.v[n]?=ε a:=by simp![Qi]
end
def ay(K:Oi)(H:Hp)(ρ:Rg)(a:Oa):Ob->Prop
 | .lst e=>∃b,H a=ε (.lst b)/\Qe K H ρ e b
 | .ins x fs=>∃C f b,nsIn K mainGlobals x=ε (ε (.ref C))/\H a=ε (.ins C f b)/\fs.map (·.1)=b.map (·.1)/\Qe K H ρ (fs.map (·.2)) (b.map (·.2))
 | .dk d=>∃b,H a=ε (.dK b)/\d.map (·.1)=b.map (·.1)/\Qe K H ρ (d.map (·.2)) (b.map (·.2))
 | .dt d=>∃b:Ms (Ms fC×V),H a=ε (.dT b)/\b.map (·.1)=d.map (fun p=>p.1.map Sum.inl)/\Qe K H ρ (d.map (·.2)) (b.map (·.2))
 | .df d=>∃(o:Obj)(b:Ms (Ms fC×V)),H a=ε (.frz o (.dT b))/\b.map (·.1)=d.map (fun p=>p.1.map Sum.inl)/\Qe K H ρ (d.map (·.2)) (b.map (·.2))
structure Rr(K:Frag)(ρ:Rg)(h:HI)(H:Hp):Prop where
 nd:ρ.v.Nodup
 len:ρ.v.length=h.length
 ob:∀(n:Nat) a o,ρ.v[n]?=ε a->h[n]?=ε o->ay K H ρ a o
 zt:∀a∈ρ.z,a∉ρ.v/\∃vs,H a=ε (.lst vs)
theorem ay.ext{K:Oi}{H k:Hp}{ρ i:Rg}{a:Oa}{o:Ob}(x:qc ρ i H k)(e:k a=H a)(h:ay K H ρ a o):ay K k i a o:=by
 cases o with
 | lst p=>obtain⟨b,f,d⟩:=h;exact⟨b,e.trans f,d.ext x⟩
 | ins y fs=>obtain⟨C,n,b,m,f,d,g⟩:=h;exact⟨C,n,b,m,e.trans f,d,g.ext x⟩
 | dk j=>obtain⟨b,f,d,g⟩:=h;exact⟨b,e.trans f,d,g.ext x⟩
 | dt j=>obtain⟨b,f,d,g⟩:=h;exact⟨b,e.trans f,d,g.ext x⟩
 | df j=>obtain⟨o,b,f,d,g⟩:=h;exact⟨o,b,e.trans f,d,g.ext x⟩
theorem ay.some{K:Oi}{H:Hp}{ρ:Rg}{a:Oa}{o:Ob}(h:ay K H ρ a o):∃u,H a=ε u:=by
 cases o with
 | lst f=>obtain⟨e,b,_⟩:=h;exact⟨_,b⟩
 | ins y fs=>obtain⟨C,g,e,_,b,_⟩:=h;exact⟨_,b⟩
 | dk d=>obtain⟨e,b,_⟩:=h;exact⟨_,b⟩
 | dt d=>obtain⟨e,b,_⟩:=h;exact⟨_,b⟩
 | df d=>obtain⟨o,e,b,_⟩:=h;exact⟨_,b⟩
section
variable{K:Oi}{H H':Hp}{ρ:Rg}{h:HI}
theorem Rr.nil:Rr K .nil [] H:=⟨nodup_nil,rfl,fun _ _ _ e=>by simp[Rg.nil]at e,fun _ h=>nomatch h⟩
theorem Rr.tracked(S:Rr K ρ h H){a:Oa}(e:a∈ρ.v):∃u,H a=ε u:=by
 obtain⟨n,b⟩:=mem_iff_getElem?.mp e;have d:n<h.length:=by rw[<- S.len];exact(Uo b).1
 exact(S.ob n a _ b (iu d)).some
theorem Rr.out(S:Rr K ρ h H){p:Oa}(b:H p=none):ρ.no p:=by
 refine⟨fun a=>?_,fun a=>?_⟩
 . obtain⟨u,e⟩:=S.tracked a;rw[b]at e;cases e
 . obtain⟨_,u,e⟩:=S.zt p a;rw[b]at e;cases e
theorem Rr.fresh(S:Rr K ρ h H){p:Oa}{o:HO}(b:H p=none):Rr K ρ h (xB H p o):=
 ⟨S.nd,S.len,fun n a u d e2=>(S.ob n a u d e2).ext (qc.fresh b) (WA (fun z=>(S.out b).1 (z ▸ jo d))),fun a f=>by
  obtain⟨n,u,e⟩:=S.zt a f;exact⟨n,u,by rw[WA (kD e b)];exact e⟩⟩
theorem Rr.own(S:Rr K ρ h H){p:Oa}{o:HO}{u:Ob}(f:H p=none)(q:ay K (xB H p o) (ρ.add p) p u):Rr K (ρ.add p) (h++[u]) (xB H p o):=by
 refine⟨?_,by simp![Rg.add];rw[g8,g8,S.len];rfl,fun n a ob d e2=>?_,fun a j=>?_⟩
 . simp![Rg.add];rw[nodup_append];refine⟨S.nd,La.mpr ⟨by simp,nodup_nil⟩,fun a j b r=>?_⟩;rw[zc.mp r];intro z;exact(S.out f).1 (z ▸ j)
 . simp![Rg.add]at d;by_cases i:n<h.length
   . rw[Vo i]at e2;rw[Vo (by rw[S.len];exact i)]at d;exact(S.ob n a ob d e2).ext (qc.own f) (WA (fun z=>(S.out f).1 (z ▸ jo d)))
   . have g:h.length<=n:=Ie.mp i;rw[Ye g]at e2;rw[Ye (by rw[S.len];exact g),S.len]at d;cases m:n-h.length with
     | zero=>rw[m]at d e2;simp at d e2;subst d e2;exact q
     | succ k=>rw[m]at e2;simp at e2
 . obtain⟨n,u,e⟩:=S.zt a j;refine⟨fun hm=>?_,u,by rw[WA (kD e f)];exact e⟩;simp![Rg.add]at hm;rcases Aa.mp hm with hm | hm
   . exact n hm
   . rw[zc.mp hm,f]at e;cases e
theorem Rr.write(S:Rr K ρ h H){n:Nat}{p:Oa}{o:HO}{u:Ob}(b:ρ.v[n]?=ε p)(j:IV H p)(k:ay K (xB H p o) ρ p u):Rr K ρ (h.set n u) (xB H p o):=by
 refine⟨S.nd,by rw[Ju];exact S.len,fun m a ob d e2=>?_,fun a r=>?_⟩
 . by_cases f:m=n
   . subst f;rw[b]at d;cases d;have q:m<h.length:=by rw[<- S.len];exact(Uo b).1
     rw[ou q]at e2;cases e2;exact k
   . rw[ju (m5 f)]at e2;refine(S.ob m a ob d e2).ext (qc.write (jo b) j) (WA fun z=>f ?_);subst z;obtain⟨x,i⟩:=Uo d;obtain⟨s,g⟩:=Uo b;exact(getElem_inj S.nd).mp (i.trans g.symm)
 . obtain⟨m,w,e⟩:=S.zt a r;exact⟨m,w,by rw[WA (fun z=>m (by rw[z];exact jo b))];exact e⟩
theorem Rr.lst(S:Rr K ρ h H){n:Nat}{a:Oa}{xs:Ms Dt}(b:ρ.v[n]?=ε a)(e:h[n]?=ε (.lst xs)):∃vs,H a=ε (.lst vs)/\Qe K H ρ xs vs:=S.ob n a _ b e
end
structure Ws(K:Frag)(H:Hp)(ρ:Rg)(l:LI)(σ:L2.St):Prop where
 len:l.length=σ.length
 val:∀(i:Nat) d,l[i]?=ε (ε d)->∃v,σ[i]?=ε (ε v)/\Qi K H ρ d v
theorem Ws.ext{K:Oi}{H b:Hp}{ρ a:Rg}{l:LI}{σ:L2.St}(L:Ws K H ρ l σ)(x:qc ρ a H b):Ws K b a l σ:=
 ⟨L.len,fun i d e=>let ⟨v,e1,r⟩:=L.val i d e;⟨v,e1,Qi.ext x d r⟩⟩
theorem Ws.set{K:Oi}{H:Hp}{ρ:Rg}{l:LI}{b:L2.St}(L:Ws K H ρ l b){d:Dt}{v:V}(i:Nat)(r:Qi K H ρ d v):Ws K H ρ (l.set i (ε d)) (b.set i (ε v)):=by
 refine⟨by rw[Ju,Ju];exact L.len,fun j g e=>?_⟩;by_cases a:j=i
 . subst a;have f:j<l.length:=by have:=(Uo e).1;rwa[Ju]at this
   rw[ou f]at e;cases e;exact⟨v,ou (by rw[<- L.len];exact f),r⟩
 . rw[ju (m5 a)]at e;rw[ju (m5 a)];exact L.val j g e
abbrev RE:=LI->HI->Ni (Dt×HI)
abbrev RT:=LI->HI->Ni (Bool×HI)
abbrev RA:=LI->HI->Ni (Ms Dt×HI)
inductive Rs where
 | nx (l:LI) (h:HI) | rt (d:Dt) (h:HI) | bk (l:LI) (h:HI) | ct (l:LI) (h:HI)
abbrev RS:=LI->HI->Ni Rs
abbrev OD:=Dt->Dt->HI->Ni (Dt×HI)
abbrev zB:=Ms Dt->HI->Ni (Dt×HI)
noncomputable def nB:Oe->Bool
 | .Starred _ _=>false
 | _=>true
theorem aB{e:Oe}(h:nB e=true)(a:Ms Oe)(env:Env):starEach (e::a) env=(false,eval e env)::starEach a env:=by cases e<;>first | rfl | (exact Ci h Va)
theorem iI{pos:Pos}{env:Env}:∀{a:Ms Oe},a.all nB=true->(backTo pos (starEach a env)).any (·.1)=false
 | [],_=>rfl
 | e::a,h=>by rw[Js,rz]at h;have ih:=iI (pos:=pos) (env:=env) h.2;rw[aB h.1];unfold backTo at ih ⊢;simp![Qs,Jo,Bool.false_or];exact ih
theorem NT{pos:Pos}{env:Env}{b:Oe}(h:nB b=true):((backTo pos (starEach [b] env)).all (fun x=>!x.1)&&(backToKw pos (keywordEach [] env)).all (fun x=>x.1.isSome)
 && decide ([b].length+([]:Ms Keyword).length+(if([]:Ms Keyword).isEmpty then 0 else 1)<30))=true:=by
 rw[aB h];rfl
def Out(K:Oi)(ρ:Rg)(H:Hp)(d:Dt)(h':HI)(Q:VK):Prop:=
 ∀a v b,Qi K b a d v->Rr K a h' b->qc ρ a H b->Q v b
def dn(K:Oi)(ρ:Rg)(H:Hp)(h':HI)(Q:Hp->Prop):Prop:=
 ∀a b,Rr K a h' b->qc ρ a H b->Q b
noncomputable def tM(K:Oi)(f:RE):TE:=fun e H Q=>∃a l h d b,Rr K a h H/\Ws K H a l e/\f l h=ε (d,b)/\Out K a H d b Q
noncomputable def eQ(K:Oi)(f:RT):TT:=fun e H Q=>∃a l h b d,Rr K a h H/\Ws K H a l e/\f l h=ε (b,d)/\dn K a H d (Q b)
def Qp(K:Oi)(f:RA):TA:=fun i H Q=>∃d l h ds g,Rr K d h H/\Ws K H d l i/\f l h=ε (ds,g)/\∀a e b,Qe K b a ds e->Rr K a g b->qc d a H b->Q e b
def rM(K:Oi)(op:OD):R2:=fun x y H Q=>∃a h f e d b,Rr K a h H/\Qi K H a f x/\Qi K H a e y/\op f e h=ε (d,b)/\Out K a H d b Q
noncomputable def eI(K:Oi)(ρ:Rg)(H:Hp)(D:zI):Rs->Prop
 | .nx l h=>∀a b e,Rr K a h e->Ws K e a l b->qc ρ a H e->D.nx b e
 | .bk l h=>∀a b e,Rr K a h e->Ws K e a l b->qc ρ a H e->D.bk b e
 | .ct l h=>∀a b e,Rr K a h e->Ws K e a l b->qc ρ a H e->D.ct b e
 | .rt d h=>Out K ρ H d h D.rt
def sM(K:Oi)(f:RS):TS:=fun D b H=>∃a l h r,Rr K a h H/\Ws K H a l b/\f l h=ε r/\eI K a H D r
theorem Out.ext{K:Oi}{ρ a:Rg}{H f:Hp}{d:Dt}{h':HI}{Q:VK}(k:Out K ρ H d h' Q)(x:qc ρ a H f):Out K a f d h' Q:=fun b v g r s e=>k b v g r s (x.trans e)
theorem dn.ext{K:Oi}{ρ a:Rg}{H d:Hp}{h':HI}{Q:Hp->Prop}(k:dn K ρ H h' Q)(x:qc ρ a H d):dn K a d h' Q:=fun b f s e=>k b f s (x.trans e)
theorem eI.ext{K:Oi}{ρ f:Rg}{H i:Hp}{D:zI}{r:Rs}(k:eI K ρ H D r)(x:qc ρ f H i):eI K f i D r:=by
 cases r with
 | nx l h=>exact fun b a g s l e=>k b a g s l (x.trans e)
 | bk l h=>exact fun b a g s l e=>k b a g s l (x.trans e)
 | ct l h=>exact fun b a g s l e=>k b a g s l (x.trans e)
 | rt d h=>exact Out.ext k x
@[irreducible] def EM(X:Cx)(e:Oe)(f:RE):Prop:=PE X e (tM X.K f)
@[irreducible] def TM(X:Cx)(e:Oe)(f:RT):Prop:=PT X e (eQ X.K f)
@[irreducible] def WM(X:Cx)(e:Oe)(f:RT):Prop:=PW X e (eQ X.K f)
@[irreducible] def AM(X:Cx)(a:Ms Oe)(f:RA):Prop:=PA X a (Qp X.K f)
@[irreducible] def OM(X:Cx)(f:Mu->Mu->Sem Mu)(op:OD):Prop:=qv X f (rM X.K op)
@[irreducible] def ZM(X:Cx)(st:Ou)(f:RS):Prop:=PS X st (sM X.K f)
@[irreducible] def CI(X:Cx)(st:Ms Ou)(f:RS):Prop:=PSs X st (sM X.K f)
theorem PE.imp{X:Cx}{e:Oe}{t t':TE}(h:PE X e t)(i:∀a H Q,t' a H Q->t a H Q):PE X e t':=fun b s a H Q I q=>h b s a H Q I (i a H Q q)
theorem PT.imp{X:Cx}{e:Oe}{t t':TT}(h:PT X e t)(i:∀a H Q,t' a H Q->t a H Q):PT X e t':=fun b s a H Q I q=>h b s a H Q I (i a H Q q)
theorem PW.imp{X:Cx}{e:Oe}{t t':TT}(h:PW X e t)(i:∀a H Q,t' a H Q->t a H Q):PW X e t':=fun d b s a H Q I q=>h d b s a H Q I (i a H Q q)
theorem PA.imp{X:Cx}{e:Ms Oe}{t t':TA}(h:PA X e t)(i:∀a H Q,t' a H Q->t a H Q):PA X e t':=fun pos b s a H Q I q=>h pos b s a H Q I (i a H Q q)
theorem PS.imp{X:Cx}{e:Ou}{t t':TS}(h:PS X e t)(i:∀D a H,t' D a H->t D a H):PS X e t':=fun b s a H D I q=>h b s a H D I (i D a H q)
theorem PSs.imp{X:Cx}{e:Ms Ou}{t t':TS}(h:PSs X e t)(i:∀D a H,t' D a H->t D a H):PSs X e t':=fun b s a H D I q=>h b s a H D I (i D a H q)
theorem qv.imp{X:Cx}{f:Mu->Mu->Sem Mu}{t t':R2}(h:qv X f t)(i:∀x y H Q,t' x y H Q->t x y H Q):qv X f t':=fun a s b H x y v u Q I e d q=>h a s b H x y v u Q I e d (i x y H Q q)
noncomputable def eC(d:Dt):RE:=fun _ h=>ε (d,h)
abbrev ro(i:Int):=eC (.int i)
noncomputable def eV(i:Nat):RE:=fun l h=>match l[i]? with | some (some d)=>ε (d,h) | _=>none
noncomputable def e2(op:OD)(fa fb:RE):RE:=fun l h=>(fa l h).bind fun r=>(fb l r.2).bind fun q=>op r.1 q.1 q.2
noncomputable def eA:RA:=fun _ h=>ε ([],h)
noncomputable def bA(f:RE)(g:RA):RA:=fun l h=>(f l h).bind fun r=>(g l r.2).bind fun q=>ε (r.1::q.1,q.2)
section
variable{X:Cx}{a b c:Oe}{fa fb s:RE}{pos:Pos}
theorem dA{i j pos}:EM X (.Constant (.int i) j pos) (eC (.int i)):=by unhygienic exact PE.imp J6 fun m H Q g=>by obtain⟨f,l,h,d,n,S,L,e,k⟩:=g;cases e;exact k f _ H (Ti.mpr rfl) S (qc.refl _ _)
theorem EF{i j pos}:EM X (.Constant (.bool i) j pos) (eC (.bl i)):=by unhygienic exact PE.imp Bj fun m H Q g=>by obtain⟨f,l,h,d,n,S,L,e,k⟩:=g;cases e;exact k f _ H (Vi.mpr rfl) S (qc.refl _ _)
theorem NB{i j pos}:EM X (.Constant (.str i) j pos) (eC (.str i)):=by unhygienic exact PE.imp M6 fun m H Q g=>by obtain⟨f,l,h,d,n,S,L,e,k⟩:=g;cases e;exact k f _ H (Zo.mpr rfl) S (qc.refl _ _)
theorem AF{j pos}:EM X (.Constant .none j pos) (eC .non):=by unhygienic exact PE.imp K6 fun i H Q g=>by obtain⟨f,l,h,d,m,S,L,e,k⟩:=g;cases e;exact k f _ H (Zi.mpr rfl) S (qc.refl _ _)
theorem aA (i:Nat) {x:Str} {pos:Pos} (n:autoParam (X.N[i]?=ε x) Æ) (m:X3 X.env.scope x:=by first | exact Or.inl rfl | exact Or.inr (Or.inl rfl) | exact Or.inr (Or.inr rfl)) (hd:autoParam ((x==("__debug__" :Str))=false) Ñ)
 (f:autoParam ((x==("__classdict__" :Str))=false) Ñ):EM X (.Name x pos) (eV i):=by
 unhygienic
  exact PE.imp (N6 n m hd f) fun p H Q j=>by
   obtain⟨g,l,h,d,u,S,L,e,k⟩:=j;unfold eV at e;split at e
   . rename_i y q;cases e;obtain⟨v,o,r⟩:=L.val i _ q;exact⟨v,o,k g v H r S (qc.refl _ _)⟩
   . cases e
theorem Ad {x:Str} {v:V} {u:Mu} {d:Dt} {pos:Pos} (m:Gl X x) (j:X.mg x=ε u) (r:qf v u) (i:∀H f,Qi X.K H f d v) (hd:autoParam ((x==("__debug__" :Str))=false) Ñ):EM X (.Name x pos) (eC d):=by unhygienic exact PE.imp (Ub m j r hd) fun n H Q g=>by obtain⟨f,l,h,p,o,S,L,e,k⟩:=g;cases e;exact k f v H (i H f) S (qc.refl _ _)
theorem oA{e d:Type}{o:Ni e}{f:e->Ni d}{b:d}(h:o.bind f=ε b):∃a,o=ε a/\f a=ε b:=by
 cases o with
 | none=>cases h
 | some a=>exact⟨a,rfl,h⟩
theorem vA{op:Operator}{o:OD}(B:OM X (binaryOp op) o)(D:EM X a fa)(C:EM X b fb):EM X (.BinOp a op b pos) (e2 o fa fb):=by
 unhygienic
  exact PE.imp (FV B D C) fun M H Q u=>by
   obtain⟨r,l,h,d,E,S,L,e,k⟩:=u;obtain⟨⟨n,j⟩,F,e⟩:=oA e;obtain⟨⟨m,i⟩,e2,e⟩:=oA e;exact⟨r,l,h,n,j,S,L,F,fun g x P J I q=>⟨g,l,j,m,i,I,L.ext q,e2,fun f y O R2 G p=>
    ⟨f,i,n,m,d,E,G,Qi.ext p _ J,R2,e,k.ext (q.trans p)⟩⟩⟩
theorem fH{op:CmpOp}{o:OD}(B:OM X (compareOp op) o)(E:EM X a fa)(D:EM X b fb)(C:behindInMarks op b=false:=by first | exact S0 _ | unhygienic rfl):EM X (.Compare a [op] [b] pos) (e2 o fa fb):=by
 unhygienic
  exact PE.imp (Br B E D C) fun O H Q u=>by
   obtain⟨r,l,h,d,F,S,L,e,k⟩:=u;obtain⟨⟨n,j⟩,G,e⟩:=oA e;obtain⟨⟨m,i⟩,e2,e⟩:=oA e;exact⟨r,l,h,n,j,S,L,G,fun g x R M J q=>⟨g,l,j,m,i,J,L.ext q,e2,fun f y P R2 I p=>
    ⟨f,i,n,m,d,F,I,Qi.ext p _ M,R2,e,k.ext (q.trans p)⟩⟩⟩
noncomputable def qh(f:RE):RT:=fun l h=>(f l h).bind fun r=>match r.1 with | .bl b=>ε (b,r.2) | _=>none
theorem rB{op:CmpOp}{o:OD}(E:OM X (compareOp op) o)(I:EM X a fa)(G:EM X b fb)(F:behindInMarks op b=false:=by first | exact S0 _ | unhygienic rfl):TM X (.Compare a [op] [b] pos) (qh (e2 o fa fb)):=by
 unhygienic
  exact PT.imp (Tn E I G F) fun σ H Q D=>by
   obtain⟨C,l,h,O,h',S,L,e,k⟩:=D;obtain⟨⟨d,J⟩,f,e⟩:=oA e;obtain⟨⟨r,n⟩,M,f⟩:=oA f;obtain⟨⟨p,m⟩,e2,f⟩:=oA f;refine⟨C,l,h,r,n,S,L,M,fun j x H1 W T B=>⟨j,l,n,p,m,T,L.ext B,e2,fun i y H2 R2 R u=>
    ⟨i,m,r,p,d,J,R,Qi.ext u _ W,R2,f,fun g v Y U P Z=>?_⟩⟩⟩
   cases d with
   | bl q=>cases e;exact⟨O,Vi.mp U,k g Y P (B.trans (u.trans Z))⟩
   | _=>cases e
theorem HG{e:Oe}{f:RE}(h:EM X e f)(he:autoParam (∀g,isTrue e X.env g=(do let v <- g;standAt e.pos;holding [v] (truthy v))) å):TM X e (qh f):=by
 unhygienic
  exact PT.imp (h9 h he) fun B H Q m=>by
   obtain⟨j,l,h,p,C,S,L,e,k⟩:=m;obtain⟨⟨d,n⟩,o,e⟩:=oA e;refine⟨j,l,h,d,n,S,L,o,fun i v x u r y=>?_⟩;cases d with
   | bl q=>cases e;exact⟨p,Vi.mp u,k i x r y⟩
   | _=>cases e
noncomputable def zM(o d:OD)(fa fb s:RE):RE:=fun l h=>(fa l h).bind fun r=>(fb l r.2).bind fun q=>(o r.1 q.1 q.2).bind fun z=>match z.1 with
 | .bl true=>(s l z.2).bind fun y=>d q.1 y.1 y.2
 | .bl false=>ε (.bl false,z.2)
 | _=>none
theorem Mz{r C:OD}{B:L2.St}{H:Hp}{Q:VK}(h:tM X.K (zM r C fa fb s) B H Q):Q0 (rM X.K r) (rM X.K C) (tM X.K fa) (tM X.K fb) (tM X.K s) B H Q:=by
 obtain⟨R,l,h,d,T,S,L,e,k⟩:=h;obtain⟨⟨M,G⟩,Y,e⟩:=oA e;obtain⟨⟨p,F⟩,e2,e⟩:=oA e;obtain⟨⟨J,E⟩,W,e⟩:=oA e;refine⟨R,l,h,M,G,S,L,Y,fun o x H1 R1 S1 j=>⟨o,l,G,p,F,S1,L.ext j,e2,fun n y H2 R2 S2 i=>
  ⟨n,F,M,p,J,E,S2,Qi.ext i _ R1,R2,W,fun f v H3 R3 O g=>?_⟩⟩⟩
 cases J with
 | bl q=>
  refine⟨q,Vi.mp R3,?_⟩;cases q with
  | true=>dsimp only at e;obtain⟨⟨I,D⟩,U,e⟩:=oA e;refine sH ⟨f,l,E,I,D,O,(L.ext (j.trans (i.trans g))),U,fun m u H4 R4 Z P=>⟨m,D,p,I,d,T,Z,Qi.ext (g.trans P) _ R2,R4,e,k.ext (j.trans (i.trans (g.trans P)))⟩⟩
  | false=>cases e;exact rH (k f _ H3 (Vi.mpr rfl) O (j.trans (i.trans g)))
 | _=>cases e
theorem Ih{op d:CmpOp}{r f:OD}(g:OM X (compareOp op) r)(e:OM X (compareOp d) f)(m:EM X a fa)(k:EM X b fb)(j:EM X c s)
 (i:lastMarks [op,d] [b,c]=false:=by unhygienic rfl):EM X (.Compare a [op,d] [b,c] pos) (zM r f fa fb s):=by
 unhygienic exact PE.imp (Yg g e m k j i) fun _ _ _ h=>Mz h
noncomputable def CP(t u:RT):RT:=fun l h=>(t l h).bind fun r=>if r.1=true then u l r.2 else ε (false,r.2)
noncomputable def WE(t u:RT):RT:=fun l h=>(t l h).bind fun r=>if r.1=true then ε (true,r.2)else u l r.2
noncomputable def NH(t:RT):RT:=fun l h=>(t l h).bind fun r=>ε (!r.1,r.2)
variable{m n:RT}{rest:Ms Oe}
theorem WM.tm{e:Oe}{f:RT}(h:WM X e f):TM X e f:=by unhygienic exact PW.pt h
theorem Bb(d:TM X a m):WM X (.BoolOp .And [a] pos) m:=by unhygienic exact Wn d
theorem KM(d:TM X a m):WM X (.BoolOp .Or [a] pos) m:=by unhygienic exact j9 d
theorem L8(r:TM X a m)(q:WM X (.BoolOp .And (b::rest) pos) n):WM X (.BoolOp .And (a::b::rest) pos) (CP m n):=by
 unhygienic
  exact PW.imp (i9 r q) fun C H Q p=>by
   obtain⟨o,l,h,y,u,S,L,e,k⟩:=p;obtain⟨⟨i,g⟩,x,e⟩:=oA e;refine⟨o,l,h,i,g,S,L,x,fun d B j f=>?_⟩;cases i with
   | true=>rw[dh rfl]at e;exact sH ⟨d,l,g,y,u,j,L.ext f,e,k.ext f⟩
   | false=>rw[dG Va]at e;cases e;exact rH (k d B j f)
theorem sI(r:TM X a m)(q:WM X (.BoolOp .Or (b::rest) pos) n):WM X (.BoolOp .Or (a::b::rest) pos) (WE m n):=by
 unhygienic
  exact PW.imp (Fj r q) fun C H Q p=>by
   obtain⟨o,l,h,y,u,S,L,e,k⟩:=p;obtain⟨⟨i,g⟩,x,e⟩:=oA e;refine⟨o,l,h,i,g,S,L,x,fun d B j f=>?_⟩;cases i with
   | true=>rw[dh rfl]at e;cases e;exact sH (k d B j f)
   | false=>rw[dG Va]at e;exact rH ⟨d,l,g,y,u,j,L.ext f,e,k.ext f⟩
theorem yK(i:TM X a m):TM X (.UnaryOp .Not a pos) (NH m):=by unhygienic exact PT.imp (g9 i) fun x H Q g=>by obtain⟨f,l,h,B,y,S,L,e,k⟩:=g;obtain⟨⟨p,j⟩,o,e⟩:=oA e;cases e;exact⟨f,l,h,p,j,S,L,o,fun d r q u=>k d r q u⟩
noncomputable def KJ(t u:RE):RE:=fun l h=>(t l h).bind fun r=>match r.1 with | .bl true=>u l r.2 | .bl false=>ε (.bl false,r.2) | _=>none
noncomputable def PV(t u:RE):RE:=fun l h=>(t l h).bind fun r=>match r.1 with | .bl true=>ε (.bl true,r.2) | .bl false=>u l r.2 | _=>none
theorem OU{op}(h:EM X a fa):EM X (.BoolOp op [a] pos) fa:=by unhygienic exact L6 h
theorem NU(x:EM X a fa)(u:EM X (.BoolOp .And (b::rest) pos) fb):EM X (.BoolOp .And (a::b::rest) pos) (KJ fa fb):=by
 unhygienic
  exact PE.imp (C6 x u) fun E H Q r=>by
   obtain⟨p,l,h,d,y,S,L,e,k⟩:=r;obtain⟨⟨j,i⟩,B,e⟩:=oA e;refine⟨p,l,h,j,i,S,L,B,fun f v D C o g=>?_⟩;cases j with
   | bl q=>
    refine⟨q,Vi.mp C,?_⟩;cases q with
    | true=>exact sH ⟨f,l,i,d,y,o,L.ext g,e,k.ext g⟩
    | false=>cases e;exact rH (k f _ D (Vi.mpr rfl) o g)
   | _=>cases e
theorem T8(x:EM X a fa)(u:EM X (.BoolOp .Or (b::rest) pos) fb):EM X (.BoolOp .Or (a::b::rest) pos) (PV fa fb):=by
 unhygienic
  exact PE.imp (Dj x u) fun E H Q r=>by
   obtain⟨p,l,h,d,y,S,L,e,k⟩:=r;obtain⟨⟨j,i⟩,B,e⟩:=oA e;refine⟨p,l,h,j,i,S,L,B,fun f v D C o g=>?_⟩;cases j with
   | bl q=>
    refine⟨q,Vi.mp C,?_⟩;cases q with
    | true=>cases e;exact sH (k f _ D (Vi.mpr rfl) o g)
    | false=>exact rH ⟨f,l,i,d,y,o,L.ext g,e,k.ext g⟩
   | _=>cases e
noncomputable def kL(t:RT)(f g:RE):RE:=fun l h=>(t l h).bind fun r=>if r.1=true then f l r.2 else g l r.2
theorem XM{c:Oe}(u:TM X c m)(y:EM X a fa)(x:EM X b fb):EM X (.IfExp c a b pos) (kL m fa fb):=by
 unhygienic
  exact PE.imp (jg u y x) fun C H Q r=>by
   obtain⟨q,l,h,d,j,S,L,e,k⟩:=r;obtain⟨⟨o,i⟩,B,e⟩:=oA e;refine⟨q,l,h,o,i,S,L,B,fun f D p g=>?_⟩;cases o with
   | true=>rw[dh rfl]at e;exact sH ⟨f,l,i,d,j,p,L.ext g,e,k.ext g⟩
   | false=>rw[dG Va]at e;exact rH ⟨f,l,i,d,j,p,L.ext g,e,k.ext g⟩
theorem jA:AM X [] eA:=by unhygienic exact PA.imp MD fun g H Q f=>by obtain⟨d,l,h,ds,i,S,L,e,k⟩:=f;cases e;exact k d [] H .nil S (qc.refl _ _)
theorem cA{e:Oe}{j:Ms Oe}{f:RE}{g:RA}(C:EM X e f)(B:AM X j g)(hs:autoParam (nB e=true) Æ):AM X (e::j) (bA f g):=by unhygienic exact PA.imp (wC C B (aB hs j X.env)) fun O H Q y=>by obtain⟨u,l,h,ds,R,S,L,e,k⟩:=y;obtain⟨⟨F,p⟩,E,e⟩:=oA e;obtain⟨⟨o,D⟩,e2,e⟩:=oA e;cases e;exact⟨u,l,h,F,p,S,L,E,fun i x T J I r=>⟨i,l,p,o,D,I,L.ext r,e2,fun d P M R2 G q=>k d _ M (.cons (Qi.ext q _ J) R2) G (r.trans q)⟩⟩
noncomputable def UA(g:RA):RE:=fun l h=>(g l h).bind fun r=>if r.1.length<=sizeLine then ε (.tup r.1,r.2)else none
noncomputable def oC(g:RA):RE:=fun l h=>(g l h).bind fun r=>if r.1.length<=sizeLine then ε (.lst r.1,r.2)else none
noncomputable def gF(g:RA):RE:=fun l h=>(g l h).bind fun r=>if r.1.length<=sizeLine then ε (.ref r.2.length,r.2++[.lst r.1])else none
theorem oJ{K:Oi}{H:Hp}{ρ:Rg}{h:HI}{ds:Ms Dt}{vs:Ms V}{p:Oa}(S:Rr K ρ h H)(R:Qe K H ρ ds vs)(d:H p=none):Qi K (xB H p (.tup vs)) ρ (.tup ds) (.ref p):=
 Wo.mpr ⟨p,vs,rfl,.inl ⟨S.out d,.inl AC⟩,R.ext (qc.fresh d)⟩
theorem DM{K:Oi}{H:Hp}{ρ:Rg}{h:HI}{ds:Ms Dt}{vs:Ms V}{p:Oa}(S:Rr K ρ h H)(R:Qe K H ρ ds vs)(d:H p=none):Qi K (xB H p (.lst vs)) ρ (.lst ds) (.ref p):=
 Xi.mpr ⟨p,vs,rfl,.inl ⟨S.out d,.inl AC⟩,R.ext (qc.fresh d)⟩
theorem qI{K:Oi}{H:Hp}{ρ:Rg}{h:HI}{ds:Ms Dt}{vs:Ms V}{p:Oa}(S:Rr K ρ h H)(R:Qe K H ρ ds vs)(d:H p=none) :
 Qi K (xB H p (.lst vs)) (ρ.add p) (.ref h.length) (.ref p)/\Rr K (ρ.add p) (h++[.lst ds]) (xB H p (.lst vs)):=by
 refine⟨Xu.mpr ⟨p,rfl,?_⟩,S.own d ⟨vs,AC,R.ext (qc.own d)⟩⟩;simp![Rg.add];rw[<- S.len,Ye (Ra _),Bu];rfl
theorem JE{e:Type}{c:Prop}[Decidable c]{a b:e}(h:(if c then ε a else none)=ε b):c/\a=b:=by
 by_cases d:c
 . rw[dh d]at h;exact⟨d,nW h⟩
 . rw[dG d]at h;cases h
theorem sB{j:Ms Oe}{g:RA}{x1}(h:AM X j g):EM X (.Tuple j x1 pos) (UA g):=by unhygienic exact PE.imp (B1 h) fun D H Q u=>by obtain⟨r,l,h,d,F,S,L,e,k⟩:=u;obtain⟨⟨ds,y⟩,B,e⟩:=oA e;obtain⟨x,e⟩:=JE e;cases e;exact⟨r,l,h,ds,y,S,L,B,fun f E G q o C=>⟨by rw[q.length];exact x,fun p i=>k f _ _ (oJ o q i) (o.fresh i) (C.trans (qc.fresh i))⟩⟩
theorem NE{j:Ms Oe}{g:RA}(h:AM X j g):EM X (.List j pos) (oC g):=by unhygienic exact PE.imp (qP h) fun D H Q u=>by obtain⟨r,l,h,d,F,S,L,e,k⟩:=u;obtain⟨⟨ds,y⟩,B,e⟩:=oA e;obtain⟨x,e⟩:=JE e;cases e;exact⟨r,l,h,ds,y,S,L,B,fun f E G q o C=>⟨by rw[q.length];exact x,fun p i=>k f _ _ (DM o q i) (o.fresh i) (C.trans (qc.fresh i))⟩⟩
theorem nG{j:Ms Oe}{g:RA}(h:AM X j g):EM X (.List j pos) (gF g):=by unhygienic exact PE.imp (qP h) fun D H Q u=>by obtain⟨r,l,h,d,F,S,L,e,k⟩:=u;obtain⟨⟨ds,y⟩,B,e⟩:=oA e;obtain⟨x,e⟩:=JE e;cases e;exact⟨r,l,h,ds,y,S,L,B,fun q E G i o C=>⟨by rw[i.length];exact x,fun p f=>k _ _ _ (qI o i f).1 (qI o i f).2 (C.trans (qc.own f))⟩⟩
end
noncomputable def oI(C:Int->Int->Prop)[∀i j,Decidable (C i j)](g:Int->Int->Dt):OD:=fun a b h=>match a,b with
 | .int i,.int j=>if C i j then ε (g i j,h)else none
 | _,_=>none
noncomputable def MK(g:Int->Int->Dt):OD:=fun a b h=>match a,b with
 | .int i,.int j=>ε (g i j,h)
 | _,_=>none
instance:∀i j,Decidable (PK i j):=fun i j=>by unfold PK;infer_instance
instance:∀i j,Decidable (bz i j):=fun i j=>by unfold bz;infer_instance
instance:∀i j,Decidable (lH i j):=fun i j=>by unfold lH;infer_instance
noncomputable def rE:Dt->Ni V
 | .non=>ε .non
 | .bl b=>ε (.bl b)
 | .int i=>ε (.int i)
 | .str x=>ε (.str x)
 | _=>none
theorem xY{K:Oi}{H:Hp}{ρ:Rg}{d:Dt}{v:V}(e:rE d=ε v):Qi K H ρ d v:=by cases d<;>simp![rE]at e<;>first | (cases e;simp![Qi]) | cases e
theorem fK{K:Oi}{H:Hp}{ρ:Rg}{d:Dt}{v u:V}(e:rE d=ε v)(r:Qi K H ρ d u):u=v:=by cases d<;>simp![rE]at e<;>first | (cases e;simpa only[Qi]using r) | cases e
section
variable{X:Cx}
theorem HJ{f:Mu->Mu->Sem Mu}{C:Int->Int->Prop}[∀i j,Decidable (C i j)]{g:Int->Int->Dt}{g':Int->Int->V}(m:qv X f (rI C g'))(n:∀i j,rE (g i j)=ε (g' i j)):OM X f (oI C g):=by
 unhygienic
  exact qv.imp m fun x y H Q b=>by
   obtain⟨a,h,s,r,d,q,S,p,R2,e,k⟩:=b;unfold oI at e;split at e
   . rename_i i j;obtain⟨o,e⟩:=JE e;cases e;exact⟨i,j,Ti.mp p,Ti.mp R2,o,k a _ H (xY (n i j)) S (qc.refl _ _)⟩
   . cases e
theorem MH{f:Mu->Mu->Sem Mu}{g:Int->Int->Dt}{g':Int->Int->V}(m:qv X f (NK g'))(n:∀i j,rE (g i j)=ε (g' i j)):OM X f (MK g):=by
 unhygienic
  exact qv.imp m fun x y H Q b=>by
   obtain⟨a,h,r,q,d,p,S,o,R2,e,k⟩:=b;unfold MK at e;split at e
   . rename_i i j;cases e;exact⟨i,j,Ti.mp o,Ti.mp R2,k a _ H (xY (n i j)) S (qc.refl _ _)⟩
   . cases e
def MB:OD:=MK fun i j=>.int (i+j)
def MF:OD:=MK fun i j=>.int (i-j)
def JC:OD:=oI bz fun i j=>.int (i*j)
def VE:OD:=oI PK fun i j=>.int (i/j)
def aC:OD:=oI (fun _ j=>0<j) fun i j=>.int (i%j)
def tN:OD:=oI lH fun i j=>.int (i^j.toNat)
def WF:OD:=oI lH fun i j=>.int (i*2^j.toNat)
def uN:OD:=oI (fun _ j=>0<=j) fun i j=>.int (i/2^j.toNat)
def LH:OD:=MK fun i j=>.int (Builtin.bitAnd i j)
def FJ:OD:=MK fun i j=>.int (Builtin.bitOr i j)
def BQ:OD:=MK fun i j=>.int (Builtin.bitXor i j)
def GJ:OD:=MK fun i j=>.bl (decide (i<j))
def ZV:OD:=MK fun i j=>.bl (decide (i<=j))
def dL:OD:=MK fun i j=>.bl (decide (j<i))
def AQ:OD:=MK fun i j=>.bl (decide (j<=i))
theorem rC:OM X (binaryOp .Add) MB:=by unhygienic exact MH j7 fun _ _=>rfl
theorem HH:OM X (binaryOp .Sub) MF:=by unhygienic exact MH z7 fun _ _=>rfl
theorem xE:OM X (binaryOp .Mult) JC:=by unhygienic exact HJ p7 fun _ _=>rfl
theorem FG:OM X (binaryOp .FloorDiv) VE:=by unhygienic exact HJ ur fun _ _=>rfl
theorem xD:OM X (binaryOp .Mod) aC:=by unhygienic exact HJ o7 fun _ _=>rfl
theorem f7:OM X (binaryOp .Pow) tN:=by unhygienic exact HJ t7 fun _ _=>rfl
theorem wK:OM X (binaryOp .LShift) WF:=by unhygienic exact HJ v7 fun _ _=>rfl
theorem h7:OM X (binaryOp .RShift) uN:=by unhygienic exact HJ y7 fun _ _=>rfl
theorem mK:OM X (binaryOp .BitAnd) LH:=by unhygienic exact MH l7 fun _ _=>rfl
theorem KU:OM X (binaryOp .BitOr) FJ:=by unhygienic exact MH Aj fun _ _=>rfl
theorem i7:OM X (binaryOp .BitXor) BQ:=by unhygienic exact MH A7 fun _ _=>rfl
theorem yJ:OM X (compareOp .Lt) GJ:=by unhygienic exact MH yj fun _ _=>rfl
theorem D3:OM X (compareOp .LtE) ZV:=by unhygienic exact MH wj fun _ _=>rfl
theorem RM:OM X (compareOp .Gt) dL:=by unhygienic exact MH qj fun _ _=>rfl
theorem CV:OM X (compareOp .GtE) AQ:=by unhygienic exact MH nj fun _ _=>rfl
def A4:OD:=fun a b h=>match rE a,rE b with
 | some x,some y=>if zN x y=true then ε (.bl (decide (x=y)),h)else none
 | _,_=>none
def B4:OD:=fun a b h=>match rE a,rE b with
 | some x,some y=>if zN x y=true then ε (.bl (!decide (x=y)),h)else none
 | _,_=>none
theorem gj:OM X (compareOp .Eq) A4:=by
 unhygienic
  exact qv.imp mj fun x y H Q b=>by
   obtain⟨a,h,n,m,d,j,S,i,R2,e,k⟩:=b;unfold A4 at e;split at e
   . rename_i u v g e2;obtain⟨f,e⟩:=JE e;cases e;rw[fK g i,fK e2 R2];exact⟨f,k a _ H (Vi.mpr rfl) S (qc.refl _ _)⟩
   . cases e
theorem kj:OM X (compareOp .NotEq) B4:=by
 unhygienic
  exact qv.imp zj fun x y H Q b=>by
   obtain⟨a,h,n,m,d,j,S,i,R2,e,k⟩:=b;unfold B4 at e;split at e
   . rename_i u v g e2;obtain⟨f,e⟩:=JE e;cases e;rw[fK g i,fK e2 R2];exact⟨f,k a _ H (Vi.mpr rfl) S (qc.refl _ _)⟩
   . cases e
noncomputable def vJ:Dt->Bool
 | .non=>true
 | _=>false
def iF:OD:=fun a b h=>match b with
 | .non=>ε (.bl (vJ a),h)
 | _=>none
theorem Xk{K:Oi}{H:Hp}{ρ:Rg}{d:Dt}{v:V}(r:Qi K H ρ d v):decide (v=.non)=vJ d:=by
 cases d with
 | non=>have e:=Zi.mp r;subst e;rfl
 | bl b=>have e:=Vi.mp r;subst e;rfl
 | int i=>have e:=Ti.mp r;subst e;rfl
 | str x=>have e:=Zo.mp r;subst e;rfl
 | tup f=>obtain⟨a,g,e,_⟩:=Wo.mp r;subst e;rfl
 | lst f=>obtain⟨a,g,e,_⟩:=Xi.mp r;subst e;rfl
 | ref n=>obtain⟨a,e,_⟩:=Xu.mp r;subst e;rfl
 | ntp n=>obtain⟨a,e,_⟩:=bc.mp r;subst e;rfl
theorem vK:OM X (compareOp .Is) iF:=by
 unhygienic
  exact qv.imp m7 fun x y H Q b=>by
   obtain⟨a,h,j,i,d,g,S,f,R2,e,k⟩:=b;unfold iF at e;split at e
   . cases e;exact⟨Zi.mp R2,k a _ H (Vi.mpr (by rw[Xk f])) S (qc.refl _ _)⟩
   . cases e
noncomputable def TC(f:RE):RE:=fun l h=>(f l h).bind fun r=>match r.1 with | .int i=>ε (.int (-i),r.2) | _=>none
theorem gH{a:Oe}{fa:RE}{pos:Pos}(m:EM X a fa):EM X (.UnaryOp .USub a pos) (TC fa):=by
 unhygienic
  exact PE.imp (J3 J8 m) fun u H Q j=>by
   obtain⟨g,l,h,d,y,S,L,e,k⟩:=j;obtain⟨⟨f,n⟩,o,e⟩:=oA e;refine⟨g,l,h,f,n,S,L,o,fun b x r q p s=>?_⟩;cases f with
   | int i=>cases e;exact⟨i,Ti.mp q,k b _ r (Ti.mpr rfl) p s⟩
   | _=>cases e
end
noncomputable def HA(h:HI):Dt->Ni (Ms Dt)
 | .lst a=>ε a
 | .ref n=>match h[n]? with | some (.lst a)=>ε a | _=>none
 | _=>none
def QD(h:HI):Dt->Ni (Ms Dt)
 | .tup a=>ε a
 | d=>HA h d
theorem FD{K:Oi}{H:Hp}{ρ:Rg}{h:HI}{d:Dt}{v:V}{xs:Ms Dt}(S:Rr K ρ h H)(R:Qi K H ρ d v)(e:HA h d=ε xs):∃a vs,v=.ref a/\qq K H a vs/\Qe K H ρ xs vs:=by
 cases d with
 | lst b=>cases e;obtain⟨a,vs,e,q,r⟩:=Xi.mp R;exact⟨a,vs,e,q.sq,r⟩
 | ref n=>
  simp![HA]at e;split at e
  . rename_i b q;cases e;obtain⟨a,rfl,f⟩:=Xu.mp R;obtain⟨vs,i,g⟩:=S.lst f q;exact⟨a,vs,rfl,qq.of i,g⟩
  . cases e
 | _=>simp![HA]at e<;>cases e
theorem nP{K:Oi}{H:Hp}{ρ:Rg}{h:HI}{d:Dt}{v:V}{xs:Ms Dt}(S:Rr K ρ h H)(R:Qi K H ρ d v)(e:QD h d=ε xs):∃a vs,v=.ref a/\(qq K H a vs\/nH K H a vs)/\Qe K H ρ xs vs:=by
 cases d with
 | tup b=>cases e;obtain⟨a,vs,e,q,r⟩:=Wo.mp R;exact⟨a,vs,e,.inr q.sq,r⟩
 | lst b=>obtain⟨a,vs,e,q,r⟩:=FD S R (show HA h (.lst b)=ε xs from e);exact⟨a,vs,e,.inl q,r⟩
 | ref n=>obtain⟨a,vs,e,q,r⟩:=FD S R (show HA h (.ref n)=ε xs from e);exact⟨a,vs,e,.inl q,r⟩
 | _=>cases e
theorem Qe.atI{K:Oi}{H:Hp}{ρ:Rg}{ds:Ms Dt}{vs:Ms V}{i:Int}{d:Dt}(r:Qe K H ρ ds vs)(e:L2.atI ds i=ε d):∃v,L2.atI vs i=ε v/\Qi K H ρ d v:=by
 unfold L2.atI at e ⊢;rw[r.length];cases q:GI ds.length i with
 | none=>rw[q]at e;cases e
 | some j=>rw[q]at e;exact r.get e
def rA:OD:=fun a b h=>match b with
 | .int i=>match a with
  | .str z=>if z.length<=sizeLine then(L2.atI z.cps.toList i).map fun c=>(.str ⟨#[c]⟩,h)else none
  | _=>(QD h a).bind fun e=>(L2.atI e i).map fun d=>(d,h)
 | _=>none
section
variable{X:Cx}{a b c:Oe}{fa fb fc:RE}{pos:Pos}
theorem Xr{x y:V}{H:Hp}{Q:VK}(h:rM X.K rA x y H Q):El X.K x y H Q:=by
 obtain⟨f,h,F,E,d,D,S,o,R2,e,k⟩:=h;unfold rA at e;split at e
 . rename_i i;have g:=Ti.mp R2;split at e
   . rename_i z;split at e
     . rename_i B;cases q:L2.atI z.cps.toList i with
       | none=>rw[q]at e;cases e
       | some c=>rw[q]at e;cases e;exact .inr (.inr ⟨z,i,c,Zo.mp o,g,B,q,k f _ H (Zo.mpr rfl) S (qc.refl _ _)⟩)
     . cases e
   . obtain⟨s,C,e⟩:=oA e;cases q:L2.atI s i with
     | none=>rw[q]at e;cases e
     | some u=>
      rw[q]at e;cases e;obtain⟨p,j,e2,sq,r⟩:=nP S o C;obtain⟨v,n,m⟩:=r.atI q;rcases sq with sq | sq
      . exact .inl ⟨p,j,i,v,e2,g,sq,n,k f _ H m S (qc.refl _ _)⟩
      . exact .inr (.inl ⟨p,j,i,v,e2,g,sq,n,k f _ H m S (qc.refl _ _)⟩)
 . cases e
theorem kA(u:EM X a fa)(s:EM X b fb)(hs:LY b:=by intro _ _;rfl):EM X (.Subscript a b pos) (e2 rA fa fb):=by
 unhygienic
  exact PE.imp (Cj b8 u s hs) fun G H Q r=>by
   obtain⟨q,l,h,d,B,S,L,e,k⟩:=r;obtain⟨⟨n,j⟩,C,e⟩:=oA e;obtain⟨⟨m,i⟩,e2,e⟩:=oA e;exact⟨q,l,h,n,j,S,L,C,fun g x J F E p=>⟨g,l,j,m,i,E,L.ext p,e2,fun f y I R2 D o=>
    Xr ⟨f,i,n,m,d,B,D,Qi.ext o _ F,R2,e,k.ext (p.trans o)⟩⟩⟩
end
noncomputable def jB:RS:=fun l h=>ε (.nx l h)
noncomputable def lA(f g:RS):RS:=fun l h=>(f l h).bind fun r=>match r with | .nx a b=>g a b | r=>ε r
noncomputable def DA(i:Nat)(f:RE):RS:=fun l h=>(f l h).bind fun r=>ε (.nx (l.set i (ε r.1)) r.2)
noncomputable def bD(f:RE):RS:=fun l h=>(f l h).bind fun r=>ε (.nx l r.2)
noncomputable def AA(f:RE):RS:=fun l h=>(f l h).bind fun r=>ε (.rt r.1 r.2)
noncomputable def SC(t:RT)(f g:RS):RS:=fun l h=>(t l h).bind fun r=>if r.1=true then f l r.2 else g l r.2
section
variable{X:Cx}{st:Ou}{rest:Ms Ou}{e:Oe}{f:RE}{t u:RS}{c:RT}{pos:Pos}
theorem KB:CI X [] jB:=by unhygienic exact PSs.imp Qn fun D a H d=>by obtain⟨b,l,h,r,S,L,e,k⟩:=d;cases e;exact k b a H S L (qc.refl _ _)
theorem pA(h1:ZM X st t)(h2:CI X rest u):CI X (st::rest) (lA t u):=by
 unhygienic
  exact PSs.imp (Ag h1 h2) fun D x H n=>by
   obtain⟨m,l,h,r,S,L,e,k⟩:=n;obtain⟨i,o,e⟩:=oA e;refine⟨m,l,h,i,S,L,o,?_⟩;cases i with
   | nx g a=>exact fun b j y p q s=>⟨b,g,a,r,p,q,e,k.ext s⟩
   | rt d a=>cases e;exact k
   | bk g a=>cases e;exact k
   | ct g a=>cases e;exact k
theorem sA(h1:ZM X st t):CI X [st] t:=by unhygienic exact Rn h1
theorem bE(he:EM X e f)(hs:autoParam (swapsWith e none pos.line X.env=pure false) Æ):ZM X (.Expr e pos) (bD f):=by unhygienic exact PS.imp (Pn he hs) fun D d H i=>by obtain⟨g,l,h,r,S,L,e,k⟩:=i;obtain⟨⟨n,j⟩,m,e⟩:=oA e;cases e;exact⟨g,l,h,n,j,S,L,m,fun a v p q o b=>k a d p o (L.ext b) b⟩
theorem FA(he:EM X e f):ZM X (.Return (ε e) pos) (AA f):=by unhygienic exact PS.imp (e9 he) fun D j H b=>by obtain⟨a,l,h,r,S,L,e,k⟩:=b;obtain⟨⟨i,d⟩,g,e⟩:=oA e;cases e;exact⟨a,l,h,i,d,S,L,g,k⟩
theorem JB{b:Oe}{j d:Ms Ou}(q:TM X b c)(x:CI X j t)(s:CI X d u):ZM X (.If b j d pos) (SC c t u):=by
 unhygienic
  exact PS.imp (Ej q x s) fun D B H p=>by
   obtain⟨o,l,h,r,S,L,e,k⟩:=p;obtain⟨⟨m,i⟩,y,e⟩:=oA e;refine⟨o,l,h,m,i,S,L,y,fun a C n g=>?_⟩;cases m with
   | true=>rw[dh rfl]at e;exact sH ⟨a,l,i,r,n,L.ext g,e,k.ext g⟩
   | false=>rw[dG Va]at e;exact rH ⟨a,l,i,r,n,L.ext g,e,k.ext g⟩
theorem IA(i:Nat){x:Str}{a:Pos}(p:X.N.Nodup)(he:EM X e f)(n:autoParam (X.N[i]?=ε x) Æ)(m:autoParam (aQ X.env.scope x) þ)
 (hs:autoParam (swapsWith e (ε (.Name x a)) pos.line X.env=pure false) Æ) (o:autoParam (X.fn x=true\/X.env.scope.names.lookup x=ε .local) ð) :
 ZM X (.Assign [.Name x a] e pos) (DA i f):=by
 unhygienic exact PS.imp (f9 p n m he hs o) fun D F H j=>by obtain⟨g,l,h,r,S,L,e,k⟩:=j;obtain⟨⟨y,q⟩,s,e⟩:=oA e;cases e;exact⟨g,l,h,y,q,S,L,s,fun b v E C B d=>k b _ E B ((L.ext d).set i C) d⟩
end
inductive qi where
 | vals (xs:List Dt)
 | rf (n:Nat)
 | zp (a b:Dt)
 | it (n:Nat)
 | en (n:Nat)
def qi.at(s:qi)(h:HI)(i:Nat):Ni (Ni Dt):=match s with
 | .vals d=>ε d[i]?
 | .rf n=>match h[n]? with | some (.lst d)=>ε d[i]? | _=>none
 | .zp a b=>match HA h a,HA h b with
  | some d,some ys=>ε (match d[i]?,ys[i]? with | some x,some y=>ε (.tup [x,y]) | _,_=>none)
  | _,_=>none
 | .it n=>match h[n]? with | some (.df kvs)=>ε (kvs[i]?.map fun p=>.tup [.tup (p.1.map Dt.int),p.2]) | _=>none
 | .en n=>match h[n]? with | some (.lst d)=>ε (d[i]?.map fun x=>.tup [.int (i:Int),x]) | _=>none
def qi.fuel(s:qi)(h:HI):Nat:=match s with
 | .vals b=>b.length+1
 | .rf n=>match h[n]? with | some (.lst b)=>b.length+1 | _=>0
 | .zp a _=>match HA h a with | some b=>b.length+1 | _=>0
 | .it n=>match h[n]? with | some (.df kvs)=>kvs.length+1 | _=>0
 | .en n=>match h[n]? with | some (.lst b)=>b.length+1 | _=>0
abbrev RI:=LI->HI->Ni (qi×HI)
def B2(K:Oi)(H:Hp)(ρ:Rg)(s:qi)(J:It):Prop:=
 ∀b a f,DF ρ a H b->Rr K a f b->∀i:Nat,match s.at f i with
  | none=>True
  | some none=>J.stop i b
  | some (some d)=>J.go i b/\∀v e,J.yld i b v e->Qi K e a d v/\qc a a b e/\Rr K a f e
noncomputable def iM(K:Oi)(g:RI):TI:=fun f H R=>∃d l h s e,Rr K d h H/\Ws K H d l f/\g l h=ε (s,e)/\∀a J b,B2 K b a s J->Rr K a e b->qc d a H b->R J b
@[irreducible] def IM(X:Cx)(b a:Oe)(g:RI):Prop:=PI X b a (iM X.K g)
theorem PI.imp{X:Cx}{d e:Oe}{t t':TI}(h:PI X d e t)(i:∀a H Q,t' a H Q->t a H Q):PI X d e t':=fun b s a H Q I q=>h b s a H Q I (i a H Q q)
abbrev RG:=Dt->LI->Ni LI
def gM(K:Oi)(g:RG):TG:=fun v f H Q=>∃b l h d e,Rr K b h H/\Ws K H b l f/\Qi K H b d v/\g d l=ε e/\∀a,Ws K H b e a->Q a H
@[irreducible] def GM(X:Cx)(a:Oe)(g:RG):Prop:=PG X a (gM X.K g)
theorem PG.imp{X:Cx}{e:Oe}{t t':TG}(h:PG X e t)(i:∀v a H Q,t' v a H Q->t v a H Q):PG X e t':=fun b s a H v u Q I r q=>h b s a H v u Q I r (i v a H Q q)
noncomputable def CA(i:Nat):RG:=fun d l=>ε (l.set i (ε d))
def DB(bd:RG)(body:RS)(s:qi):Nat->Nat->RS
 | 0,_,_,_=>none
 | k+1,i,l,h=>match s.at h i with
  | none=>none
  | some none=>ε (.nx l h)
  | some (some d)=>(bd d l).bind fun e=>(body e h).bind fun r=>match r with
   | .nx b a=>DB bd body s k (i+1) b a
   | .ct b a=>DB bd body s k (i+1) b a
   | .bk b a=>ε (.nx b a)
   | .rt d a=>ε (.rt d a)
def CC(g:RI)(bd:RG)(body:RS):RS:=fun l h=>(g l h).bind fun r=>DB bd body r.1 (r.1.fuel r.2) 0 l r.2
section
variable{X:Cx}{w t:Oe}{pos:Pos}
theorem IB(i:Nat){x:Str}{pos:Pos}(j:X.N.Nodup)(f:autoParam (X.N[i]?=ε x) Æ)(b:autoParam (aQ X.env.scope x) þ)
 (g:autoParam (X.fn x=true\/X.env.scope.names.lookup x=ε .local) ð):GM X (.Name x pos) (CA i):=by
 unhygienic exact PG.imp (AU j f b g) fun v m H Q a=>by obtain⟨n,l,h,d,o,S,L,R,e,k⟩:=a;cases e;exact k _ (L.set i R)
noncomputable def zJ(f:RE):RI:=fun l h=>(f l h).bind fun r=>match r.1 with | .int j=>if -(2^62)<=j/\j<2^62 then ε (.vals ((List.range j.toNat).map fun(k:Nat)=>Dt.int (k:Int)),r.2)else none | _=>none
noncomputable def Y3(f g:RE):RI:=fun l h=>(f l h).bind fun r=>(g l r.2).bind fun q=>match r.1,q.1 with
 | .int i,.int j=>if -(2^62)<=i/\i<2^62/\-(2^62)<=j/\j<2^62 then ε (.vals ((List.range (j-i).toNat).map fun(k:Nat)=>Dt.int (i+(k:Int))),q.2)else none | _,_=>none
theorem BG {a:Oe} {f:RE} {p pos:Pos} (u:Gl X "range") (r:X.mg "range" =none) (x:EM X a f) (hs:autoParam (nB a=true) Æ) :
 IM X w (.Call (.Name "range" p) [a] [] pos) (zJ f):=by
 unhygienic
  exact PI.imp (Xy u r (wC x MD (aB hs _ _)) (aB hs _ _)) fun M H R o=>by
   obtain⟨n,l,h,s,P,S,L,e,k⟩:=o;obtain⟨⟨g,y⟩,B,e⟩:=oA e;refine⟨n,l,h,g,y,S,L,B,fun d v I G F J=>?_⟩;cases g with
   | int j=>
    obtain⟨⟨D,C⟩,e⟩:=JE e;cases e;refine⟨j,by rw[Ti.mp G],D,C,k d _ I (fun T m O U E i=>?_) F J⟩;simp![qi.at,qu];by_cases b:i<j.toNat
    . rw[Ls b];refine⟨b,fun v Q q=>?_⟩;obtain⟨rfl,rfl⟩:=q;exact⟨Ti.mpr ⋯,qc.refl _ _,E⟩
    . rw[jj (by simpa using Ie.mp b)];exact Ie.mp b
   | _=>cases e
theorem Lw {a b:Oe} {f g:RE} {p pos:Pos} (I:Gl X "range") (G:X.mg "range" =none) (M:EM X a f) (J:EM X b g) (hs:autoParam (nB a=true) Æ) (d:autoParam (nB b=true) Æ) :
 IM X w (.Call (.Name "range" p) [a,b] [] pos) (Y3 f g):=by
 unhygienic
  exact PI.imp (Yy I G (wC M (wC J MD (aB d _ _)) (aB hs _ _)) (by rw[aB hs,aB d];rfl) (aB d _ _)) fun σ H R F=>by
   obtain⟨E,l,h,s,h',S,L,e,k⟩:=F;obtain⟨⟨B,x⟩,P,e⟩:=oA e;obtain⟨⟨y,O⟩,e2,e⟩:=oA e;refine⟨E,l,h,B,x,S,L,P,fun r v H1 W U C=>⟨r,l,x,y,O,U,L.ext C,e2,fun o u Y R2 T Z=>?_⟩⟩;cases B with
   | int i=>
    cases y with
    | int j=>
     obtain⟨c,e⟩:=JE e;cases e;refine⟨i,j,by rw[Ti.mp W,Ti.mp R2],c,k o _ Y (fun H3 D h3 E3 Q n=>?_) T (C.trans Z)⟩;simp![qi.at,qu];by_cases m:n<(j-i).toNat
     . rw[Ls m];refine⟨m,fun v H4 q=>?_⟩;obtain⟨rfl,rfl⟩:=q;exact⟨Ti.mpr rfl,qc.refl _ _,Q⟩
     . rw[jj (by simpa using Ie.mp m)];exact Ie.mp m
    | _=>cases e
   | _=>cases e
noncomputable def TV(f:RE):RI:=fun l h=>(f l h).bind fun r=>match r.1 with | .lst a=>ε (.vals a,r.2) | .ref n=>ε (.rf n,r.2) | _=>none
def hC(f:RE):RI:=fun l h=>(TV f l h).bind fun r=>if 0<r.1.fuel r.2 then ε r else none
theorem MC{a:Oe}{f:RE}(B:EM X a f):IM X w a (hC f):=by
 unhygienic
  exact PI.imp (gn B) fun σ H R Z=>by
   obtain⟨Y,l,h,s,h',S,L,e,k⟩:=Z;obtain⟨⟨s1,h1⟩,e,I⟩:=oA e;obtain⟨F,I⟩:=JE I;cases I;obtain⟨⟨Q,G⟩,e1,e⟩:=oA e;refine⟨Y,l,h,Q,G,S,L,e1,fun m v U T J W=>?_⟩;cases Q with
   | lst O=>
    cases e;obtain⟨a,b,rfl,q,r⟩:=Xi.mp T;refine⟨a,rfl,⟨b,q.sq⟩,k m _ U (fun H2 D G C x i=>?_) J W⟩;have g:=q.same C;have r2:=Qe.same C _ r;simp![qi.at];cases P:O[i]? with
    | none=>refine⟨b,g.sq,?_⟩;rw[r.length];exact Cu.mp P
    | some d=>obtain⟨v,j,g2⟩:=r2.get P;refine⟨⟨b,v,g.sq,j⟩,fun u H3 y=>?_⟩;obtain⟨rfl,y⟩:=y;have o:=y b g.sq;rw[j]at o;cases o;exact⟨g2,qc.refl _ _,x⟩
   | ref n=>
    cases e;obtain⟨a,rfl,B⟩:=Xu.mp T;simp![qi.fuel]at F;split at F
    . rename_i O q0;obtain⟨E,g0,_⟩:=J.lst B q0;refine⟨a,rfl,⟨E,qq.of g0⟩,k m _ U (fun H2 D G C x i=>?_) J W⟩;have p:=C.ix _ _ B;simp![qi.at];split
      . trivial
      . rename_i y;split at y
        . rename_i ys g;obtain⟨b,j,r⟩:=x.lst p g;refine⟨b,qq.of j,?_⟩;rw[r.length];exact Cu.mp (nW y)
        . cases y
      . rename_i d y;split at y
        . rename_i ys g;obtain⟨b,j,r⟩:=x.lst p g;obtain⟨v,M,z2⟩:=r.get (nW y);refine⟨⟨b,v,qq.of j,M⟩,fun u H3 y=>?_⟩;obtain⟨rfl,y⟩:=y;have o:=y b (qq.of j);rw[M]at o;cases o;exact⟨z2,qc.refl _ _,x⟩
        . cases y
    . exact Ci F nofun
   | _=>cases e
noncomputable def OP(f:RE):RI:=fun l h=>(f l h).bind fun r=>match r.1 with | .tup a=>ε (.vals a,r.2) | _=>none
theorem V7{a:Oe}{f:RE}(I:EM X a f):IM X w a (OP f):=by
 unhygienic
  exact PI.imp (W8 I) fun W H R E=>by
   obtain⟨D,l,h,s,Y,S,L,e,k⟩:=E;obtain⟨⟨x,n⟩,M,e⟩:=oA e;refine⟨D,l,h,x,n,S,L,M,fun g v T Q P U=>?_⟩;cases x with
   | tup F=>
    cases e;obtain⟨a,b,rfl,q,r⟩:=Wo.mp Q;refine⟨a,rfl,⟨b,q.sq⟩,k g _ T (fun H2 C n B O i=>?_) P U⟩;have j:=q.same B;have G:=Qe.same B _ r;simp![qi.at];cases p:F[i]? with
    | none=>refine⟨b,j.sq,?_⟩;rw[r.length];exact Cu.mp p
    | some d=>obtain⟨v,o,J⟩:=G.get p;refine⟨⟨b,v,j.sq,o⟩,fun u Z y=>?_⟩;obtain⟨rfl,y⟩:=y;have m:=y b j.sq;rw[o]at m;cases m;exact⟨J,qc.refl _ _,O⟩
   | _=>cases e
theorem yD{body:Ms Ou}{g:RI}{bd:RG}{f:RS}(hp:PassesOwn (model X.prog X.w) X.A X.env X.xe)(hc:X.calm=true)(hi:IM X w t g)(hg:GM X w bd)(hb:CI X body f)
 (hs:autoParam (∀x,foldedSetIterable t X.env x=pure x) å):ZM X (.For w t body [] pos) (CC g bd f):=by
 unhygienic
  exact PS.imp (b9 hp hc hi hg hb hs) fun D σ H zz=>by
   obtain⟨ρ,l,h,r,S,L,e,k⟩:=zz;obtain⟨⟨s,h1⟩,e1,e⟩:=oA e;refine⟨ρ,l,h,s,h1,S,L,e1,fun C J H1 ok S1 Y=>?_⟩;refine⟨fun i m B I=>∃a E n,Rr X.K a n I/\Ws X.K I a E B/\qc C a H1 I/\DB bd f s m i E n=ε r,⟨_,C,l,h1,S1,L.ext Y,qc.refl _ _,e⟩,?_⟩;rintro i m B I ⟨a,E,n,S',L',M,b⟩;cases m with
   | zero=>simp![DB]at b;cases b
   | succ m=>
    simp![DB]at b;have p:=ok I a n M.same S' i;cases q:s.at n i with
    | none=>rw[q]at b;cases b
    | some o=>
     rw[q]at b p;cases o with
     | none=>cases b;exact .inl ⟨p,k a B I S' L' (Y.trans M)⟩
     | some d=>
      dsimp only at b;obtain⟨l1,b1,b⟩:=oA b;obtain⟨Z,b2,b⟩:=oA b;refine .inr ⟨p.1,fun O W=>∃m',m'<m+1/\∃a E n,Rr X.K a n W/\Ws X.K W a E O/\qc C a H1 W/\DB bd f s m' (i+1) E n=ε r,fun O W q=>q,fun v H3 y=>?_⟩;obtain⟨R3,T,S3⟩:=p.2 v H3 y;refine⟨a,E,n,d,l1,S3,L'.ext T,R3,b1,fun a0 L4=>⟨a,l1,n,Z,S3,L4,b2,?_⟩⟩;cases Z with
      | nx U P=>exact fun j u R F Q G=>⟨m,vm _,j,U,P,F,Q,M.trans (T.trans G),b⟩
      | ct U P=>exact fun j u R F Q G=>⟨m,vm _,j,U,P,F,Q,M.trans (T.trans G),b⟩
      | bk U P=>cases b;exact fun j u R F Q G=>k j u R F Q (Y.trans (M.trans (T.trans G)))
      | rt d2 P=>cases b;exact fun j v5 R R5 F G=>k j v5 R R5 F (Y.trans (M.trans (T.trans G)))
end
noncomputable def UB(n N:Nat)(body:RS):zB:=fun ds h=>if ds.length=n then match body (ds.map some++List.replicate (N-n) none) h with
 | some (.rt d h')=>ε (d,h')
 | some (.nx _ h')=>ε (.non,h')
 | _=>none
 else none
def JJ(K:Oi)(n:Nat)(F:zB):Sp:=fun e H Q _=>∃a ds h d b,Rr K a h H/\Qe K H a ds e/\ds.length=n/\F ds h=ε (d,b)/\Out K a H d b Q
section
variable{P:Oo}{w:O4}{K:Oi}{b:Str->Ni Mu}{a:Pu}
theorem GO{H:Hp}{ρ:Rg}{N:Ms Str}{ds:Ms Dt}{vs:Ms V}(R:Qe K H ρ ds vs):Ws K H ρ (ds.map some++List.replicate (N.length-ds.length) none) (L2.KG N vs):=by
 have g:=R.length;refine⟨by simp[L2.KG,g],fun i d e=>?_⟩;by_cases f:i<ds.length
 . rw[Vo (by simpa using f),qu]at e;cases q:ds[i]? with
   | none=>rw[q]at e;cases e
   | some k=>rw[q]at e;cases e;obtain⟨v,j,h⟩:=R.get q;refine⟨v,?_,h⟩;unfold L2.KG;rw[Vo (by simpa[g]using f),qu,j];rfl
 . rw[Ye (by simpa using Ie.mp f),getElem?_replicate]at e;split at e<;>cases e
theorem JP{x g:Str}{st:Ou}{f:Oa}{p:FuncData}{N j:Ms Str}{k:Nat}{body:RS}(F:Fun K x g st f p)(S:SA N j (BA st))
 (B:∀(i:Mu)(A:Pa)(outer:Ms Env)(s:Nu)(H:Hp)(E:XK),Vu k (A.deeper (envOfC g (BA st) s.heap.objs.size f i))->
  CI (LF LG P w K b a N g (BA st) f i A outer s H E).nox (BD st) body):YD P w K b a LG (k+1) f p j (JJ K j.length (UB j.length N.length body)):=by
 unhygienic
  refine F.ok S (fun u H Q E h=>?_) (fun i A outer s H u Q E y h=>?_)
  . obtain⟨o,ds,h,d,D,S,R,m,_⟩:=h;rw[R.length,m]
  . obtain⟨o,ds,h,d,D,S,R,m,e,k⟩:=h;refine⟨_,B i A outer s H E y,?_⟩;unfold UB at e;rw[dh m]at e;rw[<- m]at e;split at e
    . rename_i M C q;cases e;exact⟨o,_,h,_,S,GO R,q,k⟩
    . rename_i L C q;cases e;exact⟨o,_,h,_,S,GO R,q,fun n r I G O J=>k n _ I (Zi.mpr rfl) G J⟩
    . cases e
end
noncomputable def qA(F:zB)(a:Ms Dt)(g:RA):RE:=fun l h=>(g l h).bind fun r=>F (r.1++a) r.2
section
variable{X:Cx}{k n:Nat}{f:Oa}{m:FuncData}{j:Ms Str}{F:zB}{x:Str}{p pos:Pos}{e:Oe}{i:Ms Oe}{g:RA}{b:Ms V}{a:Ms Mu}{c:Ms Dt}
theorem uY(T:YD X.prog X.w X.K X.mg X.base LG k f m j (JJ X.K n F))(G:Vu k X.A)(O:Gl X x)(J:X.mg x=ε (.ref f))(M:keepIn X.K (.ref f)=true)(P:qr X.K m j a)(hd:p3 b a)(s:∀H q,Qe X.K H q c b)
 (R:AM X (e::i) g) (I:∀(C:Ms Dt->HI->Ni (Dt×HI)),C=F->∀a h r,C a h=ε r->a.length=n) (u:autoParam ((x==("__debug__" :Str))=false) Ñ) (he:autoParam (nB e=true) Æ) (hpl:autoParam (i.all nB=true) Æ) :
 EM X (.Call (.Name x p) (e::i) [] pos) (qA F c g):=by
 unhygienic exact PE.imp (Ar T G O J M P hd (E:=E0) DV R u (aB he _ _) (iI hpl)) fun σ H Q D=>by obtain⟨q,l,h,d,U,S,L,e,k⟩:=D;obtain⟨⟨y,B⟩,W,e⟩:=oA e;exact⟨q,l,h,y,B,S,L,W,fun o vs H1 Z Y E1=>⟨o,_,B,d,U,Y,Z.append (s H1 o),I F rfl _ _ _ e,e,k.ext E1⟩⟩
theorem jP{n N:Nat}{body:RS}{a:Ms Dt}{h:HI}{r:Dt×HI}(e:UB n N body a h=ε r):a.length=n:=by
 unfold UB at e;split at e
 . assumption
 . cases e
end
end SM
namespace L2
noncomputable def dF(b:Ms (Str×Oa)):Ms (Str×NameKind)->Ms (Str×Oa)->Ni (Ms (Str×Oa))
 | [],cs=>ε cs
 | (n,k)::r,cs=>if k==.free then match b.lookup n with
  | some a=>dF b r ((n,a)::cs)
  | none=>none
  else dF b r cs
theorem aU{env:Env}:∀{l:Ms (Str×NameKind)}{cs d:Ms (Str×Oa)},dF env.cells l cs=ε d->
 (forIn l cs fun(x:Str×NameKind) (r:Ms (Str×Oa))=>if(x.2==NameKind.free)=true then(do let a <- cellOf env x.1;pure (ForInStep.yield ((x.1,a)::r)):Sem _)else pure (ForInStep.yield r))=pure d
 | [],cs,d,h=>by simp![dF]at h;cases h;rfl
 | (n,k)::r,cs,d,h=>by
  simp![dF]at h;rw[forIn_cons];cases b:k==NameKind.free with
  | true=>
   rw[b,dh rfl]at h;cases f:env.cells.lookup n with
   | none=>rw[f]at h;cases h
   | some a=>
    rw[f]at h;have ih:=aU (env:=env) h;simp![b,eG];have e:cellOf env n=pure a:=by unfold cellOf;rw[f]
    rw[e];simp![pure_bind];exact ih
  | false=>rw[b,dG (by decide)]at h;have ih:=aU (env:=env) h;simp![b,Vs,eH,pure_bind];exact ih
theorem eX{a:Scope}{env:Env}{cl:Ms (Str×Oa)}(h:dF env.cells a.names []=ε cl):closureFor a env=pure cl:=by have e:=aU (env:=env) h;unfold closureFor;simp![bind_pure];exact e
theorem IS{b:Ms (Str×Oa)}:∀{l:Ms (Str×NameKind)}{cs f:Ms (Str×Oa)},dF b l cs=ε f->(∀x c,cs.lookup x=ε c->b.lookup x=ε c)->
 (∀x c,f.lookup x=ε c->b.lookup x=ε c)/\(∀x c,cs.lookup x=ε c->∃B,f.lookup x=ε B)/\∀n,(n,NameKind.free)∈l->∃c,f.lookup n=ε c
 | [],cs,f,h,i=>by simp![dF]at h;cases h;exact⟨i,fun x c e=>⟨c,e⟩,fun n y=>nomatch y⟩
 | (n,k)::r,cs,f,h,i=>by
  simp![dF]at h;cases o:k==NameKind.free with
  | true=>
   rw[o,dh rfl]at h;cases p:b.lookup n with
   | none=>rw[p]at h;cases h
   | some a=>
    rw[p]at h;have u:∀x c,((n,a)::cs).lookup x=ε c->b.lookup x=ε c:=fun x c e=>by
     rw[lookup_cons]at e;cases d:x==n with
     | true=>rw[d]at e;cases e;rw[eq_of_beq d];exact p
     | false=>rw[d]at e;exact i x c e
    obtain⟨s,g,q⟩:=IS h u;refine⟨s,fun x c e=>?_,fun m j=>?_⟩
    . cases d:x==n with
      | true=>exact g x a (by rw[lookup_cons,d])
      | false=>exact g x c (by rw[lookup_cons,d];exact e)
    . rcases zu.mp j with z | z
      . cases z;exact g _ a (by rw[lookup_cons,Bo])
      . exact q m z
  | false=>
   rw[o,dG (by decide)]at h;obtain⟨s,g,q⟩:=IS h i;refine⟨s,g,fun m j=>?_⟩;rcases zu.mp j with z | z
   . cases z;cases o
   . exact q m z
noncomputable def lC(X:Cx)(Nc:Ms Str)(a:Scope)(b:Ms (Str×Oa))(C:Oa)(s0:Nu)(d:Hp)(fp:Ms Oa):Cx:=
 { X with N:=Nc,s₀:=s0,H₀:=d,env:=compEnvC a b C X.env,outer:=X.stack,stack:=X.stack,ex:=fp,fn:=fun _=>false,pn:=[],xe:=fun _ _=>False }
theorem LW{env:Env}:∀{a:Ms (Str×NameKind)}{x:Str},(∀y∈a,y.2≠.cell)->
 ((a.map fun(n,k)=>if(k==NameKind.free&&env.scope.kind==.function&&env.kindOf n==ε .cell)then(n,NameKind.cell)else(n,k)).lookup x=ε .cell\/
  (a.map fun(n,k)=>if(k==NameKind.free&&env.scope.kind==.function&&env.kindOf n==ε .cell)then(n,NameKind.cell)else(n,k)).lookup x=ε .free)->(x,NameKind.free)∈a
 | [],_,_,h=>by simp at h
 | (n,k)::r,x,hc,h=>by
  have ih:=@LW env r x (fun y f=>hc y (m8 _ f));have g:k≠.cell:=hc (n,k) qd;rw[Qs]at h;cases b:x==n with
  | true=>
   have ex:=eq_of_beq b;subst ex;by_cases e:k=.free
   . subst e;exact qd
   . have i:(k==NameKind.free)=false:=by simpa using e
     simp![i,Ga,Vs,eH,lookup_cons,Bo]at h;rcases h with h | h
     . exact Ci (nW h) g
     . exact Ci (nW h) e
  | false=>
   refine m8 _ (ih ?_);by_cases d:(k==NameKind.free&&env.scope.kind==.function&&env.kindOf n==ε .cell)=true
   . simp![d,eG,lookup_cons,b]at h;exact h
   . rw[Bool.not_eq_true]at d;simp![d,Vs,eH,lookup_cons,b]at h;exact h
noncomputable def ah(X:Cx)(a:Scope)(b:Ms (Str×Oa)):Ms Str->Ms (Ni Nat)->Prop
 | [],[]=>True
 | _::N,none::cs=>ah X a b N cs
 | x::N,some j::cs=>(X.N[j]?=ε x/\(X.env.kindOf x=ε .cell\/X.env.kindOf x=ε .free)/\((relabel a X.env).names.lookup x=ε .cell\/(relabel a X.env).names.lookup x=ε .free)/\
  b.lookup x=X.env.cells.lookup x)/\ah X a b N cs
 | _,_=>False
noncomputable def iH(b:St)(a:Ms (Ni Nat)):St:=a.map fun o=>match o with | some j=>(b[j]?).join | none=>none
theorem ah.get{X:Cx}{a:Scope}{b:Ms (Str×Oa)}:∀{N:Ms Str}{cs:Ms (Ni Nat)},ah X a b N cs->∀{i j:Nat}{x:Str},N[i]?=ε x->cs[i]?=ε (ε j)->
 X.N[j]?=ε x/\(X.env.kindOf x=ε .cell\/X.env.kindOf x=ε .free)/\((relabel a X.env).names.lookup x=ε .cell\/(relabel a X.env).names.lookup x=ε .free)/\b.lookup x=X.env.cells.lookup x
 | [],[],_,i,j,x,h,_=>by simp at h
 | y::N,none::cs,h,0,j,x,_,e=>by simp at e
 | y::N,none::cs,h,i+1,j,x,e1,e2=>ah.get (N:=N) (cs:=cs) h (i:=i) (by simpa using e1) (by simpa using e2)
 | y::N,some k::cs,h,0,j,x,e1,e2=>by simp at e1 e2;subst e1 e2;exact h.1
 | y::N,some k::cs,h,i+1,j,x,e1,e2=>ah.get (N:=N) (cs:=cs) h.2 (i:=i) (by simpa using e1) (by simpa using e2)
 | [],_::_,h,_,_,_,_,_=>h.elim
 | _::_,[],h,_,_,_,_,_=>h.elim
theorem ah.length{X:Cx}{a:Scope}{b:Ms (Str×Oa)}:∀{N:Ms Str}{cs:Ms (Ni Nat)},ah X a b N cs->cs.length=N.length
 | [],[],_=>rfl
 | y::N,none::cs,h=>by rw[Qu,Qu,ah.length (N:=N) (cs:=cs) h]
 | y::N,some k::cs,h=>by rw[Qu,Qu,ah.length (N:=N) (cs:=cs) h.2]
 | [],_::_,h=>h.elim
 | _::_,[],h=>h.elim
def AJ(X:Cx)(d:Ms Oe)(t:TT):Prop:=
 ∀(a:Ms (Oa×Obj))(s:Nu)(b:St)(H:Hp)(Q:Bool->Hp->Prop),py X a b H s->t b H Q->
  wpAny (model X.prog X.w) X.A (forIn d true fun c r=>if r=true then do let ok <- isTrue c X.env (eval c X.env);pure (ForInStep.yield ok)else pure (ForInStep.yield r)) (TP X a b Q) X.xe s
theorem vg{X:Cx}:AJ X [] (fun _ H Q=>Q true H):=fun _ _ _ H _ I q=>wpAny_tests_nil ⟨H,I,q⟩
theorem wg{X:Cx}{c:Oe}{t:TT}(h:PT X c t):AJ X [c] t:=fun a s b H Q I q=>wpAny_tests_one (h a s b H Q I q)
def vV(r:TI)(g:TG)(tc:TT)(te:TE)(j:Ms (Ni Nat)):TE:=fun k H Q=>r k H fun J q=>∀D,q D=none->∃W:Nat->Nat->St->Ms V->Hp->Prop,
 (∃m,W 0 m (iH k j) [] (xB q D (.lst [])))/\∀i m e d h,W i m e d h->
  (J.stop i h/\Q (.ref D) h)\/(J.go i h/\∀x p,J.yld i h x p->g x e p fun a s=>tc a s fun b o=>if b=true then te a o fun y n=>
   n D=ε (.lst d)/\d.length<sizeLine/\∃f,f<m/\W (i+1) f a (d++[y]) (xB n D (.lst (d++[y])))else ∃f,f<m/\W (i+1) f a d o)
section
variable{prog:Oo}{w:O4}{A:Pa}{R:Result->Nu->Prop}{s:Nu}
theorem Gx{B a o:Oe}{u:Ms Oe}{f:Scope}{pos:Pos}{G C:Mu}{env:Env}(I:Nat->Nu->Prop)
 (turn:∀n s,I n s->wpAny (model prog w) A (pyNext G) (fun r e=>match r with
  | none=>R (.ok .next) e
  | some v=>wpAny (model prog w) A (letOwnedTupleGo a G v) (fun _ d=>wpAny (model prog w) A (assign a env v) (fun _ k=>
   wpAny (model prog w) A (forIn u true fun c r=>if r=true then do let ok <- isTrue c env (eval c env);pure (ForInStep.yield ok)else pure (ForInStep.yield r)) (fun ok b=>
    if ok=true then wpAny (model prog w) A (eval B env) (fun x j=>
     wpAny (model prog w) A (call (.builtin "list.append") [C,x]) (fun _ i=>∃m,m<n/\I m i) (fun _ _=>False) j) (fun _ _=>False) b
    else ∃m,m<n/\I m b) (fun _ _=>False) k) (fun _ _=>False) d) (fun _ _=>False) e) (fun _ _=>False) s)
 (n:Nat) (h:I n s):codeAny (model prog w) A (.compLoop (.ListComp B [⟨a,o,u,0⟩] f pos) 0 G C env) R s:=by
 refine codeAny_loop rfl I (fun n s H=>?_) n h;show wpAny _ A ((compTurn (.ListComp B [⟨a,o,u,0⟩] f pos) 0 G C env).onRaise (fun x=>do noteFrame x env;theTreesLotGoes x)) _ _ s;refine wpAny_noted ?_;rw[compTurn_list];refine ao (wpAny_standAt (ao (Gu (turn n s H) (fun r e q=>?_) fun _ _ g=>g.elim)));cases r with
 | none=>exact au q
 | some v=>
  refine ao (Gu q (fun _ d y=>?_) fun _ _ g=>g.elim);refine ao (Gu y (fun _ k F=>ao (Gu F (fun ok b p=>?_) fun _ _ g=>g.elim)) fun _ _ g=>g.elim);cases ok with
  | false=>exact au ⟨rfl,p⟩
  | true=>exact ao (ao (Gu p (fun x j E=>ao (Gu E (fun _ i D=>au (au ⟨rfl,D⟩)) fun _ _ g=>g.elim)) fun _ _ g=>g.elim))
end
section
variable{X:Cx}{A f B:Oe}{w:Ms Oe}{scope:Scope}{l:Ms (Str×Oa)}{pos:Pos}{Nc:Ms Str}{F:TI}{g:TG}{tc:TT}{te:TE}{t:Ms (Ni Nat)}
theorem fX{G:Ms (Oa×Obj)}{Y:St}{H:Hp}{s:Nu}{it:Oa}{fp:Ms Oa}{tn:Nat->Pu->Prop}{J:It}{Q:VK}{RR:Mu->Oa->Result->Nu->Prop}{E:Mu->Nu->Prop}
 (hc:X.calm=true) (d1:dF X.env.cells scope.names []=ε l) (a0:∀y∈scope.names,y.2≠.cell) (Z:scope.kind=.function) (a7:ah X scope l Nc t)
 (hg:∀C s0 H0 fp,PG (lC X Nc scope l C s0 H0 fp) B g) (ht:∀C s0 H0 fp,AJ (lC X Nc scope l C s0 H0 fp) w tc) (he:∀C s0 H0 fp,PE (lC X Nc scope l C s0 H0 fp) A te)
 (I:py X G Y H s) (T:pH X.prog X.w X.K B J fp it tn) (st:tn 0 s.heap) (hf:∀b∈fp,vF X G H b)
 (c3:∀D,H D=none->∃W:Nat->Nat->St->Ms V->Hp->Prop,
  (∃m,W 0 m (iH Y t) [] (xB H D (.lst [])))/\∀i m O ys H',W i m O ys H'->
   (J.stop i H'/\Q (.ref D) H')\/(J.go i H'/\∀x H2,J.yld i H' x H2->g x O H2 fun a4 R=>tc a4 R fun b H4=>if b=true then te a4 H4 fun y H5=>
    H5 D=ε (.lst ys)/\ys.length<sizeLine/\∃U,U<m/\W (i+1) U a4 (ys++[y]) (xB H5 D (.lst (ys++[y])))else ∃U,U<m/\W (i+1) U a4 ys H4))
 (d2:∀(C D:Oa)(s':Nu)(H':Hp) m,py X G Y H' s'->s'.heap.Ns C m->H' C=none->C≠X.env.locals->X.s₀.heap.objs.size<=C->(∀x c,X.env.cells.lookup x=ε c->c≠C)->(∀p∈X.pn++G,p.1≠C)->Q (.ref D) H'->RR (.ref D) C (.ok .next) s') :
 wpAny (model X.prog X.w) X.A (newList []) (fun c6 c0=>wpAny (model X.prog X.w) X.A (newFunctionEnv scope X.env.globals l [] X.env.qual none .none (ε X.env)) (fun a8 b6=>
  codeAny (model X.prog X.w) X.A (.compStart (.ListComp A [⟨B,f,w,0⟩] scope pos) 0 (.ref it) c6 { a8 with scope:=relabel scope X.env }) (RR c6 a8.locals) b6) E c0) E s:=by
 obtain⟨sub,_,c7⟩:=IS d1 (fun _ _ e=>by simp at e);refine yu (wpAny_newFunctionEnv a0 (by intro y hy;simp at hy) (fun h₁ M L=>?_) Z);have hD:=I.fresh;have h:py X G Y (xB H s.heap.objs.size (.lst [])) { s with heap:=s.heap.push { cls:=.type "list",data:=.seq ([]:Ms Mu).toArray } }:=I.fq (ys:=[]) (its:=[]) (t':=s.toks) .nil (mq _);generalize d0:({ s with heap:=s.heap.push { cls:=.type "list",data:=.seq ([]:Ms Mu).toArray } }:Nu)=s3 at h;generalize c4:xB H s.heap.objs.size (.lst [])=R at h;have b3:s3.heap=s.heap.push { cls:=.type "list",dict:=none,data:=.seq ([]:Ms Mu).toArray }:=by rw[<- d0]
 dsimp only at M L ⊢;rw[<- b3]at M L;have d4:R s3.heap.objs.size=none:=h.fresh;have d6:s3.heap.objs.size≠X.env.locals:=fun z=>by have:=h.lt;rw[<- z]at this;exact Du _ this
 have d8:X.s₀.heap.objs.size<=s3.heap.objs.size:=h.sz;have c9:∀x c,X.env.cells.lookup x=ε c->c<s3.heap.objs.size:=fun x c e=>by obtain⟨v,o,ho,_⟩:=h.cell x c e;exact fu ho
 have d5:∀x c,X.env.cells.lookup x=ε c->c≠s3.heap.objs.size:=fun x c e z=>by have:=c9 x c e;rw[z]at this;exact Du _ this
 have d3:∀p∈X.pn++G,p.1≠s3.heap.objs.size:=fun p hp z=>by have:=fu (h.pin p hp).1;rw[z]at this;exact Du _ this
 have b5:∀b∈fp,b<s.heap.objs.size:=fun b a=>by obtain⟨o,e,_⟩:=T.obj 0 _ st b a;exact fu e
 have V5:s3.heap.objs.size=s.heap.objs.size+1:=by rw[b3,Ko]
 have old:∀b o,s3.heap.get? b=ε o->h₁.get? b=ε o:=fun b o e=>L.extBut b o (ni (fu e)) (cu _ e)
 have c8:∀b o,s.heap.get? b=ε o->s3.heap.get? b=ε o:=fun b o e=>by rw[b3];exact cu _ e
 have e5:∀b∈fp,R b=none:=fun b a=>by rw[<- c4,WA (ni (b5 b a))];exact(hf b a).1
 have a5:(lC X Nc scope l s3.heap.objs.size s3 R fp).Ok:=by
  refine⟨h.ok.mod,Z,h.ok.glob,h.ok.blt,Ra _,fun x y c e1 e2=>h.ok.inj x y c (sub x c e1) (sub y c e2),fun x hx=>?_,fun x c e _=>Ci e Va,h.ok.hd,h.ok.frames,.inl rfl,fun b a=>⟨?_,fun x c e=>?_⟩,fun b o e=>h.bs b o e,?_,fun b o e=>?_,fun b a=>?_,h.stack,h.g7⟩
  . exact c7 x (LW a0 hx)
  . intro z;have:=b5 b a;have z':b=s3.heap.objs.size:=z;rw[z',V5]at this;exact Ci this (Ie.mpr (Nat.le_succ _))
  . exact(hf b a).2.2.2.2.1 x c (sub x c e)
  . exact n7 h.ok.bsz h.sz
  . intro a;have h1:=(hf b a).2.2.2.1;have h2:=h.ok.bs b o e;rcases h1 with z | z
    . exact h.ok.de b o e z
    . exact Ci (ji (fu h2.1) z) (Du _)
  . intro z;rcases zu.mp (h.fg b z)with z | z
    . exact(hf b a).2.1 z
    . exact(hf b a).2.2.1 z
 have IY:py (lC X Nc scope l s3.heap.objs.size s3 R fp) [] (iH Y t) R { s3 with heap:=h₁,toks:=s3.toks+([]:Ms (Str×Mu)).length }:=by
  refine⟨a5,rfl,h.bare,Un.kept old,⟨_,M,fun i x v e1 e2 _=>?_⟩,fun x c e=>?_,d4,fun x c e=>h.bg x c (sub x c e),fun p hp=>Ci hp (by simp[lC]),h.hok.kept old,?_⟩
  . have P:(iH Y t)[i]?=ε (ε v):=e2;unfold iH at P;rw[qu]at P;cases q:t[i]? with
    | none=>rw[q]at P;cases P
    | some o=>
     rw[q]at P;cases o with
     | none=>cases P
     | some j=>
      have e3:(Y[j]?).join=ε v:=by simpa using P
      have e4:Y[j]?=ε (ε v):=by
       cases z:Y[j]? with
       | none=>rw[z]at e3;cases e3
       | some y=>rw[z]at e3;simpa using e3
      obtain⟨n1,n2,n3,n4⟩:=a7.get e1 q;obtain⟨m,_,hl⟩:=h.loc;have hv:X3 X.env.scope x:=.inr n2;obtain⟨u,r,lk⟩:=hl j x v n1 e4 hv;refine⟨u,r,.inr ⟨n3,?_⟩⟩;rcases lk with⟨k,_⟩ | ⟨_,c,ec,ob,z1,z2⟩
      . rcases n2 with n2 | n2<;>rw[k]at n2<;>cases n2
      . exact⟨c,n4.trans ec,ob,old c ob z1,z2⟩
  . obtain⟨v,o,z1,z2⟩:=h.cell x c (sub x c e);exact⟨v,o,old c o z1,z2⟩
  . show(iH Y t).length=Nc.length;unfold iH;rw[lq];exact a7.length
 obtain⟨W,⟨m0,w0⟩,turn⟩:=c3 s.heap.objs.size hD;rw[c4]at w0;have c2:tn 0 h₁:=T.keep 0 _ _ st fun b _ o e=>old b o (c8 b o e)
 have b4:∀{H':Hp},(∀b∈fp,H' b=none)->∀b∈fp,vF (lC X Nc scope l s3.heap.objs.size s3 R fp) [] H' b:=fun hn b a=>⟨hn b a,(a5.exf b a).1,a5.di b a,.inl a,fun x c e=>(a5.exf b a).2 x c e,fun p hp=>Ci hp (by simp[lC])⟩
 have a6:codeAny (model X.prog X.w) X.A (.compLoop (.ListComp A [⟨B,f,w,0⟩] scope pos) 0 (.ref it) (.ref s.heap.objs.size) (compEnvC scope l s3.heap.objs.size X.env)) (RR (.ref s.heap.objs.size) s3.heap.objs.size)
  { s3 with heap:=h₁,toks:=s3.toks+([]:Ms (Str×Mu)).length }:=by
  refine Gx (fun n s'=>∃i O ys H',py (lC X Nc scope l s3.heap.objs.size s3 R fp) [] O H' s'/\tn i s'.heap/\(∀b∈fp,H' b=none)/\W i n O ys H') ?_ m0 ⟨0,_,[],R,IY,c2,e5,w0⟩;rintro n s4 ⟨i,a3,ys,H4,I4,c1,c5,w4⟩;rcases turn i n a3 ys H4 w4 with⟨stop,qn⟩ | ⟨go,step⟩
  . refine vB (T.done (lC X Nc scope l s3.heap.objs.size s3 R fp) rfl rfl rfl hc i [] s4 a3 H4 _ I4 (b4 c5) c1 stop) fun r s5 S=>?_
    obtain⟨hr,I5⟩:=S;subst hr;have I6:py X G Y H4 s5:=h.call' (ch:=fp) I5.os I5.base I5.hok I5.bare fun b a=>⟨(hf b a).2.2.2.1,(hf b a).2.1,(hf b a).2.2.2.2.1,(hf b a).2.2.2.2.2⟩
    obtain⟨m,hn,_⟩:=I5.loc;exact d2 _ _ s5 H4 m I6 hn I5.free d6 d8 d5 d3 qn
  . refine vB (T.item (lC X Nc scope l s3.heap.objs.size s3 R fp) rfl rfl rfl hc i [] s4 a3 H4 _ I4 (b4 c5) c1 go) fun r s5 S=>?_
    obtain⟨u,hr,h5⟩:=S;subst hr;refine vB h5 fun _ s6 S=>?_
    obtain⟨x,H6,I6,r6,y6,b2,e0⟩:=S;have f0:=I6.pinned (b4 e0) (T.obj _ _ b2);refine vB (hg _ _ _ _ _ s6 a3 H6 x u _ f0 r6 (step x H6 y6)) fun _ s7 S=>?_
    obtain⟨a9,H7,I7,q7⟩:=S;refine vB (ht _ _ _ _ _ s7 a9 H7 _ I7 q7) fun b s8 S=>?_
    obtain⟨H8,I8,q8⟩:=S;have a1:∀{a2:St}{H9:Hp}{s9:Nu}{b1:Ms V},py (lC X Nc scope l s3.heap.objs.size s3 R fp) ([]++JM fp s6.heap) a2 H9 s9->(∃U,U<n/\W (i+1) U a2 b1 H9)->
     ∃U,U<n/\∃i O ys H',py (lC X Nc scope l s3.heap.objs.size s3 R fp) [] O H' s9/\tn i s9.heap/\(∀b∈fp,H' b=none)/\W i U O ys H':=fun {a2 H9 s9 b1} I9 ⟨U,hm,w9⟩=>by
     refine⟨U,hm,i+1,a2,b1,H9,I9.eu,T.keep _ _ _ b2 fun b a o e=>(I9.pin (b,o) (uo _ (uo _ (uO a e)))).1,fun b a=>?_,w9⟩;obtain⟨o,e,d⟩:=T.obj _ _ b2 b a;exact(I9.pin (b,o) (uo _ (uo _ (uO a e)))).2.1
    cases b with
    | false=>rw[dG Va]at q8 ⊢;exact a1 I8 q8
    | true=>
     rw[dh rfl]at q8 ⊢;refine vB (he _ _ _ _ _ s8 a9 H8 _ I8 q8) fun y s9 S=>?_
     obtain⟨v,H9,I9,r9,d9,z9,w9⟩:=S;refine vB (RX (X:=lC X Nc scope l s3.heap.objs.size s3 R fp) _ s9 a9 H9 (.ref s.heap.objs.size) [v] (.ref s.heap.objs.size) [y] (fun _ H'=>H'=xB H9 s.heap.objs.size (.lst (ys++[v]))) I9 rfl (.cons r9 .nil) ⟨_,ys,v,rfl,rfl,d9,z9,rfl⟩) fun _ f2 S=>?_
     obtain⟨_,f3,f1,_,e6⟩:=S;subst e6;exact a1 f1 w9
 exact codeAny_compStart_list a6 (T.self X.A 0 _ _ _ c2 a6)
theorem SZ(hc:X.calm=true)(hi:PI X B f F)(p:dF X.env.cells scope.names []=ε l)(i:∀y∈scope.names,y.2≠.cell)(a:scope.kind=.function)
 (d:∀y∈scope.names,y.2=.local->scope.names.lookup y.1=ε .local) (r:ah X scope l Nc t)
 (hg:∀C s0 u j,PG (lC X Nc scope l C s0 u j) B g) (Y:∀C s0 u j,AJ (lC X Nc scope l C s0 u j) w tc) (he:∀C s0 u j,PE (lC X Nc scope l C s0 u j) A te)
 (hs:autoParam (∀x,foldedSetIterable f X.env x=pure x) å):PE X (.ListComp A [⟨B,f,w,0⟩] scope pos) (vV F g tc te t):=by
 intro n s L H Q I h;rw[eval_ListComp];refine wpAny_comprehension_free (use:=none) rfl hs (eX p) a d (vB (hi n s L H _ I h) fun v s1 h1=>vB h1 fun W s2 h2=>?_);obtain⟨it,j,tn,J,H2,e,I2,T,E,f2,k⟩:=h2;subst e;refine fX hc p i a r hg Y he I2 T E f2 k fun C D M H' m I' Z U S R P O q=>?_
 refine⟨m,Z,fun h' G=>⟨.ref D,H',?_,rfl,q⟩⟩;exact I'.turned (t':=M.toks) (fun b o hb e=>G.extBut b o hb e) U S (.inr R) P O
theorem XW{i:Nat}{y:Str}{E k:Pos}(hc:X.calm=true)(hN:X.N.Nodup)(U:X.N[i]?=ε y)(hy:X.env.scope.names.lookup y=ε .local)(hi:PI X B f F)(G:dF X.env.cells scope.names []=ε l)(p:∀y∈scope.names,y.2≠.cell)(d:scope.kind=.function)
 (j:∀y∈scope.names,y.2=.local->scope.names.lookup y.1=ε .local) (L:ah X scope l Nc t)
 (hg:∀C s0 M r,PG (lC X Nc scope l C s0 M r) B g) (ht:∀C s0 M r,AJ (lC X Nc scope l C s0 M r) w tc) (he:∀C s0 M r,PE (lC X Nc scope l C s0 M r) A te)
 (R:swapsWith (.ListComp A [⟨B,f,w,0⟩] scope pos) (ε (.Name y E)) k.line X.env=pure true)
 (hs:autoParam (∀x,foldedSetIterable f X.env x=pure x) å):PS X (.Assign [.Name y E] (.ListComp A [⟨B,f,w,0⟩] scope pos) k) (GQ (vV F g tc te t) (KP i)):=by
 intro n s Y H D I h;rw[exec_Assign_Name_used _ _ _ _ R];refine ao (wpAny_standAt (ao ?_));show wpAny _ X.A (do let _ <- comprehension (.ListComp A [⟨B,f,w,0⟩] scope pos) scope X.env _ (newList []) false (eval f X.env) (ε (assign (.Name y E) X.env))) _ _ s;refine ao (Gu (wpAny_comprehension_free (use:=ε (assign (.Name y E) X.env)) (Q:=fun _ P=>SP X n D .next P) rfl hs (eX G) d j
  (vB (hi n s Y H _ I h) fun v s1 h1=>vB h1 fun a0 s2 h2=>?_)) (fun _ P hq=>au (au hq)) fun _ _ e=>e)
 obtain⟨it,r,tn,J,H2,e,I2,T,O,f2,u⟩:=h2;subst e;refine fX (Q:=fun x H1=>KP i x Y H1 D.nx) hc G p d L hg ht he I2 T O f2 u fun C Dd P H' m I' hn n1 n2 n3 Z n5 q=>?_
 show wpAny _ X.A (assign (.Name y E) X.env (.ref Dd)) _ _ _;refine wpAny_assign_Name (iY I' hN U (.inl hy) (v:=.ref Dd) rfl (fun s4 I4 zz=>?_) (.inr hy));obtain⟨a,sb,ha⟩:=zz;have W:C≠a:=by
  rcases ha with ha | ha
  . rw[ha];exact n2
  . exact fun z=>Z _ _ ha z.symm
 refine⟨m,hn.sameBut sb W,fun h' S=>⟨_,H',?_,q⟩⟩;exact I4.turned (t':=s4.toks) (fun b o hb e=>S.extBut b o hb e) n1 n2 (.inr n3) Z n5
end
end L2
namespace SM
def eE(bd:RG)(tc:RT)(te:RE)(s:qi):Nat->Nat->LI->HI->Ms Dt->Ni (Ms Dt×HI)
 | 0,_,_,_,_=>none
 | k+1,i,l,h,ys=>match s.at h i with
  | none=>none
  | some none=>ε (ys,h)
  | some (some d)=>(bd d l).bind fun a=>(tc a h).bind fun b=>if b.1=true then(te a b.2).bind fun r=>if ys.length<sizeLine then eE bd tc te s k (i+1) a r.2 (ys++[r.1])else none
   else eE bd tc te s k (i+1) a b.2 ys
noncomputable def KF(l:LI)(a:Ms (Ni Nat)):LI:=a.map fun o=>match o with | some j=>(l[j]?).join | none=>none
def RD(g:RI)(bd:RG)(tc:RT)(te:RE)(a:Ms (Ni Nat)):RE:=fun l h=>(g l h).bind fun r=>(eE bd tc te r.1 (r.1.fuel r.2) 0 (KF l a) r.2 []).bind fun q=>ε (.lst q.1,q.2)
def mG(g:RI)(bd:RG)(tc:RT)(te:RE)(a:Ms (Ni Nat)):RE:=fun l h=>(g l h).bind fun r=>(eE bd tc te r.1 (r.1.fuel r.2) 0 (KF l a) r.2 []).bind fun q=>ε (.ref q.2.length,q.2++[.lst q.1])
noncomputable def uB:RT:=fun _ h=>ε (true,h)
theorem Lf{K:Oi}{H:Hp}{ρ:Rg}{l:LI}{f:L2.St}(L:Ws K H ρ l f)(a:Ms (Ni Nat)):Ws K H ρ (KF l a) (iH f a):=by
 refine⟨by simp[KF,iH],fun i d e=>?_⟩;unfold KF at e;unfold iH;rw[qu]at e ⊢;cases q:a[i]? with
 | none=>rw[q]at e;cases e
 | some o=>
  rw[q]at e;cases o with
  | none=>cases e
  | some j=>
   have b:(l[j]?).join=ε d:=by simpa using e
   have k:l[j]?=ε (ε d):=by
    cases z:l[j]? with
    | none=>rw[z]at b;cases b
    | some y=>rw[z]at b;simpa using b
   obtain⟨v,h,g⟩:=L.val j d k;refine⟨v,?_,g⟩;simp[h]
section
variable{X:Cx}{elt iter tg:Oe}{a:Ms Oe}{scope:Scope}{cl:Ms (Str×Oa)}{pos:Pos}{Nc:Ms Str}{g:RI}{bd:RG}{tc:RT}{te:RE}{cap:Ms (Ni Nat)}
@[irreducible] def CM(X:Cx)(a:Ms Oe)(f:RT):Prop:=AJ X a (eQ X.K f)
theorem tE:CM X [] uB:=by unhygienic exact fun d s f H Q I q=>by obtain⟨i,l,h,b,j,S,L,e,k⟩:=q;cases e;exact vg d s f H Q I (k i H S (qc.refl _ _))
theorem aV{c:Oe}{f:RT}(h:TM X c f):CM X [c] f:=by unhygienic exact wg h
end
section
variable{K:Oi}{H:Hp}{ρ:Rg}{p:Oa}{o:HO}{h:HI}
theorem Ut{a:Oa}{u:HO}(b:H p=none)(e:H a=ε u)(n:ρ.no a):(ρ.hide p).no a:=
 ⟨n.1,fun z=>by
  rcases zu.mp z with z | z
  . rw[z,b]at e;cases e
  . exact n.2 z⟩
theorem qc.hH{b:Rg}{H':Hp}(x:qc (ρ.hide p) b H H'):∃a,b=a.hide p/\qc ρ a H H':=by
 refine⟨⟨b.v,ρ.z⟩,?_,⟨x.pre,rfl,x.keep,x.live,x.fz⟩⟩;have e:=x.hid;cases b with
 | mk v z=>have d:z=p::ρ.z:=e;subst d;rfl
theorem qc.nh{b:Rg}{g:Hp}(x:qc ρ b H g)(d:H p=none):qc ρ b H (xB g p o):=
 ⟨x.pre,x.hid,fun a u e n=>by rw[WA (kD e d)];exact x.keep a u e n,fun a e=>by
  by_cases f:a=p
  . rw[f];exact d
  . rw[WA f]at e;exact x.live a e,fun a q u e=>by rw[WA (kD e d)];exact x.fz a q u e⟩
theorem ay.same{i:Rg}{k:Hp}{a:Oa}{u:Ob}(x:DF ρ i H k)(e:k a=H a)(q:ay K H ρ a u):ay K k i a u:=by
 cases u with
 | lst r=>obtain⟨b,f,d⟩:=q;exact⟨b,e.trans f,Qe.same x _ d⟩
 | ins y fs=>obtain⟨C,n,b,m,f,d,g⟩:=q;exact⟨C,n,b,m,e.trans f,d,Qe.same x _ g⟩
 | dk j=>obtain⟨b,f,d,g⟩:=q;exact⟨b,e.trans f,d,Qe.same x _ g⟩
 | dt j=>obtain⟨b,f,d,g⟩:=q;exact⟨b,e.trans f,d,Qe.same x _ g⟩
 | df j=>obtain⟨o,b,f,d,g⟩:=q;exact⟨o,b,e.trans f,d,Qe.same x _ g⟩
theorem Ws.same{a:Rg}{b:Hp}{l:LI}{σ:L2.St}(x:DF ρ a H b)(L:Ws K H ρ l σ):Ws K b a l σ:=
 ⟨L.len,fun i d e=>let ⟨v,e1,r⟩:=L.val i d e;⟨v,e1,Qi.same x d r⟩⟩
theorem aY(b:H p=none):DF ρ (ρ.hide p) H (xB H p o):=
 ⟨fun _ _ e n=>Ut b e n,fun a u e _=>by rw[WA (kD e b)];exact e,fun _ _ e=>e,fun a q u e=>by rw[WA (kD e b)];exact e⟩
theorem KS{o:HO}(b:IV H p):DF (ρ.hide p) (ρ.hide p) H (xB H p o):=
 ⟨fun _ _ _ n=>n,fun a u e n=>by rw[WA (fun z=>n.2 (by rw[z];exact qd))];exact e,fun _ _ e=>e,fun a q u e=>by rw[WA (fun z:a=p=>b q u (by rw[<- z];exact e))];exact e⟩
theorem bY:DF (ρ.hide p) ρ H H:=⟨fun _ _ _ n=>⟨n.1,fun z=>n.2 (m8 _ z)⟩,fun _ _ e _=>e,fun _ _ e=>e,fun _ _ _ e=>e⟩
theorem jZ:DF (ρ.hide p) (ρ.add p) H H:=
 ⟨fun a _ _ n=>⟨fun z=>(Aa.mp z).elim n.1 fun z=>n.2 (by rw[zc.mp z];exact qd),fun z=>n.2 (m8 _ z)⟩,fun _ _ e _=>e,fun n a e=>by
  have b:ρ.v[n]?=ε a:=e;have:=(Uo b).1;show(ρ.v++[p])[n]?=ε a;rw[Vo this];exact b,fun _ _ _ e=>e⟩
theorem Rr.hide{xs:Ms V}(S:Rr K ρ h H)(b:H p=none):Rr K (ρ.hide p) h (xB H p (.lst xs)):=
 ⟨S.nd,S.len,fun n a u d e2=>(S.ob n a u d e2).same (aY b) (WA (fun z=>(S.out b).1 (z ▸ jo d))),fun a f=>by
  rcases zu.mp f with z | z
  . rw[z];exact⟨(S.out b).1,xs,AC⟩
  . obtain⟨m,u,e⟩:=S.zt a z;exact⟨m,u,by rw[WA (kD e b)];exact e⟩⟩
theorem Rr.nn{xs:Ms V}(S:Rr K (ρ.hide p) h H):Rr K (ρ.hide p) h (xB H p (.lst xs)):=
 ⟨S.nd,S.len,fun n a u d e2=>(S.ob n a u d e2).same (KS (XH (S.zt p qd).2.choose_spec)) (WA (fun z=>(S.zt p qd).1 (z ▸ jo d))),fun a f=>by
  obtain⟨m,u,e⟩:=S.zt a f;by_cases b:a=p
  . subst b;exact⟨m,xs,AC⟩
  . exact⟨m,u,by rw[WA b];exact e⟩⟩
theorem Rr.show(S:Rr K (ρ.hide p) h H):Rr K ρ h H:=
 ⟨S.nd,S.len,fun n a u d e2=>(S.ob n a u d e2).same bY rfl,fun a b=>S.zt a (m8 _ b)⟩
theorem Rr.nt(S:Rr K (ρ.hide p) h H)(hz:p∉ρ.z){ds:Ms Dt}{vs:Ms V}(e:H p=ε (.lst vs))(R:Qe K H (ρ.hide p) ds vs):Rr K (ρ.add p) (h++[.lst ds]) H:=by
 have q:=(S.zt p qd).1;refine⟨?_,by simp![Rg.add];rw[g8,g8,<- S.len];rfl,fun n a ob d e2=>?_,fun a g=>?_⟩
 . simp![Rg.add];rw[nodup_append];refine⟨S.nd,La.mpr ⟨by simp,nodup_nil⟩,fun a g b r=>?_⟩;rw[zc.mp r];intro z;exact q (z ▸ g)
 . simp![Rg.add]at d;have j:ρ.v.length=h.length:=S.len;by_cases i:n<h.length
   . rw[Vo i]at e2;rw[Vo (by rw[j];exact i)]at d;exact(S.ob n a ob d e2).same jZ rfl
   . have f:h.length<=n:=Ie.mp i;rw[Ye f]at e2;rw[Ye (by rw[j];exact f),j]at d;cases m:n-h.length with
     | zero=>rw[m]at d e2;simp at d e2;subst d e2;exact⟨vs,e,Qe.same jZ _ R⟩
     | succ k=>rw[m]at e2;simp at e2
 . obtain⟨n,u,s⟩:=S.zt a (m8 _ g);refine⟨fun hm=>?_,u,s⟩;rcases Aa.mp hm with hm | hm
   . exact n hm
   . exact hz ((zc.mp hm) ▸ g)
end
section
variable{X:Cx}{p c t:Oe}{j:Ms Oe}{scope:Scope}{s:Ms (Str×Oa)}{pos:Pos}{Nc:Ms Str}{g:RI}{bd:RG}{tc:RT}{te:RE}{f:Ms (Ni Nat)}
theorem xO{σ:L2.St}{H:Hp}{Q:VK}(own:Bool){d:Dt}{h':HI}{ρ:Rg}{l:LI}{h:HI}(S:Rr X.K ρ h H)(L:Ws X.K H ρ l σ)
 (e:(if own=true then mG g bd tc te f else RD g bd tc te f) l h=ε (d,h')) (k:Out X.K ρ H d h' Q):vV (iM X.K g) (gM X.K bd) (eQ X.K tc) (tM X.K te) f σ H Q:=by
 have e0:∃G I,g l h=ε (G,I)/\∃E F,eE bd tc te G (G.fuel I) 0 (KF l f) I []=ε (E,F)/\h'=(if own=true then F++[.lst E]else F)/\d=(if own=true then .ref F.length else .lst E):=by
  cases own with
  | true=>rw[dh rfl]at e;obtain⟨⟨G,I⟩,e1,e⟩:=oA e;obtain⟨⟨E,F⟩,e2,e⟩:=oA e;cases e;exact⟨G,I,e1,E,F,e2,rfl,rfl⟩
  | false=>rw[dG Va]at e;obtain⟨⟨G,I⟩,e1,e⟩:=oA e;obtain⟨⟨E,F⟩,e2,e⟩:=oA e;cases e;exact⟨G,I,e1,E,F,e2,rfl,rfl⟩
 obtain⟨G,I,e1,zs,F,e2,eh,ed⟩:=e0;refine⟨ρ,l,h,G,I,S,L,e1,fun M J H1 ok S1 E1 D U=>?_⟩;have a2:D∉M.z:=(S1.out U).2;refine⟨fun i m Z E H'=>∃r l' h' ds,Rr X.K (r.hide D) h' H'/\Ws X.K H' (r.hide D) l' Z/\qc M r H1 H'/\H' D=ε (.lst E)/\Qe X.K H' (r.hide D) ds E/\eE bd tc te G m i l' h' ds=ε (zs,F),?_,?_⟩
 . exact⟨_,M,_,I,[],S1.hide U,Lf (Ws.same (aY U) (L.ext E1)) f,qc.fresh U,AC,.nil,e2⟩
 . rintro i m Z E H' ⟨r,l',h3,ds,Y,L',C,P,R',B⟩;cases m with
   | zero=>simp![eE]at B;cases B
   | succ m=>
    simp![eE]at B;have sm:DF M (r.hide D) H1 H':=⟨fun a u z n=>⟨(C.fw z n).1,fun w=>by
     rcases zu.mp w with w | w
     . rw[w,U]at z;cases z
     . exact(C.fw z n).2 w⟩,fun a u z n=>C.keep a u z n.1,fun n a z=>C.get z,C.fz⟩
    have O:=ok H' (r.hide D) h3 sm Y i;cases q:G.at h3 i with
    | none=>rw[q]at B;cases B
    | some o=>
     rw[q]at B O;cases o with
     | none=>
      cases B;refine .inl ⟨O,?_⟩;have nD:r.no D:=⟨(Y.zt D qd).1,by rw[C.hid];exact a2⟩;cases own with
      | false=>rw[dG Va]at eh ed;subst eh ed;exact k r _ H' (Xi.mpr ⟨D,E,rfl,.inl ⟨nD,.inl P⟩,Qe.same bY _ R'⟩) Y.show (E1.trans C)
      | true=>
       rw[dh rfl]at eh ed;subst eh ed;refine k (r.add D) _ H' (Xu.mpr ⟨D,rfl,?_⟩) (Y.nt nD.2 P R') (E1.trans ⟨?_,C.hid,C.keep,C.live,C.fz⟩)
       . have hl:r.v.length=F.length:=Y.len;show(r.v++[D])[F.length]?=ε D;rw[<- hl,Ye (Ra _),Bu];rfl
       . obtain⟨x,q1,q2⟩:=C.pre;refine⟨x++[D],by show r.v++[D]=_;rw[q1,nu],fun a ha=>?_⟩;rcases Aa.mp ha with ha | ha
         . exact q2 a ha
         . rw[zc.mp ha];exact U
     | some d0=>
      dsimp only at B;obtain⟨l1,b1,B⟩:=oA B;obtain⟨⟨b,h4⟩,b2,B⟩:=oA B;refine .inr ⟨O.1,fun v H3 y=>?_⟩;obtain⟨R3,W,S3⟩:=O.2 v H3 y;have a0:=(Y.zt D qd).1;refine⟨r.hide D,l',h3,d0,l1,S3,L'.ext W,R3,b1,fun a3 L4=>⟨r.hide D,l1,h3,b,h4,S3,L4,b2,fun a1 H5 S5 R=>?_⟩⟩;cases b with
      | true=>
       dsimp only at B;rw[dh rfl]at B;obtain⟨⟨d5,h5⟩,b3,B⟩:=oA B;by_cases hz:ds.length<sizeLine
       . rw[dh hz]at B;refine sH ⟨a1,l1,h4,d5,h5,S5,L4.ext R,b3,fun a4 v6 H6 R6 S6 E6=>⟨?_,by rw[R'.length];exact hz,m,vm _,?_⟩⟩
         . exact(W.trans (R.trans E6)).keep D _ P a0
         . obtain⟨T,rfl,E7⟩:=(W.trans (R.trans E6)).hH;refine⟨T,l1,h5,ds++[d5],S6.nn,Ws.same (KS (XH (S6.zt D qd).2.choose_spec)) (L4.ext (R.trans E6)),(C.trans E7).nh U,AC,?_,B⟩;exact Qe.same (KS (XH (S6.zt D qd).2.choose_spec)) _ ((R'.ext (W.trans (R.trans E6))).append (.cons R6 .nil))
       . rw[dG hz]at B;cases B
      | false=>dsimp only at B;rw[dG Va]at B;refine rH ⟨m,vm _,?_⟩;obtain⟨T,rfl,E7⟩:=(W.trans R).hH;exact⟨T,l1,h4,ds,S5,L4.ext R,C.trans E7,(W.trans R).keep D _ P a0,R'.ext (W.trans R),B⟩
theorem bG(u:IM X t c g)(B:∀C s0 o n,GM (lC X Nc scope s C s0 o n) t bd)(r:∀C s0 o n,CM (lC X Nc scope s C s0 o n) j tc)(he:∀C s0 o n,EM (lC X Nc scope s C s0 o n) p te)
 (D:autoParam (X.calm=true) Æ) (i:autoParam (∀y∈scope.names,y.2≠.cell) Ø) (b:autoParam (scope.kind=.function) Æ)
 (a:autoParam (∀y∈scope.names,y.2=.local->scope.names.lookup y.1=ε .local) Ø) (q:autoParam (dF X.env.cells scope.names []=ε s) Æ) (m:ah X scope s Nc f:=by repeat' first | exact trivial | exact⟨rfl,.inl rfl,.inl rfl,rfl⟩ | refine⟨?_,?_⟩)
 (hs:autoParam (∀x,foldedSetIterable c X.env x=pure x) å):EM X (.ListComp p [⟨t,c,j,0⟩] scope pos) (RD g bd tc te f):=by
 unhygienic exact PE.imp (SZ (g:=gM X.K bd) (tc:=eQ X.K tc) (te:=tM X.K te) D u q i b a m B r he hs) fun E H Q ⟨F,l,h,d,G,S,L,e,k⟩=>xO (X:=X) false S L e k
theorem vY(u:IM X t c g)(B:∀C s0 o n,GM (lC X Nc scope s C s0 o n) t bd)(r:∀C s0 o n,CM (lC X Nc scope s C s0 o n) j tc)(he:∀C s0 o n,EM (lC X Nc scope s C s0 o n) p te)
 (D:autoParam (X.calm=true) Æ) (i:autoParam (∀y∈scope.names,y.2≠.cell) Ø) (b:autoParam (scope.kind=.function) Æ)
 (a:autoParam (∀y∈scope.names,y.2=.local->scope.names.lookup y.1=ε .local) Ø) (q:autoParam (dF X.env.cells scope.names []=ε s) Æ) (m:ah X scope s Nc f:=by repeat' first | exact trivial | exact⟨rfl,.inl rfl,.inl rfl,rfl⟩ | refine⟨?_,?_⟩)
 (hs:autoParam (∀x,foldedSetIterable c X.env x=pure x) å):EM X (.ListComp p [⟨t,c,j,0⟩] scope pos) (mG g bd tc te f):=by
 unhygienic exact PE.imp (SZ (g:=gM X.K bd) (tc:=eQ X.K tc) (te:=tM X.K te) D u q i b a m B r he hs) fun E H Q ⟨F,l,h,d,G,S,L,e,k⟩=>xO (X:=X) true S L e k
theorem LS(i:Nat){y:Str}{G b:Pos}(T:X.N.Nodup)(P:IM X t c g)(Q:∀C s0 q o,GM (lC X Nc scope s C s0 q o) t bd)(O:∀C s0 q o,CM (lC X Nc scope s C s0 q o) j tc)(he:∀C s0 q o,EM (lC X Nc scope s C s0 q o) p te)
 (R:autoParam (X.calm=true) Æ) (m:autoParam (∀y∈scope.names,y.2≠.cell) Ø) (d:autoParam (scope.kind=.function) Æ)
 (a:autoParam (∀y∈scope.names,y.2=.local->scope.names.lookup y.1=ε .local) Ø) (F:autoParam (dF X.env.cells scope.names []=ε s) Æ) (n:ah X scope s Nc f:=by repeat' first | exact trivial | exact⟨rfl,.inl rfl,.inl rfl,rfl⟩ | refine⟨?_,?_⟩)
 (B:autoParam (swapsWith (.ListComp p [⟨t,c,j,0⟩] scope pos) (ε (.Name y G)) b.line X.env=pure true) Æ)
 (E:autoParam (X.N[i]?=ε y) Æ) (M:autoParam (X.env.scope.names.lookup y=ε .local) Æ) (hs:autoParam (∀x,foldedSetIterable c X.env x=pure x) å) :
 ZM X (.Assign [.Name y G] (.ListComp p [⟨t,c,j,0⟩] scope pos) b) (DA i (RD g bd tc te f)):=by
 unhygienic exact PS.imp (XW (g:=gM X.K bd) (tc:=eQ X.K tc) (te:=tM X.K te) R T E M P F m d a n Q O he B hs) fun D σ H J=>by obtain⟨ρ,l,h,r,S,L,e,k⟩:=J;obtain⟨⟨d1,h1⟩,U,e⟩:=oA e;cases e;exact xO (X:=X) false S L U fun u v Z Y W I=>k u _ Z W ((L.ext I).set i Y) I
theorem fO(i:Nat){y:Str}{G b:Pos}(T:X.N.Nodup)(P:IM X t c g)(Q:∀C s0 q o,GM (lC X Nc scope s C s0 q o) t bd)(O:∀C s0 q o,CM (lC X Nc scope s C s0 q o) j tc)(he:∀C s0 q o,EM (lC X Nc scope s C s0 q o) p te)
 (R:autoParam (X.calm=true) Æ) (m:autoParam (∀y∈scope.names,y.2≠.cell) Ø) (d:autoParam (scope.kind=.function) Æ)
 (a:autoParam (∀y∈scope.names,y.2=.local->scope.names.lookup y.1=ε .local) Ø) (F:autoParam (dF X.env.cells scope.names []=ε s) Æ) (n:ah X scope s Nc f:=by repeat' first | exact trivial | exact⟨rfl,.inl rfl,.inl rfl,rfl⟩ | refine⟨?_,?_⟩)
 (B:autoParam (swapsWith (.ListComp p [⟨t,c,j,0⟩] scope pos) (ε (.Name y G)) b.line X.env=pure true) Æ)
 (E:autoParam (X.N[i]?=ε y) Æ) (M:autoParam (X.env.scope.names.lookup y=ε .local) Æ) (hs:autoParam (∀x,foldedSetIterable c X.env x=pure x) å) :
 ZM X (.Assign [.Name y G] (.ListComp p [⟨t,c,j,0⟩] scope pos) b) (DA i (mG g bd tc te f)):=by
 unhygienic exact PS.imp (XW (g:=gM X.K bd) (tc:=eQ X.K tc) (te:=tM X.K te) R T E M P F m d a n Q O he B hs) fun D σ H J=>by obtain⟨ρ,l,h,r,S,L,e,k⟩:=J;obtain⟨⟨d1,h1⟩,U,e⟩:=oA e;cases e;exact xO (X:=X) true S L U fun u v Z Y W I=>k u _ Z W ((L.ext I).set i Y) I
end
end SM
namespace L2
section
variable{X:Cx}{elt iter tg:Oe}{ifs:Ms Oe}{scope:Scope}{cl:Ms (Str×Oa)}{pos:Pos}{Nc:Ms Str}{wi:TI}{g:TG}{tc:TT}{te:TE}{cap:Ms (Ni Nat)}{x0:Str}
end
end L2
namespace SM
section
variable{X:Cx}{elt iter tg:Oe}{ifs:Ms Oe}{scope:Scope}{cl:Ms (Str×Oa)}{pos:Pos}{Nc:Ms Str}{g:RI}{bd:RG}{tc:RT}{te:RE}{cap:Ms (Ni Nat)}{x0:Str}
end
mutual
noncomputable def BB:Dt->Bool
 | .tup a=>HC a
 | .lst a=>HC a
 | .ref _=>false
 | .ntp _=>false
 | _=>true
noncomputable def HC:Ms Dt->Bool
 | []=>true
 | x::xs=>BB x&&HC xs
end
mutual
noncomputable def OG:Dt->Nat
 | .tup a=>ID a+1
 | .lst a=>ID a+1
 | _=>0
noncomputable def ID:Ms Dt->Nat
 | []=>0
 | x::xs=>max (OG x) (ID xs)
end
mutual
noncomputable def oN:Dt->Dt->Bool
 | .non,.non=>true
 | .bl a,.bl b=>a==b
 | .bl a,.int b=>(if a then 1 else 0)==b
 | .int a,.bl b=>a==(if b then 1 else 0)
 | .int a,.int b=>a==b
 | .str a,.str b=>a==b
 | .tup xs,.tup ys=>qE xs ys
 | .lst xs,.lst ys=>qE xs ys
 | _,_=>false
noncomputable def qE:Ms Dt->Ms Dt->Bool
 | [],[]=>true
 | x::xs,y::ys=>oN x y&&qE xs ys
 | _,_=>false
end
mutual
theorem tT:∀d:Dt,BB d=true->oN d d=true
 | .non,_=>rfl
 | .bl b,_=>Bo b
 | .int i,_=>Bo i
 | .str x,_=>Bo x
 | .tup xs,h=>zO xs (by simpa only[BB]using h)
 | .lst xs,h=>zO xs (by simpa only[BB]using h)
 | .ref _,h=>by simp[BB]at h
 | .ntp _,h=>by simp[BB]at h
theorem zO:∀ds:Ms Dt,HC ds=true->qE ds ds=true
 | [],_=>rfl
 | d::ds,h=>by simp![HC,rz]at h;exact Bool.and_eq_true_iff.mpr ⟨tT d h.1,zO ds h.2⟩
end
section
variable{X:Cx}{pins:Ms (Oa×Obj)}{σ:L2.St}{H:Hp}{s:Nu}{ρ:Rg}
mutual
theorem DU(I:py X pins σ H s):∀(d d':Dt){v:V},BB d=true->BB d'=true->Qi X.K H ρ d v->Qi X.K H ρ d' v->d=d'
 | .non,d',v,_,p,r,r'=>by
  have e:=Zi.mp r;subst e;cases d' with
  | non=>rfl
  | bl b=>have:=Vi.mp r';cases this
  | int b=>have:=Ti.mp r';cases this
  | str b=>have:=Zo.mp r';cases this
  | tup b=>obtain⟨_,_,z,_⟩:=Wo.mp r';cases z
  | lst b=>obtain⟨_,_,z,_⟩:=Xi.mp r';cases z
  | ref b=>obtain⟨_,z,_⟩:=Xu.mp r';cases z
  | ntp b=>obtain⟨_,z,_⟩:=bc.mp r';cases z
 | .bl i,d',v,_,p,r,r'=>by
  have e:=Vi.mp r;subst e;cases d' with
  | non=>have:=Zi.mp r';cases this
  | bl b=>have:=Vi.mp r';cases this;rfl
  | int b=>have:=Ti.mp r';cases this
  | str b=>have:=Zo.mp r';cases this
  | tup b=>obtain⟨_,_,z,_⟩:=Wo.mp r';cases z
  | lst b=>obtain⟨_,_,z,_⟩:=Xi.mp r';cases z
  | ref b=>obtain⟨_,z,_⟩:=Xu.mp r';cases z
  | ntp b=>obtain⟨_,z,_⟩:=bc.mp r';cases z
 | .int i,d',v,_,p,r,r'=>by
  have e:=Ti.mp r;subst e;cases d' with
  | non=>have:=Zi.mp r';cases this
  | bl b=>have:=Vi.mp r';cases this
  | int b=>have:=Ti.mp r';cases this;rfl
  | str b=>have:=Zo.mp r';cases this
  | tup b=>obtain⟨_,_,z,_⟩:=Wo.mp r';cases z
  | lst b=>obtain⟨_,_,z,_⟩:=Xi.mp r';cases z
  | ref b=>obtain⟨_,z,_⟩:=Xu.mp r';cases z
  | ntp b=>obtain⟨_,z,_⟩:=bc.mp r';cases z
 | .str i,d',v,_,p,r,r'=>by
  have e:=Zo.mp r;subst e;cases d' with
  | non=>have:=Zi.mp r';cases this
  | bl b=>have:=Vi.mp r';cases this
  | int b=>have:=Ti.mp r';cases this
  | str b=>have:=Zo.mp r';cases this;rfl
  | tup b=>obtain⟨_,_,z,_⟩:=Wo.mp r';cases z
  | lst b=>obtain⟨_,_,z,_⟩:=Xi.mp r';cases z
  | ref b=>obtain⟨_,z,_⟩:=Xu.mp r';cases z
  | ntp b=>obtain⟨_,z,_⟩:=bc.mp r';cases z
 | .tup xs,d',v,p0,p,r,r'=>by
  obtain⟨a,B,e,q,n⟩:=Wo.mp r;subst e;cases d' with
  | non=>have:=Zi.mp r';cases this
  | bl b=>have:=Vi.mp r';cases this
  | int b=>have:=Ti.mp r';cases this
  | str b=>have:=Zo.mp r';cases this
  | tup k=>obtain⟨b,m,z,j,f⟩:=Wo.mp r';cases z;have u:=I.hF q.sq j.sq;subst u;rw[CT I xs k (by simpa only[BB]using p0) (by simpa only[BB]using p) n f]
  | lst k=>
   obtain⟨b,m,z,j,f⟩:=Xi.mp r';cases z;obtain⟨_,_,⟨o,y,e2,_⟩,_⟩:=I.tuple q.sq;obtain⟨_,_,⟨C,_,h,g,_⟩,_⟩:=I.list j.sq;rw[y]at h;cases h;rw[e2]at g;injection g with x
   exact Ci x (by decide)
  | ref b=>simp[BB]at p
  | ntp b=>simp[BB]at p
 | .lst xs,d',v,p0,p,r,r'=>by
  obtain⟨a,B,e,q,n⟩:=Xi.mp r;subst e;cases d' with
  | non=>have:=Zi.mp r';cases this
  | bl b=>have:=Vi.mp r';cases this
  | int b=>have:=Ti.mp r';cases this
  | str b=>have:=Zo.mp r';cases this
  | lst k=>obtain⟨b,m,z,j,f⟩:=Xi.mp r';cases z;have u:=I.dl q.sq j.sq;subst u;rw[CT I xs k (by simpa only[BB]using p0) (by simpa only[BB]using p) n f]
  | tup k=>
   obtain⟨b,m,z,j,f⟩:=Wo.mp r';cases z;obtain⟨_,_,⟨o,y,e2,_⟩,_⟩:=I.tuple j.sq;obtain⟨_,_,⟨C,_,h,g,_⟩,_⟩:=I.list q.sq;rw[y]at h;cases h;rw[e2]at g;injection g with x
   exact Ci x (by decide)
  | ref b=>simp[BB]at p
  | ntp b=>simp[BB]at p
 | .ref _,_,_,p,_,_,_=>by simp[BB]at p
 | .ntp _,_,_,p,_,_,_=>by simp[BB]at p
theorem CT(I:py X pins σ H s):∀(ds a:Ms Dt){vs:Ms V},HC ds=true->HC a=true->Qe X.K H ρ ds vs->Qe X.K H ρ a vs->ds=a
 | [],[],_,_,_,_,_=>rfl
 | [],d'::a,_,_,_,r,r'=>by rw[r.ag]at r';obtain⟨_,_,z,_⟩:=r'.Xe;cases z
 | d::ds,[],_,_,_,r,r'=>by rw[r'.ag]at r;obtain⟨_,_,z,_⟩:=r.Xe;cases z
 | d::ds,d'::a,_,p,p',r,r'=>by simp![HC,rz]at p p';obtain⟨v,vs,e,i,h⟩:=r.Xe;subst e;obtain⟨j,g,e,f,b⟩:=r'.Xe;cases e;rw[DU I d d' p.1 p'.1 i f,CT I ds a p.2 p'.2 h b]
end
def QG(xs ys:Ms Dt)(j:Nat):Bool:=match xs[j]?,ys[j]? with
 | some x,some y=>oN x y
 | _,_=>false
theorem iJ:∀(xs ys:Ms Dt),xs.length=ys.length->(List.range xs.length).all (QG xs ys)=qE xs ys
 | [],[],_=>rfl
 | [],_::_,h=>by simp at h
 | _::_,[],h=>by simp at h
 | x::xs,y::ys,h=>by have ih:=iJ xs ys (by simpa using h);rw[Qu,Ji,Js,all_map];show _=(oN x y&&qE xs ys);rw[<- ih];rfl
theorem hJ:∀(xs ys:Ms Dt),xs.length≠ys.length->qE xs ys=false
 | [],[],h=>Ci rfl h
 | [],_::_,_=>rfl
 | _::_,[],_=>rfl
 | x::xs,y::ys,h=>by show(oN x y&&qE xs ys)=false;rw[hJ xs ys (fun z=>h (by simp[z])),Ge]
theorem ES(A:Pa):A.in1.units<=A.units+1:=by first | exact Ra _ | simp[Around.in1]
theorem XE{h:Pu}{a:Oa}{its:Pb Mu}(p:IsTup h a its):h.IsTuple a its:=by obtain⟨o,e,d,n,b⟩:=p;exact⟨o,e,d,n,b⟩
mutual
theorem L7(I:py X pins σ H s):∀(d d':Dt){v E:V}{u F:Mu}(A:Pa),BB d=true->BB d'=true->A.units+OG d<cLine->Qi X.K H ρ d v->Qi X.K H ρ d' E->qf v u->qf E F->SeqAt.EqAt A s u F (oN d d')
 | .tup xs,d',v,E,u,F,A,p,p',hu,r,r',q,q'=>by
  obtain⟨a,R,e,t,L⟩:=Wo.mp r;subst e;cases q;simp![OG]at hu;have f:A.units<cLine:=by omega
  obtain⟨G,J,x,_⟩:=I.tuple t.sq;cases d' with
  | non=>cases Zi.mp r';cases q';exact SeqAt.EqAt.tuple_none (XE x) f
  | bl b=>cases Vi.mp r';cases q';exact SeqAt.EqAt.tuple_bool b (XE x) f
  | int b=>cases Ti.mp r';obtain⟨h,rfl⟩:=q';exact SeqAt.EqAt.tuple_int b h (XE x) f
  | str b=>cases Zo.mp r';obtain⟨h,rfl⟩:=q';exact SeqAt.EqAt.tuple_str b h (XE x) f
  | lst o=>obtain⟨b,B,e,h,n⟩:=Xi.mp r';subst e;cases q';obtain⟨k,m,g,_⟩:=I.list h.sq;exact SeqAt.EqAt.tuple_list (XE x) g.isList f
  | tup o=>
   obtain⟨b,B,e,h,n⟩:=Wo.mp r';subst e;cases q';obtain⟨k,m,g,_⟩:=I.tuple h.sq;by_cases C:a=b
   . subst C;have e:=DU I (.tup xs) (.tup o) p p' r r';rw[<- e,tT _ p];exact SeqAt.EqAt.same _
   . refine .of_refs C ?_;have M:G.length=xs.length:=by rw[<- J.length,L.length]
     have Q:k.length=o.length:=by rw[<- m.length,n.length]
     have ih:=iP I xs o A.in1 (by simpa only[BB]using p) (by simpa only[BB]using p') (by have:=ES A;omega) L n J m;have z:=SeqAt.RcAt.tuples (e:=QG xs o) (XE x) (XE g) f fun j P O=>by rw[cG]at P O;simpa using ih j P O
     rw[cG,cG,M,Q]at z;rw[show oN (.tup xs) (.tup o)=qE xs o from rfl];by_cases D:xs.length=o.length
     . rw[<- D,Nat.min_self,iJ xs o D,Bo,Bool.and_true]at z;exact z
     . rw[hJ xs o D];have S:(xs.length==o.length)=false:=by simpa using D
       rw[S,Ge]at z;exact z
  | ref b=>simp[BB]at p'
  | ntp b=>simp[BB]at p'
 | .lst xs,d',v,E,u,F,A,p,p',hu,r,r',q,q'=>by
  obtain⟨a,R,e,t,L⟩:=Xi.mp r;subst e;cases q;simp![OG]at hu;have f:A.units<cLine:=by omega
  obtain⟨G,J,x,_⟩:=I.list t.sq;cases d' with
  | non=>cases Zi.mp r';cases q';exact SeqAt.EqAt.list_none x.isList f
  | bl b=>cases Vi.mp r';cases q';exact SeqAt.EqAt.list_bool b x.isList f
  | int b=>cases Ti.mp r';obtain⟨h,rfl⟩:=q';exact SeqAt.EqAt.list_int b h x.isList f
  | str b=>cases Zo.mp r';obtain⟨h,rfl⟩:=q';exact SeqAt.EqAt.list_str b h x.isList f
  | tup o=>obtain⟨b,B,e,h,n⟩:=Wo.mp r';subst e;cases q';obtain⟨k,m,g,_⟩:=I.tuple h.sq;exact SeqAt.EqAt.list_tuple x.isList (XE g) f
  | lst o=>
   obtain⟨b,B,e,h,n⟩:=Xi.mp r';subst e;cases q';obtain⟨k,m,g,_⟩:=I.list h.sq;by_cases C:a=b
   . subst C;have e:=DU I (.lst xs) (.lst o) p p' r r';rw[<- e,tT _ p];exact SeqAt.EqAt.same _
   . refine .of_refs C ?_;have M:G.length=xs.length:=by rw[<- J.length,L.length]
     have Q:k.length=o.length:=by rw[<- m.length,n.length]
     rw[show oN (.lst xs) (.lst o)=qE xs o from rfl];by_cases D:xs.length=o.length
     . have ih:=iP I xs o A.in1 (by simpa only[BB]using p) (by simpa only[BB]using p') (by have:=ES A;omega) L n J m;have z:=SeqAt.RcAt.lists (e:=QG xs o) x.isList g.isList (by rw[cG,cG,M,Q,D]) f fun j P O=>by rw[cG]at P O;simpa using ih j P O
       rw[cG,M,iJ xs o D]at z;exact z
     . rw[hJ xs o D];exact SeqAt.RcAt.lists_lengths x.isList g.isList (by rw[cG,cG,M,Q];simpa using D) f
  | ref b=>simp[BB]at p'
  | ntp b=>simp[BB]at p'
 | .ref _,_,_,_,_,_,_,p,_,_,_,_,_,_=>by simp[BB]at p
 | .ntp _,_,_,_,_,_,_,p,_,_,_,_,_,_=>by simp[BB]at p
 | .non,d',v,E,u,F,A,p,p',hu,r,r',q,q'=>by
  cases Zi.mp r;cases q;have f:A.units<cLine:=by omega
  cases d' with
  | non=>cases Zi.mp r';cases q';exact SeqAt.EqAt.same _
  | bl b=>cases Vi.mp r';cases q';exact SeqAt.EqAt.none_bool b
  | int b=>cases Ti.mp r';obtain⟨h,rfl⟩:=q';exact SeqAt.EqAt.none_int b h
  | str b=>cases Zo.mp r';obtain⟨h,rfl⟩:=q';exact SeqAt.EqAt.none_str b h
  | tup o=>obtain⟨b,B,e,h,n⟩:=Wo.mp r';subst e;cases q';obtain⟨k,m,g,_⟩:=I.tuple h.sq;exact SeqAt.EqAt.none_tuple (XE g) f
  | lst o=>obtain⟨b,B,e,h,n⟩:=Xi.mp r';subst e;cases q';obtain⟨k,m,g,_⟩:=I.list h.sq;exact SeqAt.EqAt.none_list g.isList f
  | ref b=>simp[BB]at p'
  | ntp b=>simp[BB]at p'
 | .bl i,d',v,E,u,F,A,p,p',hu,r,r',q,q'=>by
  cases Vi.mp r;cases q;have f:A.units<cLine:=by omega
  cases d' with
  | non=>cases Zi.mp r';cases q';exact SeqAt.EqAt.bool_none i
  | bl b=>cases Vi.mp r';cases q';exact SeqAt.EqAt.bool_bool i b
  | int b=>cases Ti.mp r';obtain⟨h,rfl⟩:=q';exact SeqAt.EqAt.bool_int i b h
  | str b=>cases Zo.mp r';obtain⟨h,rfl⟩:=q';exact SeqAt.EqAt.bool_str i b h
  | tup o=>obtain⟨b,B,e,h,n⟩:=Wo.mp r';subst e;cases q';obtain⟨k,m,g,_⟩:=I.tuple h.sq;exact SeqAt.EqAt.bool_tuple i (XE g) f
  | lst o=>obtain⟨b,B,e,h,n⟩:=Xi.mp r';subst e;cases q';obtain⟨k,m,g,_⟩:=I.list h.sq;exact SeqAt.EqAt.bool_list i g.isList f
  | ref b=>simp[BB]at p'
  | ntp b=>simp[BB]at p'
 | .int i,d',v,E,u,F,A,p,p',hu,r,r',q,q'=>by
  cases Ti.mp r;obtain⟨y,rfl⟩:=q;have f:A.units<cLine:=by omega
  cases d' with
  | non=>cases Zi.mp r';cases q';exact SeqAt.EqAt.int_none i y
  | bl b=>cases Vi.mp r';cases q';exact SeqAt.EqAt.int_bool i y b
  | int b=>cases Ti.mp r';obtain⟨h,rfl⟩:=q';exact SeqAt.EqAt.int_int i y b h
  | str b=>cases Zo.mp r';obtain⟨h,rfl⟩:=q';exact SeqAt.EqAt.int_str i y b h
  | tup o=>obtain⟨b,B,e,h,n⟩:=Wo.mp r';subst e;cases q';obtain⟨k,m,g,_⟩:=I.tuple h.sq;exact SeqAt.EqAt.int_tuple i y (XE g) f
  | lst o=>obtain⟨b,B,e,h,n⟩:=Xi.mp r';subst e;cases q';obtain⟨k,m,g,_⟩:=I.list h.sq;exact SeqAt.EqAt.int_list i y g.isList f
  | ref b=>simp[BB]at p'
  | ntp b=>simp[BB]at p'
 | .str i,d',v,E,u,F,A,p,p',hu,r,r',q,q'=>by
  cases Zo.mp r;obtain⟨y,rfl⟩:=q;have f:A.units<cLine:=by omega
  cases d' with
  | non=>cases Zi.mp r';cases q';exact SeqAt.EqAt.str_none i y
  | bl b=>cases Vi.mp r';cases q';exact SeqAt.EqAt.str_bool i y b
  | int b=>cases Ti.mp r';obtain⟨h,rfl⟩:=q';exact SeqAt.EqAt.str_int i y b h
  | str b=>cases Zo.mp r';obtain⟨h,rfl⟩:=q';exact SeqAt.EqAt.str_str i y b h
  | tup o=>obtain⟨b,B,e,h,n⟩:=Wo.mp r';subst e;cases q';obtain⟨k,m,g,_⟩:=I.tuple h.sq;exact SeqAt.EqAt.str_tuple i y (XE g) f
  | lst o=>obtain⟨b,B,e,h,n⟩:=Xi.mp r';subst e;cases q';obtain⟨k,m,g,_⟩:=I.list h.sq;exact SeqAt.EqAt.str_list i y g.isList f
  | ref b=>simp[BB]at p'
  | ntp b=>simp[BB]at p'
theorem iP(I:py X pins σ H s):∀(xs ys:Ms Dt){vs b:Ms V}{us a:Ms Mu}(A:Pa),HC xs=true->HC ys=true->A.units+ID xs<cLine->Qe X.K H ρ xs vs->Qe X.K H ρ ys b->p3 vs us->p3 b a->
 ∀(j:Nat)(h1:j<us.length)(h2:j<a.length),SeqAt.EqAt A s us[j] a[j] (QG xs ys j)
 | [],_,_,_,_,_,_,_,_,_,r,_,q,_,_,h1,_=>by rw[r.ag]at q;cases q;exact Ci h1 ⋯
 | _::_,[],_,_,_,_,_,_,_,_,_,r',_,q',_,_,h2=>by rw[r'.ag]at q';cases q';exact Ci h2 ⋯
 | x::xs,y::ys,vs,b,us,a,A,p,p',hu,r,r',q,q',j,h1,h2=>by
  simp![HC,rz]at p p';simp![ID]at hu;obtain⟨v,B,e,o,n⟩:=r.Xe;subst e;obtain⟨u,g,e,m,k⟩:=r'.Xe;subst e;cases q with
  | cons i h=>
   cases q' with
   | cons f d=>
    cases j with
    | zero=>exact L7 I x y A p.1 p'.1 nofun o m i f
    | succ j=>have ih:=iP I xs ys A p.2 p'.2 nofun n k h d j (by simpa using h1) (by simpa using h2);simpa[QG]using ih
end
end
section
variable{X:Cx}{a b c e:Oe}{es:Ms Oe}{fa fb fc f:RE}{g:RA}{p m pos:Pos}
def uE(xs ys:Ms Dt):Bool:=HC xs&&HC ys&&decide (ID xs<=50)
def RB:OD:=fun a b h=>match a,b with
 | .tup xs,.tup ys=>if uE xs ys=true then ε (.bl (qE xs ys),h)else none
 | .lst xs,.lst ys=>if uE xs ys=true then ε (.bl (qE xs ys),h)else none
 | a,b=>A4 a b h
def QC:OD:=fun a b h=>match a,b with
 | .tup xs,.tup ys=>if uE xs ys=true then ε (.bl (!qE xs ys),h)else none
 | .lst xs,.lst ys=>if uE xs ys=true then ε (.bl (!qE xs ys),h)else none
 | a,b=>B4 a b h
theorem JO{d:Ms (Oa×Obj)}{n:L2.St}{H:Hp}{s:Nu}{ρ:Rg}{xs ys:Ms Dt}{vs k:Ms V}{its its':Ms Mu}(I:py X d n H s)(r:X.A.units+64<cLine)(ok:uE xs ys=true)(q:Qe X.K H ρ xs vs)(i:Qe X.K H ρ ys k)(o:p3 vs its)(h:p3 k its') :
 ∀(j:Nat)(h1:j<its.toArray.size)(h2:j<its'.toArray.size),SeqAt.EqAt X.A.in1 s its.toArray[j] its'.toArray[j] (QG xs ys j):=fun j h1 h2=>by
 simp![uE,rz,decide_eq_true_eq]at ok;rw[cG]at h1 h2;have:=iP I xs ys X.A.in1 ok.1.1 ok.1.2 (by have:=ES X.A;omega) q i o h j h1 h2;simpa using this
theorem OE(W:X.A.units+64<cLine):OM X (compareOp .Eq) RB:=by
 unhygienic
  intro F s Y H x y v u Q I T R h;obtain⟨J,h,d1,d2,d,h',S,U,R2,e,k⟩:=h;unfold RB at e;split at e
  . rename_i j i;obtain⟨ok,e⟩:=JE e;cases e;obtain⟨a,vs,z,t,E⟩:=Wo.mp U;obtain⟨b,Z,O,P,o⟩:=Wo.mp R2;subst z O;cases T;cases R;obtain⟨C,D,L,_⟩:=I.tuple t.sq;obtain⟨q,n,r,_⟩:=I.tuple P.sq;have G:C.length=j.length:=by rw[<- D.length,E.length]
    have M:q.length=i.length:=by rw[<- n.length,o.length]
    refine SeqAt.eq_tupleAt (e:=QG j i) (XE L) (XE r) nofun (JO I W ok E o D n) ?_;refine⟨.bl _,H,I,rfl,k J _ H (Vi.mpr (congrArg V.bl ?_)) S (qc.refl _ _)⟩;rw[cG,cG,G,M];by_cases B:j.length=i.length
    . rw[<- B,Nat.min_self,iJ j i B,Bo,Bool.and_true]
    . have hb:(j.length==i.length)=false:=by simpa using B
      rw[hJ j i B,hb,Ge]
  . rename_i j i;obtain⟨ok,e⟩:=JE e;cases e;obtain⟨a,vs,z,t,E⟩:=Xi.mp U;obtain⟨b,Z,O,P,o⟩:=Xi.mp R2;subst z O;cases T;cases R;obtain⟨C,D,L,_⟩:=I.list t.sq;obtain⟨q,n,r,_⟩:=I.list P.sq;have G:C.length=j.length:=by rw[<- D.length,E.length]
    have M:q.length=i.length:=by rw[<- n.length,o.length]
    by_cases B:j.length=i.length
    . refine SeqAt.eq_listAt (e:=QG j i) L.isList r.isList (by rw[cG,cG,G,M,B]) nofun (JO I W ok E o D n) ?_;refine⟨.bl _,H,I,rfl,k J _ H (Vi.mpr (congrArg V.bl ?_)) S (qc.refl _ _)⟩;rw[cG,G,iJ j i B]
    . refine SeqAt.eq_list_lengthsAt L.isList r.isList (by rw[cG,cG,G,M];simpa using B) nofun ?_;exact⟨.bl _,H,I,rfl,k J _ H (Vi.mpr (by rw[hJ j i B])) S (qc.refl _ _)⟩
  . exact gj F s Y H x y v u Q I T R ⟨J,h,d1,d2,d,h',S,U,R2,e,k⟩
theorem GH(W:X.A.units+64<cLine):OM X (compareOp .NotEq) QC:=by
 unhygienic
  intro F s Y H x y v u Q I T R h;obtain⟨J,h,d1,d2,d,h',S,U,R2,e,k⟩:=h;unfold QC at e;split at e
  . rename_i j i;obtain⟨ok,e⟩:=JE e;cases e;obtain⟨a,vs,z,t,E⟩:=Wo.mp U;obtain⟨b,Z,O,P,o⟩:=Wo.mp R2;subst z O;cases T;cases R;obtain⟨C,D,L,_⟩:=I.tuple t.sq;obtain⟨q,n,r,_⟩:=I.tuple P.sq;have G:C.length=j.length:=by rw[<- D.length,E.length]
    have M:q.length=i.length:=by rw[<- n.length,o.length]
    refine Sy (e:=QG j i) (XE L) (XE r) nofun (JO I W ok E o D n) ?_;refine⟨.bl _,H,I,rfl,k J _ H (Vi.mpr (congrArg V.bl ?_)) S (qc.refl _ _)⟩;rw[cG,cG,G,M];by_cases B:j.length=i.length
    . rw[<- B,Nat.min_self,iJ j i B,Bo,Bool.and_true]
    . have hb:(j.length==i.length)=false:=by simpa using B
      rw[hJ j i B,hb,Ge]
  . rename_i j i;obtain⟨ok,e⟩:=JE e;cases e;obtain⟨a,vs,z,t,E⟩:=Xi.mp U;obtain⟨b,Z,O,P,o⟩:=Xi.mp R2;subst z O;cases T;cases R;obtain⟨C,D,L,_⟩:=I.list t.sq;obtain⟨q,n,r,_⟩:=I.list P.sq;have G:C.length=j.length:=by rw[<- D.length,E.length]
    have M:q.length=i.length:=by rw[<- n.length,o.length]
    by_cases B:j.length=i.length
    . refine Sg (e:=QG j i) L.isList r.isList (by rw[cG,cG,G,M,B]) nofun (JO I W ok E o D n) ?_;refine⟨.bl _,H,I,rfl,k J _ H (Vi.mpr (congrArg V.bl ?_)) S (qc.refl _ _)⟩;rw[cG,G,iJ j i B]
    . refine Zq L.isList r.isList (by rw[cG,cG,G,M];simpa using B) nofun ?_;exact⟨.bl _,H,I,rfl,k J _ H (Vi.mpr (by rw[hJ j i B];rfl)) S (qc.refl _ _)⟩
  . exact kj F s Y H x y v u Q I T R ⟨J,h,d1,d2,d,h',S,U,R2,e,k⟩
def FF:Ms Dt->Ni (Ms V)
 | []=>ε []
 | d::ds=>(rE d).bind fun v=>(FF ds).map fun h=>v::h
theorem vX{K:Oi}{H:Hp}{ρ:Rg}:∀{ds:Ms Dt}{h vs:Ms V},FF ds=ε h->Qe K H ρ ds vs->vs=h
 | [],_,_,e,r=>by simp![FF]at e;cases e;exact r.ag
 | d::ds,_,_,e,r=>by
  simp![FF]at e;obtain⟨v,k,e⟩:=oA e;cases q:FF ds with
  | none=>rw[q]at e;cases e
  | some vs=>rw[q]at e;cases e;obtain⟨n,o,z,j,i⟩:=r.Xe;subst z;rw[fK k j,vX q i]
theorem C0{d:Dt}{v:V}(e:rE d=ε v):jH v=true:=by cases d<;>simp![rE]at e<;>first | (cases e;rfl) | cases e
theorem EZ:∀{ds:Ms Dt}{h:Ms V},FF ds=ε h->h.all jH=true
 | [],_,e=>by simp![FF]at e;cases e;rfl
 | d::ds,_,e=>by
  simp![FF]at e;obtain⟨v,i,e⟩:=oA e;cases q:FF ds with
  | none=>rw[q]at e;cases e
  | some j=>rw[q]at e;cases e;rw[Js,C0 i,EZ q];rfl
def kH(neg:Bool):OD:=fun a b h=>(rE a).bind fun x=>(QD h b).bind fun d=>(FF d).bind fun zs=>ε (.bl (if neg then !dQ x zs else dQ x zs),h)
theorem IZ{neg:Bool}{x y:V}{H:Hp}{Q:VK}(h:rM X.K (kH neg) x y H Q):M5 X.K neg x y H Q:=by obtain⟨n,h,G,F,d,E,S,B,R2,e,k⟩:=h;obtain⟨D,j,e⟩:=oA e;obtain⟨C,e2,e⟩:=oA e;obtain⟨zs,i,e⟩:=oA e;cases e;obtain⟨p,o,u,sq,r⟩:=nP S R2 e2;have s:=vX i r;subst s;have q:=fK j B;subst q;exact⟨p,o,u,sq,C0 j,EZ i,k n _ H (Vi.mpr rfl) S (qc.refl _ _)⟩
theorem C3:OM X (compareOp .In) (kH false):=by unhygienic exact qv.imp Vy fun _ _ _ _ h=>IZ h
theorem Vg:OM X (compareOp .NotIn) (kH true):=by unhygienic exact qv.imp mz fun _ _ _ _ h=>IZ h
def JI:OD:=fun a b h=>(HA h a).bind fun i=>(HA h b).bind fun d=>if i.length+d.length<=sizeLine then ε (.lst (i++d),h)else none
def wJ:OD:=fun a b h=>(HA h a).bind fun i=>(HA h b).bind fun d=>if i.length+d.length<=sizeLine then ε (.ref h.length,h++[.lst (i++d)])else none
theorem W0:OM X (binaryOp .Add) JI:=by unhygienic exact qv.imp QZ fun x y H Q q=>by obtain⟨o,h,O,M,d,L,S,G,R2,e,k⟩:=q;obtain⟨J,F,e⟩:=oA e;obtain⟨I,e2,e⟩:=oA e;obtain⟨E,e⟩:=JE e;cases e;obtain⟨l,B,s,D,n⟩:=FD S G F;obtain⟨b,u,r,C,j⟩:=FD S R2 e2;exact⟨l,b,B,u,s,r,D,C,by rw[n.length,j.length];exact E,fun p i=>k o _ _ (DM S (n.append j) i) (S.fresh i) (qc.fresh i)⟩
theorem NZ:OM X (binaryOp .Add) wJ:=by unhygienic exact qv.imp QZ fun x y H Q o=>by obtain⟨G,h,O,M,d,L,S,F,R2,e,k⟩:=o;obtain⟨J,E,e⟩:=oA e;obtain⟨I,e2,e⟩:=oA e;obtain⟨D,e⟩:=JE e;cases e;obtain⟨l,u,r,C,j⟩:=FD S F E;obtain⟨b,s,q,B,i⟩:=FD S R2 e2;exact⟨l,b,u,s,r,q,C,B,by rw[j.length,i.length];exact D,fun p n=>k _ _ _ (qI S (j.append i) n).1 (qI S (j.append i) n).2 (qc.own n)⟩
noncomputable def YB(F:Dt->HI->Ni (Dt×HI))(f:RE):RE:=fun l h=>(f l h).bind fun r=>F r.1 r.2
theorem FK{x:Str}{q:String}{r:Ms V->Hp->VK->Prop}{F:Dt->HI->Ni (Dt×HI)}(I:Ze X (.builtin q) r)(M:∀i h d v y j H Q,Rr X.K i h H->Qi X.K H i d v->F d h=ε (y,j)->Out X.K i H y j Q->r [v] H Q)
 (G:Gl X x) (E:X.mg x=none) (C:bootBuiltins x=ε (.builtin q)) (J:EM X e f) (D:autoParam (x ≠ "__name__" ) Ñ) (o:autoParam ((x==("__debug__" :Str))=false) Ñ) (hs:autoParam (nB e=true) Æ) :
 EM X (.Call (.Name x p) [e] [] pos) (YB F f):=by
 unhygienic exact PE.imp (eK I G E C (wC J MD (aB hs _ _)) D o (he:=aB hs _ _)) fun W H Q B=>by obtain⟨i,l,h,d,j,S,L,e,k⟩:=B;obtain⟨⟨u,s⟩,O,e⟩:=oA e;exact⟨i,l,h,u,s,S,L,O,fun n v T R P U=>M n s u v d j T Q P R e (k.ext U)⟩
theorem K2{x:Str}{T:String}{r:Ms V->Hp->VK->Prop}{F:Dt->HI->Ni (Dt×HI)}(G:Ze X (.type T) r)(J:∀i h d v u j H Q,Rr X.K i h H->Qi X.K H i d v->F d h=ε (u,j)->Out X.K i H u j Q->r [v] H Q)
 (E:Gl X x) (D:X.mg x=none) (B:bootBuiltins x=ε (.type T)) (I:EM X e f) (C:autoParam (x ≠ "__name__" ) Ñ) (o:autoParam ((x==("__debug__" :Str))=false) Ñ) (hs:autoParam (nB e=true) Æ) :
 EM X (.Call (.Name x p) [e] [] pos) (YB F f):=by
 unhygienic exact PE.imp (bT G E D B (wC I MD (aB hs _ _)) C o (he:=aB hs _ _)) fun W H Q y=>by obtain⟨i,l,h,d,j,S,L,e,k⟩:=y;obtain⟨⟨s,q⟩,M,e⟩:=oA e;exact⟨i,l,h,s,q,S,L,M,fun n v R P O U=>J n q s v d j R Q O P e (k.ext U)⟩
def QB:Dt->HI->Ni (Dt×HI):=fun d h=>match d with
 | .str z=>if z.length<=sizeLine then ε (.int z.length,h)else none
 | d=>(QD h d).map fun i=>(.int i.length,h)
theorem LD (s:Gl X "len") (o:X.mg "len" =none) (u:EM X e f) (hs:autoParam (nB e=true) Æ):EM X (.Call (.Name "len" p) [e] [] pos) (YB QB f):=by
 unhygienic
  exact FK (Ze.or Ax Bx) (fun i h d v B y H Q S R e k=>by
   unfold QB at e;split at e
   . rename_i z;obtain⟨n,e⟩:=JE e;cases e;exact .inr ⟨z,by rw[Zo.mp R],n,k i _ H (Ti.mpr rfl) S (qc.refl _ _)⟩
   . cases q:QD h d with
     | none=>rw[q]at e;cases e
     | some x=>
      rw[q]at e;cases e;obtain⟨a,j,z,sq,r⟩:=nP S R q;exact .inl ⟨a,j,by rw[z],sq,by rw[r.length];exact k i _ H (Ti.mpr rfl) S (qc.refl _ _)⟩) s o PySem.boot_len u (hs:=hs)
noncomputable def aL:Dt->HI->Ni (Dt×HI):=fun d h=>match d with
 | .int i=>ε (.int i,h)
 | .bl b=>ε (.int (if b then 1 else 0),h)
 | _=>none
theorem BZ (o:Gl X "int") (n:X.mg "int" =none) (q:EM X e f) (hs:autoParam (nB e=true) Æ):EM X (.Call (.Name "int" p) [e] [] pos) (YB aL f):=by
 unhygienic
  exact K2 Ww (fun j h d v s r H Q S R e k=>by
   unfold aL at e;split at e
   . rename_i i;cases e;exact .inl ⟨i,by rw[Ti.mp R],k j _ H (Ti.mpr rfl) S (qc.refl _ _)⟩
   . rename_i b;cases e;exact .inr ⟨b,by rw[Vi.mp R],k j _ H (Ti.mpr rfl) S (qc.refl _ _)⟩
   . cases e) o n PyProof.Rows.boot_int q (hs:=hs)
def vE:Dt->HI->Ni (Dt×HI):=fun d h=>(QD h d).map fun i=>(.ref h.length,h++[.lst i])
theorem KL (o:Gl X "list") (n:X.mg "list" =none) (s:EM X e f) (hs:autoParam (nB e=true) Æ):EM X (.Call (.Name "list" p) [e] [] pos) (YB vE f):=by
 unhygienic
  exact K2 Fx (fun u h d v B y H Q S R e k=>by
   unfold vE at e;cases q:QD h d with
   | none=>rw[q]at e;cases e
   | some x=>
    rw[q]at e;cases e;obtain⟨a,j,z,sq,r⟩:=nP S R q;exact⟨a,j,by rw[z],sq,fun l i=>k _ _ _ (qI S r i).1 (qI S r i).2 (qc.own i)⟩) o n PyProof.Rows.boot_list s (hs:=hs)
noncomputable def pD:Ms Dt->Ni (Ms Int)
 | []=>ε []
 | .int i::ds=>(pD ds).map fun ns=>i::ns
 | _::_=>none
theorem ZG:∀{ds:Ms Dt}{ns:Ms Int},pD ds=ε ns->ds=ns.map Dt.int
 | [],_,e=>by simp![pD]at e;cases e;rfl
 | d::ds,_,e=>by
  cases d with
  | int i=>
   simp![pD]at e;cases q:pD ds with
   | none=>rw[q]at e;cases e
   | some ns=>rw[q]at e;cases e;rw[ZG q];rfl
  | _=>simp![pD]at e<;>cases e
theorem mX(ns:Ms Int):pD (ns.map Dt.int)=ε ns:=by
 induction ns with
 | nil=>rfl
 | cons n ns ih=>rw[Qs];simp![pD];rw[ih];rfl
def EJ:Dt->HI->Ni (Dt×HI):=fun d h=>(HA h d).bind fun i=>(pD i).map fun ns=>(.int ns.sum,h)
theorem ZZ (s:X.calm=true) (o:Gl X "sum") (n:X.mg "sum" =none) (u:EM X e f) (hs:autoParam (nB e=true) Æ):EM X (.Call (.Name "sum" p) [e] [] pos) (YB EJ f):=by
 unhygienic
  exact FK (Ak s) (fun i h d v C B H Q S R e k=>by
   obtain⟨j,x,e⟩:=oA e;cases q:pD j with
   | none=>rw[q]at e;cases e
   | some ns=>
    rw[q]at e;cases e;obtain⟨a,y,z,sq,r⟩:=FD S R x;rw[ZG q]at r;rw[r.bi]at sq;exact⟨a,ns,by rw[z],sq,k i _ H (Ti.mpr rfl) S (qc.refl _ _)⟩) o n PyProof.Rows.boot_sum u (hs:=hs)
noncomputable def dD:Ms Int->Int
 | []=>0
 | [a]=>a
 | a::b::r=>max a (dD (b::r))
noncomputable def pC:Ms Int->Int
 | []=>0
 | [a]=>a
 | a::b::r=>min a (pC (b::r))
theorem YS:∀(ns:Ms Int),ns ≠ []->dD ns∈ns/\∀a∈ns,a<=dD ns
 | [],h=>Ci rfl h
 | [a],_=>by simp[dD]
 | a::b::r,_=>by
  obtain⟨j,i⟩:=YS (b::r) ⋯;simp![dD];refine⟨?_,fun c d=>?_⟩
  . rcases Int.le_total a (dD (b::r))with z | z
    . rw[Int.max_eq_right z];exact m8 _ j
    . rw[Int.max_eq_left z];exact qd
  . rcases zu.mp d with z | z
    . rw[z];exact Int.le_max_left _ _
    . exact Int.le_trans (i c z) (Int.le_max_right _ _)
theorem BO:∀(ns:Ms Int),ns ≠ []->pC ns∈ns/\∀a∈ns,pC ns<=a
 | [],h=>Ci rfl h
 | [a],_=>by simp[pC]
 | a::b::r,_=>by
  obtain⟨j,i⟩:=BO (b::r) ⋯;simp![pC];refine⟨?_,fun c d=>?_⟩
  . rcases Int.le_total a (pC (b::r))with z | z
    . rw[Int.min_eq_left z];exact qd
    . rw[Int.min_eq_right z];exact m8 _ j
  . rcases zu.mp d with z | z
    . rw[z];exact Int.min_le_left _ _
    . exact Int.le_trans (Int.min_le_right _ _) (i c z)
def UH:Dt->HI->Ni (Dt×HI):=fun d h=>(HA h d).bind fun i=>(pD i).bind fun ns=>if ns ≠ []then ε (.int (dD ns),h)else none
def VH:Dt->HI->Ni (Dt×HI):=fun d h=>(HA h d).bind fun i=>(pD i).bind fun ns=>if ns ≠ []then ε (.int (pC ns),h)else none
theorem XZ (x:X.calm=true) (u:Gl X "max") (s:X.mg "max" =none) (y:EM X e f) (hs:autoParam (nB e=true) Æ):EM X (.Call (.Name "max" p) [e] [] pos) (YB UH f):=by
 unhygienic
  exact FK (Yw x) (fun j h d v I G H Q S R e k=>by
   obtain⟨E,D,e⟩:=oA e;obtain⟨ns,q,e⟩:=oA e;obtain⟨i,e⟩:=JE e;cases e;obtain⟨a,F,z,sq,r⟩:=FD S R D;rw[ZG q]at r;rw[r.bi]at sq;obtain⟨o,n⟩:=YS ns i;refine⟨a,ns,by rw[z],sq,i,fun M C B=>?_⟩;have:M=dD ns:=Int.le_antisymm (n M C) (B _ o);rw[this];exact k j _ H (Ti.mpr rfl) S (qc.refl _ _)) u s PyProof.Rows.boot_max y (hs:=hs)
theorem YZ (x:X.calm=true) (u:Gl X "min") (s:X.mg "min" =none) (y:EM X e f) (hs:autoParam (nB e=true) Æ):EM X (.Call (.Name "min" p) [e] [] pos) (YB VH f):=by
 unhygienic
  exact FK (ak x) (fun j h d v I G H Q S R e k=>by
   obtain⟨E,D,e⟩:=oA e;obtain⟨ns,q,e⟩:=oA e;obtain⟨i,e⟩:=JE e;cases e;obtain⟨a,F,z,sq,r⟩:=FD S R D;rw[ZG q]at r;rw[r.bi]at sq;obtain⟨o,n⟩:=BO ns i;refine⟨a,ns,by rw[z],sq,i,fun M C B=>?_⟩;have:M=pC ns:=Int.le_antisymm (B _ o) (n M C);rw[this];exact k j _ H (Ti.mpr rfl) S (qc.refl _ _)) u s PyProof.Rows.boot_min y (hs:=hs)
noncomputable def OH(h:HI):Dt->Ni String
 | .non=>ε "NoneType"
 | .bl _=>ε "bool"
 | .int _=>ε "int"
 | .str _=>ε "str"
 | .tup _=>ε "tuple"
 | .lst _=>ε "list"
 | .ref n=>match h[n]? with | some (.lst _)=>ε "list" | _=>none
 | .ntp _=>none
noncomputable def MG (t T:String):Bool:=t==T || (t == "bool" && T == "int")
def nN(T:String)(f:RE):RE:=fun l h=>(f l h).bind fun r=>(OH r.2 r.1).map fun t=>(.bl (MG t T),r.2)
theorem bf (K:Oi):∀t ∈ ["NoneType", "bool", "int", "str", "tuple", "list"],∀T ∈ ["bool", "int", "str", "tuple", "list"],PySem.W.kitOne K (.type t) (.type T)=ε (MG t T):=by intro t d T h;simp![zu,mem_nil_iff,or_false]at d h;rcases d with rfl | rfl | rfl | rfl | rfl | rfl<;>rcases h with rfl | rfl | rfl | rfl | rfl<;>unhygienic rfl
theorem E8 {h:HI} {d:Dt} {t:String} (e:OH h d=ε t):t ∈ ["NoneType", "bool", "int", "str", "tuple", "list"]:=by
 cases d with
 | ref n=>
  simp![OH]at e;split at e
  . cases e;decide
  . cases e
 | ntp n=>simp![OH]at e;cases e
 | _=>simp![OH]at e<;>cases e<;>decide
theorem T9{K:Oi}{H:Hp}{ρ:Rg}{h:HI}{d:Dt}{v:V}{t:String}(S:Rr K ρ h H)(R:Qi K H ρ d v)(e:OH h d=ε t):Jm K H v t:=by
 cases d with
 | non=>cases Zi.mp R;simp![OH]at e;cases e;rfl
 | bl b=>cases Vi.mp R;simp![OH]at e;cases e;rfl
 | int b=>cases Ti.mp R;simp![OH]at e;cases e;rfl
 | str b=>cases Zo.mp R;simp![OH]at e;cases e;rfl
 | tup j=>obtain⟨a,i,z,t,k⟩:=Wo.mp R;subst z;simp![OH]at e;cases e;exact .inr ⟨rfl,i,t.sq⟩
 | lst j=>obtain⟨a,i,z,t,k⟩:=Xi.mp R;subst z;simp![OH]at e;cases e;exact .inl ⟨rfl,i,t.sq⟩
 | ref n=>
  obtain⟨a,z,o⟩:=Xu.mp R;subst z;simp![OH]at e;split at e
  . rename_i j q;cases e;obtain⟨i,r,_⟩:=S.lst o q;exact .inl ⟨rfl,i,qq.of r⟩
  . cases e
 | ntp n=>simp![OH]at e;cases e
theorem WZ {T:Str} {TT:String} (E:Gl X "isinstance") (D:X.mg "isinstance" =none) (o:Gl X T) (n:X.mg T=none) (C:bootBuiltins T=ε (.type TT)) (G:TT ∈ ["bool", "int", "str", "tuple", "list"]) (F:EM X e f)
 (j:autoParam (T ≠ "__name__" ) Ñ) (r:autoParam ((T==("__debug__" :Str))=false) Ñ)
 (hs:autoParam (nB e=true) Æ) :
 EM X (.Call (.Name "isinstance" p) [e,.Name T m] [] pos) (nN TT f):=by
 unhygienic
  exact PE.imp (eK (Vk (T:=TT)) E D PyProof.Rows.boot_isinstance (wC F (wC (yr o n C (v:=.ty TT) rfl j r) MD (aB rfl _ _)) (aB hs _ _)) (he:=aB hs _ _)) fun P H Q B=>by
   obtain⟨y,l,h,d,R,S,L,e,k⟩:=B;obtain⟨⟨u,s⟩,I,e⟩:=oA e;refine⟨y,l,h,u,s,S,L,I,fun i v M J x O=>?_⟩;cases q:OH s u with
   | none=>rw[q]at e;cases e
   | some t=>rw[q]at e;cases e;exact⟨v,t,MG t TT,rfl,T9 x J q,bf X.K t (E8 q) TT G,k i _ M (Vi.mpr rfl) x O⟩
abbrev RO:=LI->HI->Ni (Ni Int×HI)
noncomputable def gL:RO:=fun _ h=>ε (none,h)
noncomputable def JF(f:RE):RO:=fun l h=>(f l h).bind fun r=>match r.1 with | .int i=>ε (ε i,r.2) | _=>none
noncomputable def Rp(K:Oi)(f:RO):TO:=fun j H Q=>∃d l h o i,Rr K d h H/\Ws K H d l j/\f l h=ε (o,i)/\dn K d H i (Q o)
@[irreducible] def JV(X:Cx)(e:Ni Oe)(f:RO):Prop:=PO X e (Rp X.K f)
theorem PO.imp{X:Cx}{e:Ni Oe}{t t':TO}(h:PO X e t)(i:∀d H Q,t' d H Q->t d H Q):PO X e t':=fun j s d H Q I q=>h j s d H Q I (i d H Q q)
theorem kP:JV X none gL:=by unhygienic exact PO.imp Dn fun j H Q i=>by obtain⟨d,l,h,o,n,S,L,e,k⟩:=i;cases e;exact k d H S (qc.refl _ _)
theorem lI(r:EM X a fa):JV X (ε a) (JF fa):=by
 unhygienic
  exact PO.imp (En r) fun D H Q q=>by
   obtain⟨n,l,h,o,E,S,L,e,k⟩:=q;obtain⟨⟨j,s⟩,u,e⟩:=oA e;refine⟨n,l,h,j,s,S,L,u,fun d v B y x C=>?_⟩;cases j with
   | int i=>cases e;exact⟨i,Ti.mp y,k d B x C⟩
   | _=>cases e
def UE(xs:Ms Dt)(lo d:Ni Int):Ms Dt:=(xs.drop (HT.sIx xs.length 0 lo)).take (HT.sIx xs.length xs.length d-HT.sIx xs.length 0 lo)
def DJ(f:RE)(lo i:RO):RE:=fun l h=>(f l h).bind fun r=>(lo l r.2).bind fun o=>(i l o.2).bind fun u=>(HA u.2 r.1).map fun d=>(.lst (UE d o.1 u.1),u.2)
theorem PY{K:Oi}{H:Hp}{ρ:Rg}{xs:Ms Dt}{vs:Ms V}(r:Qe K H ρ xs vs)(lo d:Ni Int):Qe K H ρ (UE xs lo d) (RH vs lo d):=by unfold UE RH;rw[r.length];exact(r.drop _).take _
theorem UL{lo D:Ni Oe}{I J:RO}(Y:EM X a fa)(U:JV X lo I)(W:JV X D J):EM X (.Subscript a (.Slice lo D none m) pos) (DJ fa I J):=by
 unhygienic
  exact PE.imp (bZ Dc Y U W) fun σ H Q R=>by
   obtain⟨P,l,h,d,h',S,L,e,k⟩:=R;obtain⟨⟨M,G⟩,e1,e⟩:=oA e;obtain⟨⟨o,F⟩,e2,e⟩:=oA e;obtain⟨⟨u,E⟩,Z,e⟩:=oA e;refine⟨P,l,h,M,G,S,L,e1,fun n v H1 R1 S1 C=>⟨n,l,G,o,F,S1,L.ext C,e2,fun j H2 S2 B=>⟨j,l,F,u,E,S2,L.ext (C.trans B),Z,fun i H3 y O=>?_⟩⟩⟩;cases q:HA E M with
   | none=>dsimp only at e;rw[q]at e;cases e
   | some xs=>dsimp only at e;rw[q]at e;cases e;obtain⟨x,T,z,sq,r⟩:=FD y (Qi.ext (B.trans O) _ R1) q;exact⟨x,T,z,sq,fun p s=>k i _ _ (DM y (PY r o u) s) (y.fresh s) (C.trans (B.trans (O.trans (qc.fresh s))))⟩
noncomputable def W4(fo fa:RE):RE:=fun l h=>(fo l h).bind fun r=>match r.1 with
 | .ref n=>(fa l r.2).bind fun q=>match q.2[n]? with
  | some (.lst xs)=>if xs.length<sizeLine then ε (.non,q.2.set n (.lst (xs++[q.1])))else none
  | _=>none
 | _=>none
theorem IU {K:Oi} {H:Hp} {ρ:Rg} {h:HI} {n:Nat} {xs:Ms Dt} {v:V} (S:Rr K ρ h H) (R:Qi K H ρ (.ref n) v) (e:h[n]?=ε (.lst xs)):A6 K "list" v H:=by obtain⟨a,z,i⟩:=Xu.mp R;subst z;obtain⟨d,j,_⟩:=S.lst i e;exact .inl ⟨rfl,d,qq.of j⟩
def CD(fa fb:RE):RE:=fun l h=>(fa l h).bind fun r=>match r.1 with
 | .ref n=>match r.2[n]? with
  | some (.lst _)=>W4 (eC (.ref n)) fb l r.2
  | _=>none
 | _=>none
theorem YE {j i:Pos} (ho:EM X a fa) (hb:EM X b fb) (r:autoParam (attributeBase a "append" X.env (eval a X.env)=eval a X.env) Æ)
 (o:autoParam ((j.endLine==i.line)=true) Æ) (hs:autoParam (nB b=true) Æ) :
 EM X (.Call (.Attribute a "append" j) [b] [] i) (CD fa fb):=by
 unhygienic
  exact PE.imp (EV PySem.F.plainAttrs_list PySem.F.slot_list_append PySem.F.type_list_append RX ho (wC hb MD (aB hs _ _)) r (NT hs) o (aB hs _ _)) fun σ H Q R=>by
   obtain⟨P,l,h,d,h',S,L,e,k⟩:=R;obtain⟨⟨F,D⟩,e1,e⟩:=oA e;refine⟨P,l,h,F,D,S,L,e1,fun B v H1 J I O=>?_⟩;cases F with
   | ref n=>
    dsimp only at e;split at e
    . rename_i U Y;obtain⟨⟨d0,h0⟩,T,e⟩:=oA e;cases T;dsimp only at e;obtain⟨⟨d2,h2⟩,e2,e⟩:=oA e;refine⟨IU I J Y,B,l,D,d2,h2,I,L.ext O,e2,fun x y H2 R2 G M=>?_⟩;dsimp only at e;split at e
      . rename_i xs q;obtain⟨Z,e⟩:=JE e;cases e;obtain⟨a,z,ha⟩:=Xu.mp J;subst z;have s:=M.get ha;obtain⟨W,u,E⟩:=G.lst s q;have C:=jo s;refine⟨a,W,y,rfl,rfl,u,by rw[E.length];exact Z,k x _ _ (Zi.mpr rfl) (G.write s (XH u) ⟨_,AC,?_⟩) (O.trans (M.trans (qc.write C (XH u))))⟩;exact(E.append (.cons R2 .nil)).ext (qc.write C (XH u))
      . cases e
    . cases e
   | _=>cases e
end
def UV:Ms Dt->Dt->Ni Nat
 | [],_=>none
 | y::ys,x=>if oN y x=true then ε 0 else(UV ys x).map (· + 1)
section
variable{X:Cx}{pins:Ms (Oa×Obj)}{σ:L2.St}{H:Hp}{s:Nu}{ρ:Rg}
open Classical in
end
def x8(xs:Ms Dt)(d:Dt):Bool:=HC xs&&BB d&&decide (ID xs<=50)
section
variable{X:Cx}{a b:Oe}{fa fb:RE}
noncomputable def VD(K:Oi):Nat->Mu->Ni Dt
 | _,.none=>ε .non
 | _,.bool b=>ε (.bl b)
 | _,.int i _=>ε (.int i)
 | _,.str x _=>ε (.str x)
 | 0,_=>none
 | n+1,.ref a=>match K.lookup a with
  | some ⟨.type T,dd,.seq its _,_⟩=>if its.size<=sizeLine then
   if T = "tuple" then(its.toList.mapM (VD K n)).map .tup
   else if T = "list" then match dd with | none=>(its.toList.mapM (VD K n)).map .lst | some _=>none
   else none
   else none
  | _=>none
 | _,_=>none
noncomputable def OV:Mu->V
 | .none=>.non
 | .bool b=>.bl b
 | .int i _=>.int i
 | .str x _=>.str x
 | .ref a=>.ref a
 | _=>.non
theorem vT{K:Oi}{H:Hp}{ρ:Rg}{f:Mu->Ni Dt}(h:∀u d,f u=ε d->qf (OV u) u/\Qi K H ρ d (OV u)):∀{us:Ms Mu}{ds:Ms Dt},us.mapM f=ε ds->p3 (us.map OV) us/\Qe K H ρ ds (us.map OV)
 | [],_,e=>by simp at e;subst e;exact⟨.nil,.nil⟩
 | u::us,ds,e=>by
  rw[mapM_cons]at e;cases q:f u with
  | none=>rw[q]at e;cases e
  | some d=>
   rw[q]at e;cases g:us.mapM f with
   | none=>rw[g]at e;cases e
   | some n=>rw[g]at e;cases e;obtain⟨m,k⟩:=h u d q;obtain⟨j,i⟩:=vT h g;exact⟨.cons m j,.cons k i⟩
theorem XX{K:Oi}{H:Hp}{ρ:Rg}:∀(n:Nat)(u:Mu)(d:Dt),VD K n u=ε d->qf (OV u) u/\Qi K H ρ d (OV u):=by
 intro n
 induction n with
 | zero=>
  intro u d e;cases u with
  | none=>simp![VD]at e;cases e;exact⟨rfl,Zi.mpr rfl⟩
  | bool b=>simp![VD]at e;cases e;exact⟨rfl,Vi.mpr rfl⟩
  | int i t=>simp![VD]at e;cases e;exact⟨⟨_,rfl⟩,Ti.mpr rfl⟩
  | str x t=>simp![VD]at e;cases e;exact⟨⟨_,rfl⟩,Zo.mpr rfl⟩
  | _=>simp![VD]at e<;>cases e
 | succ n ih=>
  intro u d e;cases u with
  | none=>simp![VD]at e;cases e;exact⟨rfl,Zi.mpr rfl⟩
  | bool b=>simp![VD]at e;cases e;exact⟨rfl,Vi.mpr rfl⟩
  | int i t=>simp![VD]at e;cases e;exact⟨⟨_,rfl⟩,Ti.mpr rfl⟩
  | str x t=>simp![VD]at e;cases e;exact⟨⟨_,rfl⟩,Zo.mpr rfl⟩
  | ref a=>
   simp![VD]at e;split at e
   . rename_i T s f m r q;by_cases j:f.size<=sizeLine
     . rw[dh j]at e;by_cases k:T = "tuple"
       . rw[dh k]at e;cases g:f.toList.mapM (VD K n)with
         | none=>rw[g]at e;cases e
         | some ds=>rw[g]at e;cases e;obtain⟨p,o⟩:=vT (K:=K) (H:=H) (ρ:=ρ) ih g;subst k;exact⟨rfl,Wo.mpr ⟨a,_,rfl,.inr ⟨_,f,m,q,rfl,rfl,j,p⟩,o⟩⟩
       . rw[dG k]at e;by_cases h:T = "list"
         . rw[dh h]at e;split at e
           . cases g:f.toList.mapM (VD K n)with
             | none=>rw[g]at e;cases e
             | some ds=>rw[g]at e;cases e;obtain⟨p,o⟩:=vT (K:=K) (H:=H) (ρ:=ρ) ih g;subst h;exact⟨rfl,Xi.mpr ⟨a,_,rfl,.inr ⟨_,f,m,q,rfl,rfl,rfl,j,p⟩,o⟩⟩
           . cases e
         . rw[dG h]at e;cases e
     . rw[dG j]at e;cases e
   . cases e
  | _=>simp![VD]at e<;>cases e
structure RK(K:Frag)(mg:Str->Option Value)(x:Str)(d:Dt):Prop where
 ex:∃u n,mg x=ε u/\VD K n u=ε d
theorem rK {x:Str} {d:Dt} {pos:Pos} (f:Gl X x) (c:RK X.K X.mg x d) (hd:autoParam ((x==("__debug__" :Str))=false) Ñ):EM X (.Name x pos) (eC d):=by unhygienic obtain⟨u,n,g,e⟩:=c.ex;exact Ad f g (XX (H:=fun _=>none) (ρ:=.nil) n u d e).1 (fun H ρ=>(XX n u d e).2) hd
end
theorem X6{K:Oi}{F:zB}{n:Nat}(h:∀ns:Ms Int,ns.length<=n->∃b,F [.lst (ns.map Dt.int)] []=ε (.bl true,b))(H:Hp)(a:Oa)(ns:Ms Int)(f:ns.length<=n)(hS:qq K H a (ns.map V.int)) :
 JJ K 1 F [.ref a] H (fun v _=>v=.bl true) fun _ _ _=>False:=by
 obtain⟨b,e⟩:=h ns f;have R:Qi K H .nil (.lst (ns.map Dt.int)) (.ref a):=Xi.mpr ⟨a,_,rfl,by
  rcases hS with hS | hS
  . exact .inl ⟨⟨by simp[Rg.nil],by simp[Rg.nil]⟩,hS⟩
  . exact .inr hS,Qe.ints ns⟩
 exact⟨.nil,[.lst (ns.map Dt.int)],[],.bl true,b,Rr.nil,.cons R .nil,rfl,e,fun d v j g i k=>Vi.mp g⟩
structure BC(P:Program)(w:World)(K:Frag)(mg:Str->Option Value)(base:Heap)(k n:Nat)(x:Str)(F:zB):Prop where
 ex:∃f fd ps,YD P w K mg base LG k f fd ps (JJ K n F)/\mg x=ε (.ref f)/\keepIn K (.ref f)=true/\qr K fd ps []
 len:∀ds h r,F ds h=ε r->ds.length=n
structure dB(K:Frag)(mg:Str->Option Value)(x:Str)(st:Stmt)(ps:List Str):Prop where
 ex:∃f fd,Fun K x x st f fd/\mg x=ε (.ref f)/\qr K fd ps []
section
variable{P:Oo}{w:O4}{K:Oi}{b:Str->Ni Mu}{a:Pu}
theorem S7{x d:Str}{st:Ou}{f:Oa}{h:FuncData}{N g:Ms Str}{k n m:Nat}{body:RS}(F:Fun K x d st f h)(S:SA N g (BA st))(i:g.length=n)(j:N.length=m)
 (o:∀(e:Mu)(A:Pa)(outer:Ms Env)(s:Nu)(H:Hp)(E:XK),Vu k (A.deeper (envOfC d (BA st) s.heap.objs.size f e))->
  CI (LF LG P w K b a N d (BA st) f e A outer s H E).nox (BD st) body):YD P w K b a LG (k+1) f h g (JJ K n (UB n m body)):=by
 unhygienic subst i j;exact JP F S o
theorem mB{x:Str}{st:Ou}{N g:Ms Str}{k n m:Nat}{body:RS}(D:dB K b x st g)(S:SA N g (BA st))(p:g.length=n)(i:N.length=m)
 (q:∀(f:Oa)(d:Mu)(A:Pa)(outer:Ms Env)(s:Nu)(H:Hp)(E:XK),Vu k (A.deeper (envOfC x (BA st) s.heap.objs.size f d))->
  CI (LF LG P w K b a N x (BA st) f d A outer s H E).nox (BD st) body):BC P w K b a (k+1) n x (UB n m body):=by
 unhygienic subst p i;obtain⟨f,y,j,i,u⟩:=D.ex;exact⟨⟨f,y,g,JP j S fun d A outer s H E o=>q f d A outer s H E o,i,j.kp,u⟩,fun ds h r e=>jP e⟩
end
section
variable{X:Cx}{k b n:Nat}{F:zB}{x:Str}{p pos:Pos}{e:Oe}{a:Ms Oe}{g:RA}
theorem pF (c:BC X.prog X.w X.K X.mg X.base k n x F) (i:Vu b X.A) (j:k<=b) (m:Gl X x) (o:AM X (e::a) g) (d:autoParam ((x==("__debug__" :Str))=false) Ñ)
 (he:autoParam (nB e=true) Æ) (hpl:autoParam (a.all nB=true) Æ) :
 EM X (.Call (.Name x p) (e::a) [] pos) (qA F [] g):=by
 unhygienic obtain⟨f,D,C,B,y,u,s⟩:=c.ex;exact uY B (i.mono j) m y u s .nil (fun _ _=>.nil) o (fun E e ds h r q=>c.len ds h r (e ▸ q)) d he hpl
end
theorem Mg{l:PySem.W.OpenLaw}{q:Oo}{b:Ms Str}{D:(Str->Ni Mu)->Pu->Prop}{i:O4->Pu->Prop}{d:DefRec}{K:Params->Oi}{F:zB}{k:Nat}{x:Str}(o:l.most=ε 63)(e:d.params.defaults=[])(m:Vu k callerA)
 (r:∀(w:O4)(h:Pu),i w h->(K w.params).In h)
 (B:∀(w:O4)(mg:Str->Ni Mu)(fa:Oa)(h:Pu),(K w.params).In h->h.Ns mainGlobals mg->mg d.name=ε (.ref fa)->
  ∃g:FuncData,(∀(s:Nu)(u:Mu),BindsTo s g ⟨[u],[]⟩ [(x,u)])/\∀base:Pu,(K w.params).In base->base.Ns mainGlobals mg->YD l.prog w (K w.params) mg base LG k fa g [x] (JJ (K w.params) 1 F))
 (h:∀ns:Ms Int,ns.length<=63->∃C,F [.lst (ns.map Dt.int)] []=ε (.bl true,C)):PySem.W.WalkO q b D i l.row.toRowW d [] (fun f j=>PySem.call f j):=
 L2.Zc (n:=63) (k:=k) (x:=x) (CX:=fun _=>LG) (sp:=fun w=>JJ (K w.params) 1 F) o (by decide) e m r B (fun w H a ns p _ y=>X6 h H a ns p y) fun _ _ _ _ _ z=>z
end SM
namespace L2
section
variable{X:Cx}
theorem ZU:∀{bs:Ms Bool}{us:Ms Mu},p3 (bs.map V.bl) us->∀(i:Nat)(v:Mu),us[i]?=ε v->v=.bool (bs.getD i false)
 | [],us,r,i,v,e=>by cases r;simp at e
 | b::bs,us,r,i,v,e=>by
  cases r with
  | cons r a=>
   cases i with
   | zero=>simp at e;subst e;exact r
   | succ i=>simpa using ZU a i v (by simpa using e)
theorem Lk(bs:Ms Bool):(List.range bs.length).all (fun i=>bs.getD i false)=bs.all id:=by
 induction bs with
 | nil=>rfl
 | cons b bs ih=>
  rw[Qu,Ji,Js,all_map,Js];have:((fun i=>(b::bs).getD i false) ∘ Nat.succ)=fun i=>bs.getD i false:=by
   funext i
   simp
  rw[this,ih];simp
theorem Uw (x:X.calm=true):Ze X (.builtin "all") (fun d H Q=>∃(p:Oa) (bs:Ms Bool),d=[.ref p]/\qq X.K H p (bs.map V.bl)/\Q (.bl (bs.all id)) H):=by
 intro g s B H d C Q I r h;obtain⟨p,bs,rfl,n,q⟩:=h;obtain⟨u,rfl,j⟩:=HF r;cases j;obtain⟨a,f,pl,F⟩:=I.list n;have b:p<s.heap.objs.size:=by obtain⟨_,e,_⟩:=pl.isList;exact fu e
 refine call_all_walk (wpAny_pyIter_list pl.isList ?_);refine⟨_,_,_,_,_,_,fun i=>bs.getD i false,rfl,Walks.list (A:=X.A.in1) (I.ok.hd x) s.heap.objs.size p (ni b) a.toArray,⟨⟨_,je _ rfl,rfl,rfl⟩,pl.isList.push _⟩,?_,fun G D k=>?_⟩
 . intro i v E J L m y;have e:=ZU f i v (by simpa using m);subst e;exact Eo y
 . have o:=f.length;have e:(List.range a.toArray.size).all (fun i=>bs.getD i false)=bs.all id:=by rw[show a.toArray.size=bs.length by simp at o ⊢;omega,Lk]
   rw[e];exact⟨.bl (bs.all id),H,I.kept (old_kept k),rfl,q⟩
end
end L2
namespace SM
noncomputable def oG:Ms Dt->Ni (Ms Bool)
 | []=>ε []
 | .bl b::ds=>(oG ds).map fun bs=>b::bs
 | _::_=>none
theorem YT:∀{ds:Ms Dt}{bs:Ms Bool},oG ds=ε bs->ds=bs.map Dt.bl
 | [],bs,e=>by simp![oG]at e;cases e;rfl
 | d::ds,bs,e=>by
  cases d with
  | bl b=>
   simp![oG]at e;cases q:oG ds with
   | none=>rw[q]at e;cases e
   | some a=>rw[q]at e;cases e;rw[YT q];rfl
  | _=>simp![oG]at e<;>cases e
theorem Qe.fx{K:Oi}{H:Hp}{ρ:Rg}:∀{bs:Ms Bool}{vs:Ms V},Qe K H ρ (bs.map Dt.bl) vs->vs=bs.map V.bl
 | [],_,h=>h.ag
 | n::ns,_,h=>by obtain⟨v,r,rfl,a,b⟩:=Qe.Xe h;simp![Qi]at a;rw[a,Qe.fx b];rfl
def TH:Dt->HI->Ni (Dt×HI):=fun d h=>(HA h d).bind fun a=>(oG a).map fun bs=>(.bl (bs.all id),h)
section
variable{X:Cx}{e:Oe}{f:RE}{p pos:Pos}
theorem VZ (m:X.calm=true) (j:Gl X "all") (i:X.mg "all" =none) (n:EM X e f) (hs:autoParam (nB e=true) Æ):EM X (.Call (.Name "all" p) [e] [] pos) (YB TH f):=by
 unhygienic
  exact FK (Uw m) (fun b h d v x u H Q S R e k=>by
   obtain⟨g,o,e⟩:=oA e;cases q:oG g with
   | none=>rw[q]at e;cases e
   | some ns=>
    rw[q]at e;cases e;obtain⟨a,s,z,sq,r⟩:=FD S R o;rw[YT q]at r;rw[r.fx]at sq;exact⟨a,ns,by rw[z],sq,k b _ H (Vi.mpr rfl) S (qc.refl _ _)⟩) j i PyProof.Rows.boot_all n (hs:=hs)
end
noncomputable def uJ:Nat->Ms Dt->Ms Dt
 | _,[]=>[]
 | k,x::xs=>.tup [.int (k:Int),x]::uJ (k+1) xs
noncomputable def SD(i j:Nat):RG:=fun d l=>match d with
 | .tup [a,b]=>ε ((l.set i (ε a)).set j (ε b))
 | _=>none
end SM
namespace L2
section
variable{X:Cx}{a:Ms (Oa×Obj)}{d:Ms (Ni V)}{H:Hp}{s:Nu}{h':Pu}
theorem py.nv{t':Nat}{e it p:Oa}{xs:Ms V}(I:py X a d H s)(k:∀b o,b≠e->b≠it->s.heap.get? b=ε o->h'.get? b=ε o)(fe:vF X a H e)(O:vF X a H it)(B:s.heap.objs.size<=p)
 (new:Xa X.prog X.w (xB H p (.tup xs)) h' p (.tup xs)):py X a d (xB H p (.tup xs)) { s with heap:=h',toks:=t' }:=by
 obtain⟨U,C,e2,T,S,R⟩:=fe;obtain⟨J,y,Y,G,F,E⟩:=O;have h:H p=none:=I.hok.fresh B;have ne:∀b u,H b=ε u->b≠e:=fun b u q z=>by rw[z,U]at q;cases q
 have x:∀b u,H b=ε u->b≠it:=fun b u q z=>by rw[z,J]at q;cases q
 have g:∀{b},b ∉ [e,it]->b≠e/\b≠it:=fun f=>⟨fun z=>f (by simp[z]),fun z=>f (by simp[z])⟩
 refine I.step (g':=s.gens) (d':=s.drawn) (ch:=[e,it]) (fun b i=>?_) (fun b o _ _ f q _=>k b o (g f).1 (g f).2 q) (fun b o _ _ f q _=>⟨o.slots,k b o (g f).1 (g f).2 q⟩)
  (fun b o _ q n=>by rw[WA (ni (ji (fu q) B))];exact n)
  (fun b o f q=>⟨o,k b o (g f).1 (g f).2 q⟩) (fun b D q=>by rw[WA (kD q h)];exact q) (fun b o u q=>by rw[WA (kD q h)];exact q)
  (fun b W q=>⟨#[],by rw[WA (kD q h),q];simp⟩) (fun m M=>?_) (fun b u q=>?_) I.bare
 . have z:b=e\/b=it:=by simpa using i
   rcases z with rfl | rfl
   . exact⟨T,C,S,R⟩
   . exact⟨G,y,F,E⟩
 . obtain⟨o,P,Q,L,r⟩:=M;exact⟨o,P,Q,k _ o (m5 C) (m5 y) L,r⟩
 . by_cases i:b=p
   . subst i;rw[AC]at q;cases q;exact new
   . rw[WA i]at q;refine(I.hok b u q).stay (fun c v f j=>?_) (fun c q=>by rw[WA (kD q h)];exact q) fun c D q=>by rw[WA (kD q h)];exact q
     rcases f with z | z
     . subst z;exact k c v (ne c u q) (x c u q) j
     . exact k c v (ne c _ z) (x c _ z) j
theorem py.nw{t':Nat}{e it:Oa}(I:py X a d H s)(k:∀b o,b≠e->b≠it->s.heap.get? b=ε o->h'.get? b=ε o)(fe:vF X a H e)(J:vF X a H it):py X a d H { s with heap:=h',toks:=t' }:=by
 obtain⟨R,p,e2,Q,P,O⟩:=fe;obtain⟨D,j,T,C,B,y⟩:=J;have ne:∀b u,H b=ε u->b≠e:=fun b u q z=>by rw[z,R]at q;cases q
 have i:∀b u,H b=ε u->b≠it:=fun b u q z=>by rw[z,D]at q;cases q
 have g:∀{b},b ∉ [e,it]->b≠e/\b≠it:=fun f=>⟨fun z=>f (by simp[z]),fun z=>f (by simp[z])⟩
 refine I.step (g':=s.gens) (d':=s.drawn) (ch:=[e,it]) (fun b G=>?_) (fun b o _ _ f q _=>k b o (g f).1 (g f).2 q) (fun b o _ _ f q _=>⟨o.slots,k b o (g f).1 (g f).2 q⟩)
  (fun b o _ q n=>n) (fun b o f q=>⟨o,k b o (g f).1 (g f).2 q⟩) (fun b x q=>q) (fun b o u q=>q)
  (fun b S q=>⟨#[],by rw[q];simp⟩) (fun m F=>?_) (fun b u q=>?_) I.bare
 . have z:b=e\/b=it:=by simpa using G
   rcases z with rfl | rfl
   . exact⟨Q,p,P,O⟩
   . exact⟨C,j,B,y⟩
 . obtain⟨o,L,M,E,r⟩:=F;exact⟨o,L,M,k _ o (m5 p) (m5 j) E,r⟩
 . refine(I.hok b u q).stay (fun c v f h=>?_) (fun c q=>q) fun c x q=>q
   rcases f with z | z
   . subst z;exact k c v (ne c u q) (i c u q) h
   . exact k c v (ne c _ z) (i c _ z) h
end
def Bm(K:Oi)(a:Oa):It:=
 ⟨fun i H=>∃b x,qq K H a b/\b[i]?=ε x,fun i H x d=>∃p y,H p=none/\x=.ref p/\(∀b,qq K H a b->b[i]?=ε y)/\d=xB H p (.tup [.int (i:Nat),y]),fun i H=>∃b,qq K H a b/\b.length<=i⟩
theorem Cy{P:Oo}{w:O4}{K:Oi}{B:Ms Oe}{x1}{pos:Pos}(a e it:Oa)(r:e≠it):pH P w K (.Tuple B x1 pos) (Bm K a) [e,it] e (fun i h=>(∃old,IsEnum h e it i old)/\h.IsListIter it a i) where
 mem:=by simp
 obj:=fun i h st b Q=>by
  obtain⟨⟨old,f⟩,g⟩:=st;have z:b=e\/b=it:=by simpa using Q
  rcases z with rfl | rfl
  . exact⟨_,f,fun v z=>by cases z⟩
  . obtain⟨o,e,c,d⟩:=g;exact⟨o,e,fun v z=>by rw[d]at z;cases z⟩
 keep:=fun i h Y st k=>by obtain⟨⟨old,f⟩,g⟩:=st;exact⟨⟨old,k e ⋯ _ f⟩,g.at fun o e=>k it ⋯ o e⟩
 item:=by
  intro X R hw S U i m s σ H E I y st M;subst R hw S;obtain⟨⟨old,f⟩,g⟩:=st;obtain⟨xs,x,C,J⟩:=M;obtain⟨F,D,p,hz⟩:=I.list C;obtain⟨u,hu,ru⟩:=D.get J;have fe:=y e ⋯;have Z:=y it ⋯;refine wpAny_pyNext_enum_item f g p.isList (x:=u) (by simpa using hu) r fun Y out G j sz kp=>?_
  refine⟨_,rfl,wpAny_letOwnedTupleGo_enum out fun h2 O sb=>?_⟩;have n:s.heap.objs.size≠e:=(ni (fu f)).symm;have L:s.heap.objs.size≠it:=by obtain⟨o,q,_⟩:=g;exact(ni (fu q)).symm
  have t2:h2.get? s.heap.objs.size=ε { cls:=.type "tuple",data:=.seq #[.int i s.toks,u] }:=(sb.2 _ n).trans j;refine⟨.ref s.heap.objs.size,xB H s.heap.objs.size (.tup [.int (i:Nat),x]),I.nv (fun b o W T q=>(sb.2 b W).trans (kp b o W T q)) fe Z (Ra _) ⟨by simp![Qu,Ru];rw[Ao];decide,[.int i s.toks,u],.cons ⟨_,rfl⟩ (.cons ru .nil),⟨_,t2,rfl,_,rfl⟩⟩,rfl,⟨_,x,I.hok.fresh (Ra _),rfl,fun ys hy=>by rw[I.dl hy C];exact J,rfl⟩,⟨⟨_,O⟩,G.at fun o q=>(sb.2 it (m5 r)).trans q⟩,fun b Q=>?_⟩;have z:b=e\/b=it:=by simpa using Q
  rcases z with rfl | rfl
  . rw[WA (m5 n)];exact fe.1
  . rw[WA (m5 L)];exact Z.1
 done:=by intro X R hw S U i m s σ H E I y st M;subst R hw S;obtain⟨⟨old,f⟩,g⟩:=st;obtain⟨xs,C,J⟩:=M;obtain⟨F,D,p,hz⟩:=I.list C;have hl:=D.length;exact wpAny_pyNext_enum_end (I.ok.hd U) f g p.isList (by simp;omega) fun Y eb=>⟨rfl,I.nw (t':=s.toks) (fun b o _ T q=>eb b o T q) (y e ⋯) (y it ⋯)⟩
 self:=fun _ _ _ _ _ st h=>by obtain⟨⟨old,f⟩,_⟩:=st;exact wpAny_pyIter_enum f h
section
variable{X:Cx}
def j5(K:Oi)(g:TA):TI:=fun d H R=>g d H fun f b=>∃a,f=[.ref a]/\(∃e,qq K b a e)/\R (Bm K a) b
theorem Zb {i:Ms Oe} {x1} {y:Pos} {a:Oe} {n:TA} {p pos:Pos} (L:Gl X "enumerate") (J:X.mg "enumerate" =none) (O:PA X [a] n) (hs:autoParam (starEach [a] X.env=[(false,eval a X.env)]) Æ) :
 PI X (.Tuple i x1 y) (.Call (.Name "enumerate" p) [a] [] pos) (j5 X.K n):=by
 intro f s m H R I h;refine Call_ (EG I L J boot_enumerate (PyProof.Rows.callWith_type1 (vB (O pos f s m H _ I h) fun U d x=>?_) hs rfl));obtain⟨T,u,g,C,D⟩:=x;obtain⟨b,e,⟨S,G⟩,q⟩:=D;subst e;cases C with
 | cons r B=>
  cases B;cases r;obtain⟨E,W,pl,Y⟩:=g.list G;refine call_enumerate_list pl.isList fun P o j F k=>?_
  have Q:py X f m u { d with heap:=P }:=g.kept (t':=d.toks) k;refine wpAny_pyIter_enum o ?_;refine⟨d.heap.objs.size+1,[d.heap.objs.size+1,d.heap.objs.size],_,_,u,rfl,Q,Cy b (d.heap.objs.size+1) d.heap.objs.size (Nat.succ_ne_self _),⟨⟨_,o⟩,j⟩,fun c M=>?_,q⟩;have z:c=d.heap.objs.size+1\/c=d.heap.objs.size:=by simpa using M
  rcases z with rfl | rfl
  . exact g.bv (Nat.le_succ _) (g.hok.fresh (Nat.le_succ _))
  . exact g.bv (Ra _) (g.hok.fresh (Ra _))
end
end L2
namespace SM
theorem sX:∀(xs:Ms Dt)(k i:Nat),(uJ k xs)[i]?=(xs[i]?).map fun x=>.tup [.int ((k+i:Nat):Int),x]
 | [],_,_=>by simp[uJ]
 | x::xs,k,0=>by simp[uJ]
 | x::xs,k,i+1=>by
  simp![uJ,Qo];rw[sX xs (k+1) i];have:k+1+i=k+(i+1):=by omega
  rw[this]
section
variable{X:Cx}
theorem RU(i j:Nat){x y:Str}{s p pos:Pos}{x1}(F:X.calm=true)(m:X.N.Nodup)(D:autoParam (X.N[i]?=ε x) Æ)(C:autoParam (X.N[j]?=ε y) Æ)
 (B:autoParam (aQ X.env.scope x) þ) (u:autoParam (aQ X.env.scope y) þ)
 (E:autoParam (X.fn x=true\/X.env.scope.names.lookup x=ε .local) ð)
 (f:autoParam (X.fn y=true\/X.env.scope.names.lookup y=ε .local) ð):GM X (.Tuple [.Name x s,.Name y p] x1 pos) (SD i j):=by
 unhygienic
  refine PG.imp (Q6 (n:=2) F (dZ (AU m D B E) (dZ (AU m C u f) Yb))) fun v I H Q o=>?_
  obtain⟨J,l,h,d,T,S,L,R,e,k⟩:=o;unfold SD at e;split at e
  . cases e;obtain⟨a,M,rfl,q,r⟩:=Wo.mp R;obtain⟨g,P,rfl,G,r⟩:=r.Xe;obtain⟨b,O,rfl,R2,r⟩:=r.Xe;cases r.ag;exact⟨a,[g,b],rfl,q.sq,rfl,g,[b],rfl,b,[],rfl,rfl,k _ ((L.set i G).set j R2)⟩
  . cases e
end
def mJ(fe fo a:RE):RS:=fun l h=>(fe l h).bind fun v=>(fo l v.2).bind fun o=>(a l o.2).bind fun i=>match o.1,i.1 with
 | .ref n,.int k=>match i.2[n]? with
  | some (.lst xs)=>(GI xs.length k).bind fun j=>ε (.nx l (i.2.set n (.lst (xs.set j v.1))))
  | _=>none
 | _,_=>none
noncomputable def oj(i j k:Nat):RG:=fun d l=>match d with
 | .tup [a,b,c]=>ε (((l.set i (ε a)).set j (ε b)).set k (ε c))
 | _=>none
noncomputable def tH(d:Dt)(k:Int):Ms Dt:=List.replicate k.toNat d
def SH(fa fb:RE):RE:=fun l h=>(fa l h).bind fun a=>(fb l a.2).bind fun k=>match k.1 with
 | .int i=>if -(2^62)<=i/\i<=1000000 then ε (.lst (tH a.1 i),k.2)else none
 | _=>none
def EK(fa fb:RE):RE:=fun l h=>(fa l h).bind fun a=>(fb l a.2).bind fun k=>match k.1 with
 | .int i=>if -(2^62)<=i/\i<=1000000 then ε (.ref k.2.length,k.2++[.lst (tH a.1 i)])else none
 | _=>none
def qN:Dt->HI->Ni (Dt×HI):=fun d h=>(HA h d).bind fun a=>(oG a).map fun bs=>(.bl (bs.any id),h)
def tQ(fa fb:RE):RI:=fun l h=>(fa l h).bind fun r=>(fb l r.2).bind fun q=>match HA q.2 r.1,HA q.2 q.1 with
 | some _,some _=>ε (.zp r.1 q.1,q.2)
 | _,_=>none
noncomputable def XB(f:Dt->Ni Dt):Ms Dt->Ni (Ms Dt)
 | []=>ε []
 | x::xs=>(f x).bind fun y=>(XB f xs).map fun a=>y::a
def LA(h:HI):Nat->Dt->Ni Dt
 | 0,_=>none
 | n+1,.tup xs=>(XB (LA h n) xs).map .tup
 | n+1,.lst xs=>(XB (LA h n) xs).map .lst
 | n+1,.ref k=>match h[k]? with | some (.lst xs)=>(XB (LA h n) xs).map .lst | _=>none
 | _+1,.ntp _=>none
 | _+1,d=>ε d
def gE:OD:=fun a b h=>(LA h 8 a).bind fun e=>(LA h 8 b).bind fun d=>(RB e d []).map fun r=>(r.1,h)
def RC:OD:=fun a b h=>(LA h 8 a).bind fun e=>(LA h 8 b).bind fun d=>(QC e d []).map fun r=>(r.1,h)
noncomputable def kG(t:RT)(body:RS):Nat->RS
 | 0,_,_=>none
 | n+1,l,h=>(t l h).bind fun c=>if c.1=true then(body l c.2).bind fun r=>match r with
  | .nx b a=>kG t body n b a
  | .ct b a=>kG t body n b a
  | .bk b a=>ε (.nx b a)
  | .rt d a=>ε (.rt d a)
  else ε (.nx l c.2)
def sP(n:Nat)(t:RT)(body:RS):RS:=fun l h=>kG t body n l h
noncomputable def jJ(fo fa:RE):RE:=fun l h=>(fo l h).bind fun r=>match r.1 with
 | .ref n=>match r.2[n]? with
  | some (.lst _)=>(fa l r.2).bind fun q=>match q.1 with
   | .ref m=>match q.2[n]?,q.2[m]? with
    | some (.lst xs),some (.lst ys)=>if xs.length+ys.length<=sizeLine then ε (.non,q.2.set n (.lst (xs++ys)))else none
    | _,_=>none
   | _=>none
  | _=>none
 | _=>none
noncomputable def uP(fo fa:RE):RE:=fun l h=>(fo l h).bind fun r=>match r.1 with
 | .ref n=>match r.2[n]? with
  | some (.lst _)=>(fa l r.2).bind fun q=>match q.1 with
   | .int 0=>match q.2[n]? with
    | some (.lst (x::xs))=>ε (x,q.2.set n (.lst xs))
    | _=>none
   | _=>none
  | _=>none
 | _=>none
noncomputable def pQ(F:Dt->Dt->Ni Dt)(fa fb:RE):RE:=fun l h=>(fa l h).bind fun r=>(fb l r.2).bind fun q=>(F r.1 q.1).map fun d=>(d,q.2)
noncomputable def IP:Dt->Dt->Ni Dt:=fun a b=>match a,b with | .int i,.int j=>ε (.int (if j>i then j else i)) | _,_=>none
noncomputable def GK:Dt->Dt->Ni Dt:=fun a b=>match a,b with | .int i,.int j=>ε (.int (if j<i then j else i)) | _,_=>none
noncomputable def DN(f:RE):RE:=fun l h=>(f l h).bind fun r=>match r.1 with | .int i=>ε (.int (Builtin.bitNot i),r.2) | _=>none
end SM
namespace L2
section
variable{X:Cx}
theorem Nk(bs:Ms Bool):(List.range bs.length).any (fun i=>bs.getD i false)=bs.any id:=by
 induction bs with
 | nil=>rfl
 | cons b bs ih=>
  rw[Qu,Ji,Jo,any_map,Jo];have:((fun i=>(b::bs).getD i false) ∘ Nat.succ)=fun i=>bs.getD i false:=by
   funext i
   simp
  rw[this,ih];simp
theorem Vw (x:X.calm=true):Ze X (.builtin "any") (fun d H Q=>∃(p:Oa) (bs:Ms Bool),d=[.ref p]/\qq X.K H p (bs.map V.bl)/\Q (.bl (bs.any id)) H):=by
 intro g s B H d C Q I r h;obtain⟨p,bs,rfl,n,q⟩:=h;obtain⟨u,rfl,j⟩:=HF r;cases j;obtain⟨a,f,pl,F⟩:=I.list n;have b:p<s.heap.objs.size:=by obtain⟨_,e,_⟩:=pl.isList;exact fu e
 refine call_any_walk (wpAny_pyIter_list pl.isList ?_);refine⟨_,_,_,_,_,_,fun i=>bs.getD i false,rfl,Walks.list (A:=X.A.in1) (I.ok.hd x) s.heap.objs.size p (ni b) a.toArray,⟨⟨_,je _ rfl,rfl,rfl⟩,pl.isList.push _⟩,?_,fun G D k=>?_⟩
 . intro i v E J L m y;have e:=ZU f i v (by simpa using m);subst e;exact Eo y
 . have o:=f.length;have e:(List.range a.toArray.size).any (fun i=>bs.getD i false)=bs.any id:=by rw[show a.toArray.size=bs.length by simp at o ⊢;omega,Nk]
   rw[e];exact⟨.bl (bs.any id),H,I.kept (old_kept k),rfl,q⟩
end
section
variable{X:Cx}{a:Ms (Oa×Obj)}{d:Ms (Ni V)}{H:Hp}{s:Nu}{h':Pu}
theorem py.hI{t':Nat}{fp:Ms Oa}{p:Oa}{xs:Ms V}(I:py X a d H s)(k:∀b o,b∉fp->s.heap.get? b=ε o->h'.get? b=ε o)(h:∀b∈fp,vF X a H b)(x:s.heap.objs.size<=p)
 (new:Xa X.prog X.w (xB H p (.tup xs)) h' p (.tup xs)):py X a d (xB H p (.tup xs)) { s with heap:=h',toks:=t' }:=by
 have f:H p=none:=I.hok.fresh x;have j:∀b u,H b=ε u->b∉fp:=fun b u q z=>by rw[(h b z).1]at q;cases q
 refine I.step (g':=s.gens) (d':=s.drawn) (ch:=fp) (fun b g=>?_) (fun b o _ _ e q _=>k b o e q) (fun b o _ _ e q _=>⟨o.slots,k b o e q⟩)
  (fun b o _ q n=>by rw[WA (ni (ji (fu q) x))];exact n)
  (fun b o e q=>⟨o,k b o e q⟩) (fun b y q=>by rw[WA (kD q f)];exact q) (fun b o u q=>by rw[WA (kD q f)];exact q)
  (fun b M q=>⟨#[],by rw[WA (kD q f),q];simp⟩) (fun m C=>?_) (fun b u q=>?_) I.bare
 . obtain⟨O,L,e2,J,G,F⟩:=h b g;exact⟨J,L,G,F⟩
 . obtain⟨o,D,E,B,r⟩:=C;exact⟨o,D,E,k _ o (fun z=>(h _ z).2.1 rfl) B,r⟩
 . by_cases g:b=p
   . subst g;rw[AC]at q;cases q;exact new
   . rw[WA g]at q;refine(I.hok b u q).stay (fun c v e i=>?_) (fun c q=>by rw[WA (kD q f)];exact q) fun c y q=>by rw[WA (kD q f)];exact q
     rcases e with z | z
     . subst z;exact k c v (j c u q) i
     . exact k c v (j c _ z) i
theorem py.hL{t':Nat}{fp:Ms Oa}(I:py X a d H s)(k:∀b o,b∉fp->s.heap.get? b=ε o->h'.get? b=ε o)(f:∀b∈fp,vF X a H b):py X a d H { s with heap:=h',toks:=t' }:=by
 have h:∀b u,H b=ε u->b∉fp:=fun b u q z=>by rw[(f b z).1]at q;cases q
 refine I.step (g':=s.gens) (d':=s.drawn) (ch:=fp) (fun b x=>?_) (fun b o _ _ e q _=>k b o e q) (fun b o _ _ e q _=>⟨o.slots,k b o e q⟩)
  (fun b o _ q n=>n) (fun b o e q=>⟨o,k b o e q⟩) (fun b i q=>q) (fun b o u q=>q)
  (fun b G q=>⟨#[],by rw[q];simp⟩) (fun m p=>?_) (fun b u q=>?_) I.bare
 . obtain⟨J,F,e2,E,D,C⟩:=f b x;exact⟨E,F,D,C⟩
 . obtain⟨o,y,B,j,r⟩:=p;exact⟨o,y,B,k _ o (fun z=>(f _ z).2.1 rfl) j,r⟩
 . refine(I.hok b u q).stay (fun c v e g=>?_) (fun c q=>q) fun c i q=>q
   rcases e with z | z
   . subst z;exact k c v (h c u q) g
   . exact k c v (h c _ z) g
end
def Gm(K:Oi)(a b:Oa):It:=
 ⟨fun i H=>∃e d x y,qq K H a e/\qq K H b d/\e[i]?=ε x/\d[i]?=ε y,
  fun i H v f=>∃p x y,H p=none/\v=.ref p/\(∀e,qq K H a e->e[i]?=ε x)/\(∀d,qq K H b d->d[i]?=ε y)/\f=xB H p (.tup [x,y]),
  fun i H=>∃e d,qq K H a e/\qq K H b d/\(e.length<=i\/d.length<=i)⟩
theorem pT{h:Pu}{z TI TO f i2 k l2 n:Oa}{R:Mu}{x y a b:Mu}{L J:Nat}{xs ys:Pb Mu}(S:z=n+4)(U:TI=n+2)(T:TO=n+3)(W:f=n)(e2:i2=n+1)(hz:IsZip h z TI TO R)(r:IsPair h TO a b)
 (h1:h.IsListIter f k L) (h2:h.IsListIter i2 l2 J) (p:h.IsList k xs) (m:h.IsList l2 ys):ZipApart z TI TO f i2 k l2:=by
 obtain⟨p1,Q,Y,_⟩:=h1;obtain⟨Z,P,X,_⟩:=h2;have u:∀{l:Oa}{s:Pb Mu},h.IsList l s->l≠z/\l≠TO/\l≠f/\l≠i2:=by
  intro l s M;obtain⟨o,g,c,_⟩:=M;refine⟨fun e=>?_,fun e=>?_,fun e=>?_,fun e=>?_⟩
  . subst e;rw[hz]at g;cases g;simp at c
  . subst e;rw[r]at g;cases g;simp at c
  . subst e;rw[Q]at g;cases g;rw[Y]at c;simp at c
  . subst e;rw[P]at g;cases g;rw[X]at c;simp at c
 obtain⟨I,H,G,F⟩:=u p;obtain⟨E,D,C,B⟩:=u m;have ne:∀(i j:Nat),i≠j->n+i≠n+j:=fun i j q e=>q (Nat.add_left_cancel e)
 have d:∀(i:Nat),i≠0->n+i≠n:=fun i O e=>O (Nat.add_left_cancel (e:n+i=n+0))
 subst S U T W e2;exact⟨ne _ _ (by decide),ne _ _ (by decide),(d _ (by decide)).symm,ne _ _ (by decide),ne _ _ (by decide),d _ (by decide),ne _ _ (by decide),d _ (by decide),ne _ _ (by decide),(d _ (by decide)).symm,I,H,G,F,E,D,C,B⟩
theorem Qt{P:Oo}{w:O4}{K:Oi}{S:Ms Oe}{x1}{pos:Pos}(a b n:Oa):pH P w K (.Tuple S x1 pos) (Gm K a b) [n+4,n+2,n+3,n,n+1] (n+4)
 (fun i h=>IsZip h (n+4) (n+2) (n+3) .none/\IsPair h (n+2) (.ref n) (.ref (n+1))/\(∃u v,IsPair h (n+3) u v)/\h.IsListIter n a i/\h.IsListIter (n+1) b i) where
 mem:=by simp
 obj:=fun i h st c f=>by
  obtain⟨B,C,⟨u,v,r⟩,m,j⟩:=st;have z:c=n+4\/c=n+2\/c=n+3\/c=n\/c=n+1:=by simpa using f
  rcases z with z | z | z | z | z<;>subst z
  . exact⟨_,B,fun v z=>by cases z⟩
  . exact⟨_,C,fun v z=>by cases z⟩
  . exact⟨_,r,fun v z=>by cases z⟩
  . obtain⟨o,e,c,d⟩:=m;exact⟨o,e,fun v z=>by rw[d]at z;cases z⟩
  . obtain⟨o,e,c,d⟩:=j;exact⟨o,e,fun v z=>by rw[d]at z;cases z⟩
 keep:=fun i h h' st k=>by obtain⟨B,C,⟨u,v,r⟩,m,j⟩:=st;exact⟨k _ ⋯ _ B,k _ ⋯ _ C,⟨u,v,k _ ⋯ _ r⟩,m.at fun o e=>k _ ⋯ o e,j.at fun o e=>k _ ⋯ o e⟩
 item:=by
  intro X hP hw hK f i L s σ H E I U st hg;subst hP hw hK;obtain⟨B,C,⟨u,v,r⟩,m,j⟩:=st;obtain⟨xs,ys,x,y,T,F,hx,hy⟩:=hg;obtain⟨a2,Z,p,Q⟩:=I.list T;obtain⟨O,G,M,a3⟩:=I.list F;obtain⟨Y,a5,a1⟩:=Z.get hx;obtain⟨W,a4,a0⟩:=G.get hy;have D:=pT (x:=.none) (y:=.none) rfl rfl rfl rfl rfl B r m j p.isList M.isList;refine wpAny_pyNext_zip_item D B C r m j p.isList M.isList (x:=Y) (y:=W) (by simpa using a5) (by simpa using a4) fun h' z1 z2 z3 z4 J sz kp=>?_
  refine⟨_,rfl,wpAny_letOwnedTupleGo_zip z1 fun h2 a6 sb=>?_⟩;have R:∀c ∈ [n+4,n+2,n+3,n,n+1],s.heap.objs.size≠c:=fun c f e=>by
   have z:c=n+4\/c=n+2\/c=n+3\/c=n\/c=n+1:=by simpa using f
   have:∃o,s.heap.get? c=ε o:=by
    rcases z with z | z | z | z | z<;>subst z
    . exact⟨_,B⟩
    . exact⟨_,C⟩
    . exact⟨_,r⟩
    . obtain⟨o,g,_⟩:=m;exact⟨_,g⟩
    . obtain⟨o,g,_⟩:=j;exact⟨_,g⟩
   obtain⟨o,g⟩:=this;exact Ci (fu g) (by rw[e];exact Du _)
  have t2:h2.get? s.heap.objs.size=ε { cls:=.type "tuple",data:=.seq #[Y,W] }:=(sb.2 _ (R _ ⋯)).trans J;have kk:∀c o,c ∉ [n+4,n+2,n+3,n,n+1]->s.heap.get? c=ε o->h2.get? c=ε o:=fun c o f q=>by simp![zu,not_mem_nil,or_false,not_or]at f;exact(sb.2 c f.1).trans (kp c o f.1 f.2.2.1 f.2.2.2.1 f.2.2.2.2 q)
  have n2:IsPair h2 (n+2) (.ref n) (.ref (n+1)):=(sb.2 _ D.TIz).trans (kp _ _ D.TIz D.TITO D.TIi1 D.TIi2 C);refine⟨.ref s.heap.objs.size,xB H s.heap.objs.size (.tup [x,y]),I.hI kk U (Ra _) ⟨by simp![Qu,Ru];rw[Ao];decide,[Y,W],.cons a1 (.cons a0 .nil),⟨_,t2,rfl,_,rfl⟩⟩,rfl,
   ⟨_,x,y,I.hok.fresh (Ra _),rfl,fun zs Q=>by rw[I.dl Q T];exact hx,fun zs Q=>by rw[I.dl Q F];exact hy,rfl⟩,
   ⟨a6,n2,⟨_,_,(sb.2 _ D.TOz).trans z2⟩,z3.at fun o q=>(sb.2 _ D.i1z).trans q,z4.at fun o q=>(sb.2 _ D.i2z).trans q⟩,fun c f=>?_⟩
  rw[WA (m5 (R c f))];exact(U c f).1
 done:=by
  intro X hP hw hK f i L s σ H E I U st hg;subst hP hw hK;obtain⟨B,C,⟨u,v,r⟩,m,j⟩:=st;obtain⟨xs,ys,T,F,hx⟩:=hg;obtain⟨a2,Z,p,Q⟩:=I.list T;obtain⟨O,G,M,a3⟩:=I.list F;have hl:=Z.length;have a7:=G.length;have D:=pT (x:=.none) (y:=.none) rfl rfl rfl rfl rfl B r m j p.isList M.isList;refine wpAny_pyNext_zip_end (I.ok.hd f) D B C r m j p.isList M.isList ?_ fun h' eb=>⟨rfl,I.hL (t':=s.toks) (fp:=[n+4,n+2,n+3,n,n+1]) (fun c o f q=>?_) U⟩
  . rcases hx with hx | hx
    . exact .inl (by simp;omega)
    . exact .inr (by simp;omega)
  . simp![zu,not_mem_nil,or_false,not_or]at f;exact eb c o f.1 f.2.2.1 f.2.2.2.1 f.2.2.2.2 q
 self:=fun _ _ _ _ _ st h=>wpAny_pyIter_zip st.1 h
section
variable{X:Cx}
def Ul(K:Oi)(i:TA):TI:=fun e H R=>i e H fun h d=>∃a b,h=[.ref a,.ref b]/\(∃g,qq K d a g)/\(∃f,qq K d b f)/\R (Gm K a b) d
theorem X8 {i:Ms Oe} {x1} {L:Pos} {a b:Oe} {y:TA} {p pos:Pos} (Z:Gl X "zip") (Y:X.mg "zip" =none) (ha:PA X [a,b] y) (hs:autoParam (starEach [a,b] X.env=(false,eval a X.env)::starEach [b] X.env) Æ) (hpl:autoParam ((backTo pos (starEach [b] X.env)).any (·.1)=false) Æ) :
 PI X (.Tuple i x1 L) (.Call (.Name "zip" p) [a,b] [] pos) (Ul X.K y):=by
 intro g s o H R I h;refine Call_ (EG I Z Y boot_zip (PyProof.Rows.callWith_type1 (vB (ha pos g s o H _ I h) fun us f D=>?_) hs hpl));obtain⟨vs,C,j,O,Q⟩:=D;obtain⟨c,d,e,⟨xs,W⟩,⟨ys,n⟩,q⟩:=Q;subst e;obtain⟨u,u',rfl,r,P⟩:=VM O;cases r;cases P;obtain⟨S,rv,pl,hz⟩:=j.list W;obtain⟨B,M,m,T⟩:=j.list n;refine call_zip_2 pl.isList m.isList fun h' x J G F E U k=>?_
 have I2:py X g o C { f with heap:=h' }:=j.kept (t':=f.toks) k;refine wpAny_pyIter_zip x ?_;refine⟨f.heap.objs.size+4,[f.heap.objs.size+4,f.heap.objs.size+2,f.heap.objs.size+3,f.heap.objs.size,f.heap.objs.size+1],_,_,C,rfl,I2,Qt c d f.heap.objs.size,⟨x,J,⟨_,_,G⟩,F,E⟩,fun c hc=>?_,q⟩;have z:f.heap.objs.size<=c:=by
  have z:c=f.heap.objs.size+4\/c=f.heap.objs.size+2\/c=f.heap.objs.size+3\/c=f.heap.objs.size\/c=f.heap.objs.size+1:=by simpa using hc
  rcases z with z | z | z | z | z<;>rw[z]<;>first | exact Ra _ | exact Ku _ _
 exact j.bv z (j.hok.fresh z)
end
end L2
namespace SM
section
variable{X:Cx}{e o i a b:Oe}{f g fe fo t fa fb:RE}{p pos m:Pos}
theorem F7 (x:X.calm=true) (u:Gl X "any") (s:X.mg "any" =none) (y:EM X e f) (hs:autoParam (nB e=true) Æ):EM X (.Call (.Name "any" p) [e] [] pos) (YB qN f):=by
 unhygienic
  exact FK (Vw x) (fun j h d v E D H Q S R e k=>by
   obtain⟨n,B,e⟩:=oA e;cases q:oG n with
   | none=>rw[q]at e;cases e
   | some ns=>
    rw[q]at e;cases e;obtain⟨a,C,z,sq,r⟩:=FD S R B;rw[YT q]at r;rw[r.fx]at sq;exact⟨a,ns,by rw[z],sq,k j _ H (Vi.mpr rfl) S (qc.refl _ _)⟩) u s PyProof.Rows.boot_any y (hs:=hs)
theorem cP(he:EM X e fe)(Z:EM X o fo)(hi:EM X i t)
 (hs:autoParam (swapsWithSole [.Subscript o i m] e pos.line X.env=pure false) Æ) (hw:autoParam (swappedStores [.Subscript o i m] e X.env=pure none) Æ) (h1:autoParam ((assignEach [.Subscript o i m] X.env).map (·.2)=[assign (.Subscript o i m) X.env]) Æ)
 (s:∀v,assign (.Subscript o i m) X.env v=(do
  let ov <- holding [v] (eval o X.env)
  let iv <- holding [v,ov] (eval i X.env)
  standAt m
  holding [v,ov,iv] (setItem ov iv v)
  release [v,ov,iv] []):=by intro _;rfl):ZM X (.Assign [.Subscript o i m] e pos) (mJ fe fo t):=by
 unhygienic
  exact PS.imp (Y8 he (P6 Z hi yt s) hs hw h1) fun D T H J=>by
   obtain⟨U,l,h,r,S,L,e,k⟩:=J;obtain⟨⟨v,P⟩,e1,e⟩:=oA e;obtain⟨⟨d,hd⟩,e2,e⟩:=oA e;obtain⟨⟨j,hj⟩,e3,e⟩:=oA e;refine⟨U,l,h,v,P,S,L,e1,fun I u H1 R1 S1 E=>⟨I,l,P,d,hd,S1,L.ext E,e2,fun G y H2 R2 S2 C=>⟨G,l,hd,j,hj,S2,L.ext (E.trans C),e3,fun F z H3 R3 R B=>?_⟩⟩⟩;cases d with
   | ref n=>
    cases j with
    | int Y=>
     dsimp only at e;split at e
     . rename_i xs q;obtain⟨O,e4,e⟩:=oA e;cases e;obtain⟨aa,J,s⟩:=Xu.mp (Qi.ext B _ R2);obtain⟨W,x,Q⟩:=R.lst s q;have M:=jo s;refine⟨aa,W,Y,O,J,Ti.mp R3,x,by rw[Q.length];exact e4,?_⟩;exact k F T _ (R.write s (XH x) ⟨_,AC,(Q.set O (Qi.ext (C.trans B) _ R1)).ext (qc.write M (XH x))⟩) (L.ext (E.trans (C.trans (B.trans (qc.write M (XH x)))))) (E.trans (C.trans (B.trans (qc.write M (XH x)))))
     . cases e
    | _=>cases e
   | _=>cases e
theorem yY{d:Type}(v:d):∀k:Nat,(List.replicate k [v]).flatten=List.replicate k v
 | 0=>rfl
 | k+1=>by rw[Ke,flatten_cons,yY v k];rfl
theorem nZ{K:Oi}{H:Hp}{ρ:Rg}{d:Dt}{v:V}(r:Qi K H ρ d v):∀k:Nat,Qe K H ρ (List.replicate k d) (List.replicate k v)
 | 0=>.nil
 | k+1=>.cons r (nZ r k)
theorem gZ{J:L2.St}{H:Hp}{Q:VK}(own:Bool)(h:tM X.K (if own=true then EK fa fb else SH fa fb) J H Q):hW eW (fW (Q3 (tM X.K fa) gW)) (tM X.K fb) J H Q:=by
 obtain⟨R,l,h,d,U,S,L,e,k⟩:=h;have W:∃r s u n i,fa l h=ε (r,s)/\fb l s=ε (u,n)/\u=.int i/\(-(2^62)<=i/\i<=1000000)/\(if own=true then(Dt.ref n.length,n++[.lst (tH r i)])else(Dt.lst (tH r i),n))=(d,U):=by
  cases own with
  | true=>
   rw[dh rfl]at e;obtain⟨⟨r,s⟩,C,e⟩:=oA e;obtain⟨⟨u,n⟩,e2,e⟩:=oA e;cases u with
   | int i=>obtain⟨c,e⟩:=JE e;exact⟨r,s,_,n,i,C,e2,rfl,c,e⟩
   | _=>cases e
  | false=>
   rw[dG Va]at e;obtain⟨⟨r,s⟩,C,e⟩:=oA e;obtain⟨⟨u,n⟩,e2,e⟩:=oA e;cases u with
   | int i=>obtain⟨c,e⟩:=JE e;exact⟨r,s,_,n,i,C,e2,rfl,c,e⟩
   | _=>cases e
 obtain⟨r,s,u,n,i,C,e2,rfl,c,D⟩:=W;refine⟨R,l,h,r,s,S,L,C,fun F v H1 Y M P=>⟨by simp![Qu,Ru];rw[Ao];decide,fun q B=>?_⟩⟩;refine⟨F,l,s,.int i,n,M.fresh B,L.ext (P.trans (qc.fresh B)),e2,fun x y Z R2 E I=>?_⟩;have T:=I.keep q _ AC (M.out B).1;have hi:i.toNat<=1000000:=by omega
 refine⟨q,i,[v],rfl,Ti.mp R2,T,by omega,by omega,by simp![Qu,Ru];rw[Ao];omega,fun q2 j=>?_⟩;rw[yY];have G:Qe X.K Z x (tH r i) (List.replicate i.toNat v):=nZ (Qi.ext ((qc.fresh B).trans I) _ Y) _;have O:=P.trans ((qc.fresh B).trans I);cases own with
 | true=>rw[dh rfl]at D;cases D;exact k _ _ _ (qI E G j).1 (qI E G j).2 (O.trans (qc.own j))
 | false=>rw[dG Va]at D;cases D;exact k x _ _ (DM E G j) (E.fresh j) (O.trans (qc.fresh j))
theorem PU(j:EM X a fa)(d:EM X b fb)(hs:autoParam (nB a=true) Æ):EM X (.BinOp (.List [a] p) .Mult b pos) (SH fa fb):=by unhygienic exact PE.imp (FV Y0 (qP (wC j MD (aB hs _ _))) d) fun k H Q h=>gZ (fa:=fa) (fb:=fb) false h
theorem CZ(j:EM X a fa)(d:EM X b fb)(hs:autoParam (nB a=true) Æ):EM X (.BinOp (.List [a] p) .Mult b pos) (EK fa fb):=by unhygienic exact PE.imp (FV Y0 (qP (wC j MD (aB hs _ _))) d) fun k H Q h=>gZ (fa:=fa) (fb:=fb) true h
theorem W7 {I:Ms Oe} {x1} {tp:Pos} (hg:Gl X "zip") (hm:X.mg "zip" =none) (ha:EM X a fa) (hb:EM X b fb) (hs:autoParam (nB a=true) Æ) (G:autoParam (nB b=true) Æ):IM X (.Tuple I x1 tp) (.Call (.Name "zip" p) [a,b] [] pos) (tQ fa fb):=by
 unhygienic
  refine PI.imp (X8 hg hm (wC ha (wC hb MD (aB G _ _)) (aB hs _ _)) (aB hs _ _) (iI (by rw[Js,G];rfl))) fun σ H R zz=>?_
  obtain⟨ρ,l,h,s,h',S,L,e,k⟩:=zz;obtain⟨⟨d1,h1⟩,e1,e⟩:=oA e;obtain⟨⟨d2,h2⟩,e2,e⟩:=oA e;refine⟨ρ,l,h,d1,h1,S,L,e1,fun Y v H1 R1 S1 E1=>⟨Y,l,h1,d2,h2,S1,L.ext E1,e2,fun W u H2 R2 S2 E2=>?_⟩⟩;dsimp only at e;split at e
  . rename_i xs ys q1 q2;cases e;have J:=Qi.ext E2 _ R1;obtain⟨c,vs,z1,t1,_⟩:=FD S2 J q1;obtain⟨d,ws,Z,t2,_⟩:=FD S2 R2 q2;refine⟨c,d,by rw[z1,Z],⟨vs,t1⟩,⟨ws,t2⟩,k W _ H2 (fun H3 a1 h3 E3 r n=>?_) S2 (E1.trans E2)⟩;have B:=Qi.same E3 _ J;have x:=Qi.same E3 _ R2;simp![qi.at];split
    . trivial
    . rename_i y;split at y
      . rename_i F E w1 w2;obtain⟨c2,q,D,O,r3⟩:=FD r B w1;obtain⟨d2,j,C,M,r4⟩:=FD r x w2;rw[z1]at D;rw[Z]at C;cases D;cases C;refine⟨q,j,O,M,?_⟩;have y:=nW y;rw[r3.length,r4.length];split at y
        . cases y
        . rename_i a0;by_cases U:F.length<=n
          . exact .inl U
          . by_cases T:E.length<=n
            . exact .inr T
            . exact Ci (iu (Nat.lt_of_not_le T)) (a0 _ _ (iu (Nat.lt_of_not_le U)))
      . cases y
    . rename_i dd y;split at y
      . rename_i F E w1 w2;obtain⟨c2,q,D,O,r3⟩:=FD r B w1;obtain⟨d2,j,C,M,r4⟩:=FD r x w2;rw[z1]at D;rw[Z]at C;cases D;cases C;have y:=nW y;split at y
        . rename_i x' y' U T;cases y;obtain⟨vx,m1,n1⟩:=r3.get U;obtain⟨vy,m2,n2⟩:=r4.get T;refine⟨⟨q,j,vx,vy,O,M,m1,m2⟩,fun u H4 y=>?_⟩;obtain⟨p0,x0,y0,hp,rfl,Q,P,rfl⟩:=y;have Q:=Q q O;have P:=P j M;rw[m1]at Q;rw[m2]at P;cases Q;cases P;exact⟨oJ r (.cons n1 (.cons n2 .nil)) hp,qc.fresh hp,r.fresh hp⟩
        . cases y
      . cases y
  . cases e
end
section
variable{K:Oi}{H:Hp}{ρ:Rg}{h:HI}
theorem Rr.bare(S:Rr K ρ h H):Rr K ⟨[],ρ.z⟩ [] H:=⟨nodup_nil,rfl,fun _ _ _ e=>by simp at e,fun a b=>⟨by simp,(S.zt a b).2⟩⟩
theorem NO{f:Dt->Ni Dt}(a:∀d b v,f d=ε b->Qi K H ρ d v->Qi K H ⟨[],ρ.z⟩ b v):∀(xs:Ms Dt){ys:Ms Dt}{vs:Ms V},XB f xs=ε ys->Qe K H ρ xs vs->Qe K H ⟨[],ρ.z⟩ ys vs
 | [],ys,vs,e,r=>by cases e;rw[r.ag];exact .nil
 | x::xs,ys,vs,e,r=>by
  obtain⟨v,k,rfl,i,g⟩:=r.Xe;obtain⟨y,j,e⟩:=oA (show(f x).bind _=ε ys from e);cases q:XB f xs with
  | none=>rw[q]at e;cases e
  | some zs=>rw[q]at e;cases e;exact .cons (a _ _ _ j i) (NO a xs q g)
theorem rc.bare{a:Oa}{vs:Ms V}(t:rc K H ρ a vs):rc K H ⟨[],ρ.z⟩ a vs:=by
 rcases t with⟨n,t⟩ | t
 . exact .inl ⟨⟨by simp,n.2⟩,t⟩
 . exact .inr t
theorem rd.bare{a:Oa}{vs:Ms V}(t:rd K H ρ a vs):rd K H ⟨[],ρ.z⟩ a vs:=by
 rcases t with⟨n,t⟩ | t
 . exact .inl ⟨⟨by simp,n.2⟩,t⟩
 . exact .inr t
theorem SL(S:Rr K ρ h H):∀(n:Nat)(d d':Dt)(v:V),LA h n d=ε d'->Qi K H ρ d v->Qi K H ⟨[],ρ.z⟩ d' v
 | 0,_,_,_,e,_=>by simp[LA]at e
 | n+1,.non,_,_,e,r=>by simp![LA]at e;cases e;simp![Qi]at r ⊢;exact r
 | n+1,.bl _,_,_,e,r=>by simp![LA]at e;cases e;simp![Qi]at r ⊢;exact r
 | n+1,.int _,_,_,e,r=>by simp![LA]at e;cases e;simp![Qi]at r ⊢;exact r
 | n+1,.str _,_,_,e,r=>by simp![LA]at e;cases e;simp![Qi]at r ⊢;exact r
 | n+1,.tup b,_,_,e,r=>by
  simp![LA]at e;cases q:XB (LA h n) b with
  | none=>rw[q]at e;cases e
  | some i=>rw[q]at e;cases e;obtain⟨a,f,z,t,g⟩:=Wo.mp r;exact Wo.mpr ⟨a,f,z,t.bare,NO (fun d d' v=>SL S n d d' v) b q g⟩
 | n+1,.lst b,_,_,e,r=>by
  simp![LA]at e;cases q:XB (LA h n) b with
  | none=>rw[q]at e;cases e
  | some i=>rw[q]at e;cases e;obtain⟨a,f,z,t,g⟩:=Xi.mp r;exact Xi.mpr ⟨a,f,z,t.bare,NO (fun d d' v=>SL S n d d' v) b q g⟩
 | n+1,.ntp m,_,_,e,r=>by simp![LA]at e;cases e
 | n+1,.ref m,_,_,e,r=>by
  simp![LA]at e;split at e
  . rename_i b k;cases q:XB (LA h n) b with
    | none=>rw[q]at e;cases e
    | some i=>rw[q]at e;cases e;obtain⟨a,z,j⟩:=Xu.mp r;obtain⟨f,s,p⟩:=S.lst j k;refine Xi.mpr ⟨a,f,z,.inl ⟨⟨by simp,fun o=>(S.zt a o).1 (jo j)⟩,.inl s⟩,NO (fun d d' v=>SL S n d d' v) b q p⟩
  . cases e
theorem Rr.grown{H':Hp}(S:Rr K ρ h H)(g:∀a o,H a=ε o->H' a=ε o):Rr K ρ h H':=by
 have sm:DF ρ ρ H H':=⟨fun _ _ _ n=>n,fun a u e _=>g a u e,fun _ _ e=>e,fun a q u e=>g a _ e⟩;refine⟨S.nd,S.len,fun n a o f e2=>?_,fun a d=>?_⟩
 . have q:=S.ob n a o f e2;obtain⟨u,b⟩:=q.some;exact ay.same sm ((g a u b).trans b.symm) q
 . obtain⟨n,o,e⟩:=S.zt a d;exact⟨n,o,g a _ e⟩
end
section
variable{X:Cx}
theorem X0{f:Mu->Mu->Sem Mu}{op:OD}(G:∀a b h d p,op a b h=ε (d,p)->∃k,d=.bl k)(F:OM X f op):OM X f (fun a b h=>(LA h 8 a).bind fun j=>(LA h 8 b).bind fun i=>(op j i []).map fun r=>(r.1,h)):=by
 unhygienic
  exact qv.imp F fun x y H Q D=>by
   obtain⟨n,h,P,O,d,p,S,J,R2,e,k⟩:=D;obtain⟨j,I,e⟩:=oA e;obtain⟨i,e2,e⟩:=oA e;cases q:op j i []with
   | none=>rw[q]at e;cases e
   | some r=>
    obtain⟨r,E⟩:=r;rw[q]at e;cases e;refine⟨⟨[],n.z⟩,[],j,i,r,E,S.bare,SL S _ _ _ _ I J,SL S _ _ _ _ e2 R2,q,fun C v s L R B=>?_⟩;obtain⟨M,rfl⟩:=G _ _ _ _ _ q;have g:∀a o,H a=ε o->s a=ε o:=fun a o m=>B.keep a o m ⋯
    exact k n v s (Vi.mpr (Vi.mp L)) (S.grown g) ⟨⟨[],by simp,by simp⟩,rfl,fun a o m _=>g a o m,B.live,fun a q u e=>g a _ e⟩
theorem N7(a b:Dt)(h:HI)(d:Dt)(h':HI)(e:RB a b h=ε (d,h')):∃k,d=.bl k:=by
 unfold RB at e;split at e
 . obtain⟨_,e⟩:=JE e;cases e;exact⟨_,rfl⟩
 . obtain⟨_,e⟩:=JE e;cases e;exact⟨_,rfl⟩
 . unfold A4 at e;split at e
   . obtain⟨_,e⟩:=JE e;cases e;exact⟨_,rfl⟩
   . cases e
theorem b7(a b:Dt)(h:HI)(d:Dt)(h':HI)(e:QC a b h=ε (d,h')):∃k,d=.bl k:=by
 unfold QC at e;split at e
 . obtain⟨_,e⟩:=JE e;cases e;exact⟨_,rfl⟩
 . obtain⟨_,e⟩:=JE e;cases e;exact⟨_,rfl⟩
 . unfold B4 at e;split at e
   . obtain⟨_,e⟩:=JE e;cases e;exact⟨_,rfl⟩
   . cases e
theorem uK(a:X.A.units+64<cLine):OM X (compareOp .Eq) gE:=X0 N7 (OE a)
theorem HM(a:X.A.units+64<cLine):OM X (compareOp .NotEq) RC:=X0 b7 (GH a)
end
section
variable{X:Cx}{e o i a b:Oe}{f g fe fo fi fa fb:RE}{p pos pos' w s:Pos}
theorem yO (ho:EM X a fa) (hb:EM X b fb) (q:autoParam (attributeBase a "extend" X.env (eval a X.env)=eval a X.env) Æ)
 (j:autoParam ((w.endLine==s.line)=true) Æ) (hs:autoParam (nB b=true) Æ) :
 EM X (.Call (.Attribute a "extend" w) [b] [] s) (jJ fa fb):=by
 unhygienic
  exact PE.imp (EV PySem.F.plainAttrs_list PySem.F.slot_list_extend PySem.F.type_list_extend Qy ho (wC hb MD (aB hs _ _)) q (NT hs) j (aB hs _ _)) fun σ H Q W=>by
   obtain⟨U,l,h,d,h',S,L,e,k⟩:=W;obtain⟨⟨M,F⟩,e1,e⟩:=oA e;refine⟨U,l,h,M,F,S,L,e1,fun C v H1 P O T=>?_⟩;cases M with
   | ref n=>
    dsimp only at e;split at e
    . rename_i Z q0;obtain⟨⟨J,h2⟩,e2,e⟩:=oA e;refine⟨IU O P q0,C,l,F,J,h2,O,L.ext T,e2,fun B y H2 R2 D R=>?_⟩;dsimp only at e;cases J with
      | ref m=>
       dsimp only at e;split at e
       . rename_i xs ys q1 q2;obtain⟨hz,e⟩:=JE e;cases e;obtain⟨a,z,ha⟩:=Xu.mp P;subst z;obtain⟨a2,Y,u⟩:=Xu.mp R2;subst Y;have r:=R.get ha;obtain⟨vs,x,I⟩:=D.lst r q1;obtain⟨ws,g3,G⟩:=D.lst u q2;have E:=jo r;refine⟨a,a2,vs,ws,rfl,rfl,x,g3,by rw[I.length,G.length];exact hz,k B _ _ (Zi.mpr rfl) (D.write r (XH x) ⟨_,AC,?_⟩) (T.trans (R.trans (qc.write E (XH x))))⟩;exact(I.append G).ext (qc.write E (XH x))
       . cases e
      | _=>cases e
    . cases e
   | _=>cases e
theorem Kh (ho:EM X a fa) (hb:EM X b fb) (m:autoParam (attributeBase a "pop" X.env (eval a X.env)=eval a X.env) Æ)
 (j:autoParam ((w.endLine==s.line)=true) Æ) (hs:autoParam (nB b=true) Æ) :
 EM X (.Call (.Attribute a "pop" w) [b] [] s) (uP fa fb):=by
 unhygienic
  exact PE.imp (EV PySem.F.plainAttrs_list PySem.F.slot_list_pop PySem.F.type_list_pop Qg ho (wC hb MD (aB hs _ _)) m (NT hs) j (aB hs _ _)) fun σ H Q R=>by
   obtain⟨P,l,h,d,h',S,L,e,k⟩:=R;obtain⟨⟨G,F⟩,e1,e⟩:=oA e;refine⟨P,l,h,G,F,S,L,e1,fun B v H1 J I O=>?_⟩;cases G with
   | ref n=>
    dsimp only at e;split at e
    . rename_i T q0;obtain⟨⟨d2,h2⟩,e2,e⟩:=oA e;refine⟨IU I J q0,B,l,F,d2,h2,I,L.ext O,e2,fun u y H2 R2 D M=>?_⟩;dsimp only at e;split at e
      . rename_i z0;split at e
        . rename_i x xs Z;cases e;obtain⟨a,z,ha⟩:=Xu.mp J;subst z;have q:=M.get ha;obtain⟨vs,r,g2⟩:=D.lst q Z;have C:=jo q;obtain⟨E,U,rfl,Y,W⟩:=g2.Xe;have a0:=D.len;refine⟨a,E::U,0,0,E,rfl,by rw[Ti.mp R2],r,by decide,by decide,?_,rfl,k u _ _ (Qi.ext (qc.write C (XH r)) _ Y) (D.write q (XH r) ⟨_,AC,?_⟩) (O.trans (M.trans (qc.write C (XH r))))⟩
          . rw[seqIndex_of (by decide) (by simp![Qu];omega)];rfl
          . exact W.ext (qc.write C (XH r))
        . cases e
      . cases e
    . cases e
   | _=>cases e
theorem G7(r:EM X a fa):EM X (.UnaryOp .Invert a pos) (DN fa):=by
 unhygienic
  exact PE.imp (J3 G8 r) fun F H Q q=>by
   obtain⟨n,l,h,d,G,S,L,e,k⟩:=q;obtain⟨⟨m,u⟩,y,e⟩:=oA e;refine⟨n,l,h,m,u,S,L,y,fun j x D C B E=>?_⟩;cases m with
   | int i=>cases e;exact⟨i,Ti.mp C,k j _ D (Ti.mpr rfl) B E⟩
   | _=>cases e
theorem YY{c:Oe}{body:Ms Ou}{t:RT}{u:RS}{n:Nat}(hp:PassesOwn (model X.prog X.w) X.A X.env X.xe)(hc:TM X c t)(hb:CI X body u):ZM X (.While c body [] pos) (sP n t u):=by
 unhygienic
  exact PS.imp (yg hp hc hb) fun D σ H zz=>by
   obtain⟨Y,l,h,r,S,L,e,k⟩:=zz;refine⟨fun m C W=>∃d y E,Rr X.K d E W/\Ws X.K W d y C/\qc Y d H W/\kG t u m y E=ε r,⟨n,Y,l,h,S,L,qc.refl _ _,e⟩,?_⟩;rintro m C W ⟨d,y,E,S',Z,R,x⟩;cases m with
   | zero=>simp![kG]at x;cases x
   | succ m=>
    simp![kG]at x;obtain⟨⟨b,h1⟩,e1,x⟩:=oA x;refine⟨d,y,E,b,h1,S',Z,e1,fun M H2 S2 I=>?_⟩;cases b with
    | true=>
     rw[dh rfl]at x;obtain⟨r1,e2,x⟩:=oA x;refine sH ⟨fun J U=>∃m',m'<m+1/\∃d y E,Rr X.K d E U/\Ws X.K U d y J/\qc Y d H U/\kG t u m' y E=ε r,fun J U q=>q,M,y,h1,r1,S2,Z.ext I,e2,?_⟩;cases r1 with
     | nx T O=>exact fun j B Q F P G=>⟨m,vm _,j,T,O,F,P,R.trans (I.trans G),x⟩
     | ct T O=>exact fun j B Q F P G=>⟨m,vm _,j,T,O,F,P,R.trans (I.trans G),x⟩
     | bk T O=>cases x;exact fun j B Q F P G=>k j B Q F P (R.trans (I.trans G))
     | rt d2 O=>cases x;exact fun j v5 Q R5 F G=>k j v5 Q R5 F (R.trans (I.trans G))
    | false=>rw[dG Va]at x;cases x;exact rH (k M C H2 S2 (Z.ext I) (R.trans I))
theorem Ed (G:X.calm=true) (F:Gl X "max") (E:X.mg "max" =none) (J:EM X a fa) (I:EM X b fb) (hs:autoParam (nB a=true) Æ) (m:autoParam (nB b=true) Æ):EM X (.Call (.Name "max" p) [a,b] [] pos) (pQ IP fa fb):=by
 unhygienic
  exact PE.imp (eK (Xw G) F E PyProof.Rows.boot_max (wC J (wC I MD (aB m _ _)) (aB hs _ _)) (he:=aB hs _ _) (hpl:=iI (by rw[Js,m];rfl))) fun Y H Q D=>by
   obtain⟨C,l,h,d,Z,S,L,e,k⟩:=D;obtain⟨⟨y,r⟩,O,e⟩:=oA e;obtain⟨⟨x,M⟩,e2,e⟩:=oA e;refine⟨C,l,h,y,r,S,L,O,fun q v H1 T R B=>⟨q,l,r,x,M,R,L.ext B,e2,fun n u U R2 P W=>?_⟩⟩;cases y with
   | int i=>
    cases x with
    | int j=>cases e;exact⟨i,j,by rw[Ti.mp T,Ti.mp R2],k n _ U (Ti.mpr rfl) P (B.trans W)⟩
    | _=>cases e
   | _=>cases e
theorem Gd (G:X.calm=true) (F:Gl X "min") (E:X.mg "min" =none) (J:EM X a fa) (I:EM X b fb) (hs:autoParam (nB a=true) Æ) (m:autoParam (nB b=true) Æ):EM X (.Call (.Name "min" p) [a,b] [] pos) (pQ GK fa fb):=by
 unhygienic
  exact PE.imp (eK (Zw G) F E PyProof.Rows.boot_min (wC J (wC I MD (aB m _ _)) (aB hs _ _)) (he:=aB hs _ _) (hpl:=iI (by rw[Js,m];rfl))) fun Y H Q D=>by
   obtain⟨C,l,h,d,Z,S,L,e,k⟩:=D;obtain⟨⟨y,r⟩,O,e⟩:=oA e;obtain⟨⟨x,M⟩,e2,e⟩:=oA e;refine⟨C,l,h,y,r,S,L,O,fun q v H1 T R B=>⟨q,l,r,x,M,R,L.ext B,e2,fun n u U R2 P W=>?_⟩⟩;cases y with
   | int i=>
    cases x with
    | int j=>cases e;exact⟨i,j,by rw[Ti.mp T,Ti.mp R2],k n _ U (Ti.mpr rfl) P (B.trans W)⟩
    | _=>cases e
   | _=>cases e
end
end SM
namespace L2
section
variable{X:Cx}
end
end L2
namespace SM
section
variable{X:Cx}{e o i a b:Oe}{f g fe fo fi fa fb:RE}{p pos pos' apos cpos:Pos}
end
end SM
namespace L2
section
variable{a:Type}[DecidableEq a]
noncomputable def nF(kvs:Ms (a×V))(k:a):Ni V:=(kvs.find? fun b=>decide (b.1=k)).map (·.2)
noncomputable def NF(kvs:Ms (a×V))(k:a)(v:V):Ms (a×V):=
 if(kvs.any fun b=>decide (b.1=k))=true then kvs.map (fun b=>if b.1=k then(b.1,v)else b)else kvs++[(k,v)]
noncomputable def om(kvs:Ms (a×V))(k:a):Ms (a×V):=kvs.filter fun b=>decide (b.1≠k)
theorem bP{p:a×V}{r:Ms (a×V)}{k:a}(e:p.1=k):nF (p::r) k=ε p.2:=by simp[nF,Ia,e]
theorem aP{p:a×V}{r:Ms (a×V)}{k:a}(e:¬p.1=k):nF (p::r) k=nF r k:=by simp[nF,Ia,e]
theorem WY(k:a):∀b:Ms (a×V),(b.any fun d=>decide (d.1=k))=(nF b k).isSome
 | []=>rfl
 | p::r=>by
  rw[Jo];by_cases e:p.1=k
  . simp![bP e,eO e,Bool.true_or,Option.isSome_some]
  . rw[aP e,eN e,Bool.false_or];exact WY k r
theorem RW(kvs:Ms (a×V))(k:a)(v:V):(NF kvs k v).length<=kvs.length+1:=by
 unfold NF;split
 . rw[lq];omega
 . rw[g8,Qu,Ru];omega
theorem af.gc{o:Ni V}{u:Ni Mu}(r:af o u):o.isSome=u.isSome:=by
 cases o with
 | none=>cases u with
  | none=>rfl
  | some _=>exact(show False from r).elim
 | some _=>cases u with
  | none=>exact(show False from r).elim
  | some _=>rfl
theorem af.getD{o:Ni V}{u:Ni Mu}{d:V}{d':Mu}(r:af o u)(b:qf d d'):qf (o.getD d) (u.getD d'):=by
 cases o with
 | none=>cases u with
  | none=>exact b
  | some _=>exact(show False from r).elim
 | some _=>cases u with
  | none=>exact(show False from r).elim
  | some _=>exact r
theorem KV.val{kvs:Ms (a×V)}{vs:Ms (a×Mu)}(r:KV kvs vs)(k:a):af (nF kvs k) (valueAt vs k):=by
 unfold KV at r
 induction r with
 | nil=>exact Ja
 | @cons p q j d h t ih=>
  obtain⟨g,i⟩:=h;by_cases e:p.1=k
  . have f:q.1=k:=g.symm.trans e;have b:valueAt (q::d) k=ε q.2:=by simp[valueAt,Ia,f]
    rw[bP e,b];exact i
  . have f:¬q.1=k:=fun z=>e (g.trans z)
    have b:valueAt (q::d) k=valueAt d k:=by simp[valueAt,Ia,f]
    rw[aP e,b];exact ih
theorem KV.any{kvs:Ms (a×V)}{vs:Ms (a×Mu)}(r:KV kvs vs)(k:a):(kvs.any fun b=>decide (b.1=k))=vs.any fun b=>decide (b.1=k):=by
 unfold KV at r
 induction r with
 | nil=>rfl
 | cons h t ih=>rw[Jo,Jo,ih,h.1]
theorem KV.repl{kvs:Ms (a×V)}{vs:Ms (a×Mu)}(r:KV kvs vs)(k:a){y:V}{u:Mu}(f:qf y u) :
 KV (kvs.map fun b=>if b.1=k then(b.1,y)else b) (vs.map fun b=>if b.1=k then(b.1,u)else b):=by
 unfold KV at r ⊢
 induction r with
 | nil=>exact .nil
 | @cons p q j i h t ih=>
  rw[Qs,Qs];refine .cons ?_ ih;obtain⟨d,g⟩:=h;by_cases e:p.1=k
  . rw[dh e,dh (d.symm.trans e)];exact⟨d,f⟩
  . rw[dG e,dG (fun z=>e (d.trans z))];exact⟨d,g⟩
theorem KV.put{kvs:Ms (a×V)}{vs:Ms (a×Mu)}(r:KV kvs vs)(k:a){y:V}{u:Mu}(b:qf y u):KV (NF kvs k y) (stored vs k u):=by
 unfold NF stored;rw[r.any k];by_cases e:(vs.any fun d=>decide (d.1=k))=true
 . rw[dh e,dh e];exact r.repl k b
 . rw[dG e,dG e];exact Paired.snoc r ⟨rfl,b⟩
theorem KV.length{kvs:Ms (a×V)}{vs:Ms (a×Mu)}(r:KV kvs vs):kvs.length=vs.length:=Paired.length r
end
theorem YM{P:Oo}{w:O4}{k:fC}{u:Mu}(r:qf (kV k) u):(KE P w).is k u=true:=by
 cases k with
 | inl i=>obtain⟨t,e⟩:=(show ∃t,u=Value.int i t from r);subst e;exact Vx P w i t
 | inr x=>obtain⟨t,e⟩:=(show ∃t,u=Value.str x t from r);subst e;exact Wx P w x t
theorem PX{P:Oo}{w:O4}:∀{a:Ms fC}{us:Ms Mu},p3 (a.map kV) us->ItemsAre (KE P w) a us
 | [],_,r=>by rw[Uu]at r;cases r;exact .nil
 | k::a,_,r=>by
  rw[Qs]at r;cases r with
  | cons h t=>exact .cons (YM h) (PX t)
abbrev KT(H:Hp):Ms (Ms fC×V)->Ms (Ms fC×Oa×Mu)->Prop:=Paired fun p q=>p.1=q.1/\H q.2.1=ε (.tup (p.1.map kV))/\qf p.2 q.2.2
theorem KT.val{H:Hp}{kvs:Ms (Ms fC×V)}{xs:Ms (Ms fC×Oa×Mu)}(r:KT H kvs xs)(k:Ms fC):af (nF kvs k) ((atKey xs k).map (·.2)):=by
 induction r with
 | nil=>exact Ja
 | @cons p q i a h t ih=>
  obtain⟨f,_,g⟩:=h;by_cases e:p.1=k
  . have d:q.1=k:=f.symm.trans e;have b:atKey (q::a) k=ε q.2:=by simp[atKey,Ia,d]
    rw[bP e,b];exact g
  . have d:¬q.1=k:=fun z=>e (f.trans z)
    have b:atKey (q::a) k=atKey a k:=by simp[atKey,Ia,d]
    rw[aP e,b];exact ih
theorem KT.repl{H:Hp}{kvs:Ms (Ms fC×V)}{xs:Ms (Ms fC×Oa×Mu)}(r:KT H kvs xs)(k:Ms fC){y:V}{u:Mu}(f:qf y u) :
 KT H (kvs.map fun b=>if b.1=k then(b.1,y)else b) (xs.map (putAt k u)):=by
 induction r with
 | nil=>exact .nil
 | @cons p q j i h t ih=>
  rw[Qs,Qs];refine .cons ?_ ih;obtain⟨a,d,g⟩:=h;unfold putAt;by_cases e:p.1=k
  . rw[dh e,dh (a.symm.trans e)];exact⟨a,d,f⟩
  . rw[dG e,dG (fun z=>e (a.trans z))];exact⟨a,d,g⟩
theorem KT.put{H:Hp}{kvs:Ms (Ms fC×V)}{xs:Ms (Ms fC×Oa×Mu)}(r:KT H kvs xs)(k:Ms fC){b:Oa}{y:V}{u:Mu}(f:H b=ε (.tup (k.map kV)))(a:qf y u) :
 KT H (NF kvs k y) (storedH xs k b u):=by
 have e:(kvs.any fun d=>decide (d.1=k))=(atKey xs k).isSome:=by rw[WY,(r.val k).gc,Option.isSome_map]
 unfold NF storedH;rw[e];by_cases q:(atKey xs k).isSome=true
 . rw[dh q,dh q];exact r.repl k a
 . rw[dG q,dG q];exact Paired.snoc r ⟨rfl,f,a⟩
theorem KT.keeps{H d:Hp}{kvs:Ms (Ms fC×V)}{xs:Ms (Ms fC×Oa×Mu)}(r:KT H kvs xs)(e:∀b a,H b=ε (.tup a)->d b=ε (.tup a)):KT d kvs xs:=
 Paired.zdt r fun _ _ z=>⟨z.1,e _ _ z.2.1,z.2.2⟩
section
variable{P:Oo}{w:O4}{H:Hp}{h:Pu}{a:Oa}
theorem N3{u:HO}(ok:rg P w H h)(e:Rd H a u):Xa P w H h a u:=e.ok ok
theorem CK{kvs:Ms (fC×V)}(ok:rg P w H h)(e:Rd H a (.dK kvs)):kvs.length<=sizeLine/\(a==sysModules)=false/\∃vs,KV kvs vs/\h.DictOf (KE P w) a vs:=
 show Xa P w H h a (.dK kvs)from N3 ok e
theorem Q8{kvs:Ms (fC×V)}(ok:rg P w H h)(e:H a=ε (.dK kvs)):kvs.length<=sizeLine/\(a==sysModules)=false/\∃vs,KV kvs vs/\h.DictOf (KE P w) a vs:=CK ok (.inl e)
theorem wM{b:Ms fC}(ok:rg P w H h)(e:H a=ε (.tup (b.map kV))):(tupleKind (KE P w)).is h b a:=by obtain⟨_,d,r,o,i,g,n,f⟩:=(show Xa P w H h a (.tup (b.map kV))from ok a _ e);exact⟨o,d.toArray,n,i,g,f,by simpa using PX r⟩
theorem DK{kvs:Ms (Ms fC×V)}(ok:rg P w H h)(e:Rd H a (.dT kvs)):kvs.length<=sizeLine/\(a==sysModules)=false/\
 ∃xs,KT H kvs xs/\h.DictOfH (tupleKind (KE P w)) a xs:=by
 obtain⟨z,y,xs,r,o,k,n,j,i,g,f,d⟩:=(show Xa P w H h a (.dT kvs)from N3 ok e);refine⟨z,y,xs,r,o,k,n,j,i,g,f,fun x hx=>?_,d⟩;have all:∀{l:Ms (Ms fC×V)}{m:Ms (Ms fC×Oa×Mu)},KT H l m->∀x∈m,(tupleKind (KE P w)).is h x.1 x.2.1:=by
  intro l m q
  induction q with
  | nil=>intro x hx;exact nomatch hx
  | @cons p q u s b t ih=>
   intro x hx;rcases zu.mp hx with e | hx
   . subst e;exact wM ok (by rw[<- b.1];exact b.2.1)
   . exact ih x hx
 exact all r x hx
theorem R8{kvs:Ms (Ms fC×V)}(ok:rg P w H h)(e:H a=ε (.dT kvs)):kvs.length<=sizeLine/\(a==sysModules)=false/\
 ∃xs,KT H kvs xs/\h.DictOfH (tupleKind (KE P w)) a xs:=DK ok (.inl e)
end
def az(H:Hp)(a:Oa)(y:V)(r:Ni V):Prop:=
 (∃d k,Rd H a (.dK d)/\y=kV k/\r=nF d k)\/∃d k b,Rd H a (.dT d)/\y=.ref b/\H b=ε (.tup (k.map kV))/\r=nF d k
def dq(H:Hp)(a:Oa)(y v:V)(e:Hp):Prop:=
 (∃d k,H a=ε (.dK d)/\y=kV k/\d.length<sizeLine/\e=xB H a (.dK (NF d k v)))\/
 ∃d k b,H a=ε (.dT d)/\y=.ref b/\H b=ε (.tup (k.map kV))/\d.length<sizeLine/\e=xB H a (.dT (NF d k v))
theorem az.t{H:Hp}{a b:Oa}{kvs:Ms (Ms fC×V)}{k:Ms fC}(e:H a=ε (.dT kvs))(d:H b=ε (.tup (k.map kV))):az H a (.ref b) (nF kvs k):=.inr ⟨kvs,k,b,.inl e,rfl,d,rfl⟩
theorem dq.t{H:Hp}{a b:Oa}{kvs:Ms (Ms fC×V)}{k:Ms fC}{v:V}(e:H a=ε (.dT kvs))(f:H b=ε (.tup (k.map kV)))(d:kvs.length<sizeLine) :
 dq H a (.ref b) v (xB H a (.dT (NF kvs k v))):=.inr ⟨kvs,k,b,e,rfl,f,d,rfl⟩
section
variable{X:Cx}{d:Ms (Oa×Obj)}{f:St}{H:Hp}{s:Nu}{a:Oa}{y v:V}{u r:Mu}{o:Ni V}{A:Pa}{E:Mu->Nu->Prop}
theorem py.big(I:py X d f H s):sysModules<s.heap.objs.size:=by have h:mainGlobals<s.heap.objs.size:=(I.mod.glob.keeps I.bk).lt;exact Nat.lt_trans (by decide) h
theorem Gk{Q:Mu->Nu->Prop}(J:A.units+1<cLine)(I:py X d f H s)(g:az H a y (ε v))(D:qf y u)(h:∀m C,py X d f H C->qf v m->Q m C) :
 wpAny (model X.prog X.w) A (getItem (.ref a) u) Q E s:=by
 rcases g with⟨n,k,e,x,l⟩ | ⟨n,k,b,e,x,M,l⟩
 . subst x;obtain⟨z,hd,G,j,B⟩:=CK I.hok e;obtain⟨m,hw,i⟩:=af.some_of (v:=v) (o:=valueAt G k) (by rw[l];exact j.val k);exact wpAny_getItem_of (YM D) B.mapOf hw (h m _ (I.tok _) i)
 . subst x;cases (show u=Value.ref b from D);obtain⟨z,hd,F,j,B⟩:=DK I.hok e;obtain⟨m,hw,i⟩:=af.some_of (v:=v) (o:=(atKey F k).map (·.2)) (by rw[l];exact j.val k);obtain⟨p,L,q⟩:=Eu.mp hw;refine wpAny_getItem_heap (tupleKind_room_in1 J) (wM I.hok M) B L ?_;rw[q];exact h m _ (I.tok _) i
theorem T4{Q:Mu->Nu->Prop}(B:A.units+1<cLine)(I:py X d f H s)(g:az H a y o)(x:qf y u)(h:∀p,py X d f H p->Q (.bool o.isSome) p) :
 wpAny (model X.prog X.w) A (compareOp .In u (.ref a)) Q E s:=by
 rcases g with⟨j,k,e,m,l⟩ | ⟨j,k,b,e,m,C,l⟩
 . subst m;obtain⟨z,hd,F,i,n⟩:=CK I.hok e;refine wpAny_in_of (YM x) hd n.mapOf ?_;rw[<- (i.val k).gc,<- l];exact h _ (I.tok _)
 . subst m;cases (show u=Value.ref b from x);obtain⟨z,hd,D,i,n⟩:=DK I.hok e;refine wpAny_in_heap (tupleKind_room_in1 B) (wM I.hok C) hd n ?_;have q:=(i.val k).gc;rw[Option.isSome_map]at q;rw[<- q,<- l];exact h _ (I.tok _)
theorem fU{h':Pu}{t':Nat}{ob:HO}(I:py X d f H s)(g:RV (H a))(hs:Heap.SameBut a s.heap h')(he:∃q,h'.get? a=ε q)(new:Xa X.prog X.w (xB H a ob) h' a ob) :
 py X d f (xB H a ob) { s with heap:=h',toks:=t' }:=
 I.write (x:=a) (e:=a) g (.inl rfl) (fun b q h z=>(hs.2 b h).trans z) he new
theorem Ud{P:Oo}{w:O4}{g:Hp}{h':Pu}{kvs:Ms (fC×V)}{vs:Ms (fC×Mu)}(z:kvs.length<=sizeLine)(hd:(a==sysModules)=false)(b:KV kvs vs)(e:h'.DictOf (KE P w) a vs) :
 Xa P w g h' a (.dK kvs):=⟨z,hd,vs,b,e⟩
theorem Ik{P:Hp}{Q:Unit->Nu->Prop}(T:A.units+1<cLine)(I:py X d f H s)(g:dq H a y v P)(G:qf y u)(J:qf v r)(h:∀F,py X d f P F->Q () F) :
 wpAny (model X.prog X.w) A (setItem (.ref a) u r) Q E s:=by
 rcases g with⟨j,k,e,B,l,C⟩ | ⟨j,k,b,e,B,O,l,C⟩
 . subst B C;obtain⟨z,hd,S,i,D⟩:=Q8 I.hok e;have p:S.length<=sizeLine:=by rw[<- i.length];exact z
   have x:(NF j k v).length<=sizeLine:=by have:=RW j k v;omega
   refine wpAny_setItem_pairs (hsz:=p) (YM G) D fun L m hs=>h _ ?_
   have U:∃q,L.get? a=ε q:=let ⟨q,_,_,n,_⟩:=m;⟨q,n⟩
   exact fU I (by rw[e];exact Ja) hs U (Ud x hd (i.put k J) m)
 . subst B C;cases (show u=Value.ref b from G);obtain⟨z,hd,R,i,D⟩:=R8 I.hok e;have p:R.length<=sizeLine:=by rw[<- Paired.length i];exact z
   have x:(NF j k v).length<=sizeLine:=by have:=RW j k v;omega
   refine wpAny_setItem_heap (hsz:=p) (tupleKind_room_in1 T) (wM I.hok O) D fun L m hs=>h _ ?_
   obtain⟨q,es,ep,n,h2,Z,Y,_,W⟩:=m;refine fU I (by rw[e];exact Ja) hs ⟨q,n⟩ ⟨x,hd,_,(i.put k O J).keeps fun c ys M=>?_,q,es,ep,n,h2,Z,Y,W⟩;rw[WA (BV M e (fun z=>nomatch z))];exact M
end
section
variable{X:Cx}{pins:Ms (Oa×Obj)}{σ:St}{H:Hp}{s:Nu}{a:Oa}{kvs:Ms (fC×V)}{k:fC}{u:Mu}{A:Pa}{E:Mu->Nu->Prop}
end
def jQ(i:Oe):Prop:=∀a b,subscripted i false a b=operate [a,b] (getItem a b)
theorem Ec{prog:Oo}{w:O4}{A:Pa}{E:Mu->Nu->Prop}{s:Nu}{env:Env}{b a:Oe}{pos:Pos}{T n:String}{Q:Mu->Nu->Prop}
 (p:typeLookup (.type T) "__getitem__" =pure (ε (.builtin n))) (hs:jQ a)
 (h:wpAny (model prog w) A (eval b env) (fun o f=>wpAny (model prog w) A (eval a env) (fun i s₂=>s₂.TypeIs o T/\wpAny (model prog w) A (getItem o i) Q E s₂) E f) E s) :
 wpAny (model prog w) A (eval (.Subscript b a pos) env) Q E s:=by
 refine Subscript_ (Gu h (fun o f k=>Gu k (fun i s₂ d=>?_) fun _ _ x=>x) fun _ _ x=>x);obtain⟨m,d⟩:=d;unfold subscriptTail;refine ao ?_;rw[getitemInPython_of_ne m.not_modules];refine ao (wpAny_specialOf m p ?_);have g:wpAny (model prog w) A (subscripted a false o i) (fun r e=>wpAny (model prog w) A (letTemporaryGo b o r >>=fun _=>pure r) Q E e) E s₂:=by rw[hs o i];exact wpAny_operating (Gu d (fun r e j=>ao (wpAny_letTemporaryGo (au j))) fun _ _ x=>x)
 first
  | exact au (ao g)
  | exact ao (au (ao g))
  | exact ao g
theorem Qx {X:Cx} {d:Ms (Oa×Obj)} {i:St} {H:Hp} {s:Nu} {a:Oa} {y:V} {o:Ni V} (I:py X d i H s) (g:az H a y o):s.TypeIs (.ref a) "dict" :=by
 rcases g with⟨f,k,e,_,_⟩ | ⟨f,k,b,e,_,_,_⟩
 . obtain⟨_,_,m,_,h⟩:=CK I.hok e;exact h.typeIs
 . obtain⟨_,_,j,_,h⟩:=DK I.hok e;exact h.typeIs
noncomputable def J9(f e:TE):TE:=fun b H Q=>f b H fun x g=>e b g fun y d=>∃a v,x=.ref a/\az d a y (ε v)/\Q v d
noncomputable def X5(e f:TE):TE:=fun b H Q=>e b H fun y g=>f b g fun x d=>∃a o,x=.ref a/\az d a y o/\Q (.bl o.isSome) d
noncomputable def C9(g e f:TE):TS:=fun D b H=>f b H fun v j=>g b j fun x i=>e b i fun y h=>∃a d,x=.ref a/\dq h a y v d/\D.nx b d
section
variable{X:Cx}{o i e b:Oe}{pos c tpos:Pos}{f d j:TE}
theorem Rb(F:X.A.units+1<cLine)(G:PE X o f)(J:PE X i d)(hs:jQ i):PE X (.Subscript o i pos) (J9 f d):=by intro k s n H Q I h;refine Ec PySem.F.slot_dict_getitem.lookup hs (vB (G k s n H _ I h) fun u r ⟨x,P,M,C,E⟩=>vB (J k r n P _ M E) fun U T q=>?_);obtain⟨y,O,p,B,a,v,ex,g,D⟩:=q;subst ex;obtain rfl:u=Value.ref a:=C;exact⟨Qx p g,Gk F p g B fun R S L m=>⟨v,O,L,m,D⟩⟩
theorem C7(E:X.A.units+1<cLine)(G:PE X i d)(F:PE X o f):PC X .In i o (X5 d f):=by
 intro k s m H Q I h;refine vB (G k s m H _ I h) fun T p ⟨y,P,M,q,C⟩=>vB (F k p m P _ M C) fun u S n=>?_
 obtain⟨x,O,L,r,a,D,ex,g,B⟩:=n;subst ex;obtain rfl:u=Value.ref a:=r;exact T4 E L g q fun R J=>⟨.bl D.isSome,O,J,rfl,B⟩
theorem Gn(M:X.A.units+1<cLine)(O:PE X o f)(P:PE X i d)(L:PE X b j)(hs:swapsWith b (ε (.Subscript o i c)) pos.line X.env=pure false) :
 PS X (.Assign [.Subscript o i c] b pos) (C9 f d j):=by
 intro k s m H D I h;refine wpAny_Assign_Subscript (vB (L k s m H _ I h) fun r q ⟨v,Y,T,E,J⟩=>vB (O k q m Y _ T J) fun u p ⟨x,W,S,C,G⟩=>vB (P k p m W _ S G) fun iv s3 n=>?_) hs;obtain⟨y,H3,R,B,a,U,ex,g,F⟩:=n;subst ex;obtain rfl:u=Value.ref a:=C;exact Ik M R g B E fun Z Q=>⟨m,U,Q,F⟩
end
theorem Ah {P:Oo} {w:O4} {H:Hp} (h:Pu) (a:sysModules<h.objs.size):Xa P w H (h.push { cls:=.type "dict",data:=.dict #[] }) h.objs.size (.dT []):=
 ⟨mq _,Di.mpr (m5 (ni a)),[],.nil,_,#[],0,je _ rfl,⟨rfl,rfl,rfl⟩,rfl,rfl,nodup_nil⟩
def A8:TE:=fun _ H Q=>∀p,H p=none->Q (.ref p) (xB H p (.dT []))
section
variable{X:Cx}{pos:Pos}
theorem ig:PE X (.Dict [] [] pos) A8:=fun b s d H Q I h=>wpAny_Dict_empty ⟨.ref s.heap.objs.size,_,I.laid (a:=s.heap.objs.size) (o:=.dT []) (t':=s.toks) (fun _ _ q=>cu _ q) (Ra _) (Ah s.heap I.big),rfl,h _ (I.hok.fresh (Ra _))⟩
end
structure M1(X:Cx)(o:Expr)(m:Str)(apos:Pos)(e:Expr)(cpos:Pos):Prop where
 base:attributeBase o m X.env (eval o X.env)=eval o X.env
 few:((backTo cpos (starEach [e] X.env)).all (fun x=>!x.1)&&(backToKw cpos (keywordEach [] X.env)).all (fun x=>x.1.isSome)
  && decide (([e]:List Expr).length+([]:List Keyword).length+(if([]:List Keyword).isEmpty then 0 else 1)<30))=true
 line:(apos.endLine==cpos.line)=true
 trees:backTo cpos (starEach [e] X.env)=[(false,eval e X.env)]
structure M2(X:Cx)(o:Expr)(m:Str)(apos:Pos)(e f:Expr)(cpos:Pos):Prop where
 base:attributeBase o m X.env (eval o X.env)=eval o X.env
 few:((backTo cpos (starEach [e,f] X.env)).all (fun x=>!x.1)&&(backToKw cpos (keywordEach [] X.env)).all (fun x=>x.1.isSome)
  && decide (([e,f]:List Expr).length+([]:List Keyword).length+(if([]:List Keyword).isEmpty then 0 else 1)<30))=true
 line:(apos.endLine==cpos.line)=true
 trees:backTo cpos (starEach [e,f] X.env)=[(false,eval e X.env),(false,eval f X.env)]
def F4(H:Hp)(a:Oa):Prop:=(∃b,Rd H a (.dK b))\/∃b,Rd H a (.dT b)
theorem D0{X:Cx}{f:Ms (Oa×Obj)}{k:St}{H:Hp}{s:Nu}{a:Oa}(I:py X f k H s)(d:F4 H a) :
 s.TypeIs (.ref a) "dict" /\ (∀b,Value.ref a=.ref b->∃ob,s.heap.get? b=ε ob/\ob.dict=none)/\(a==sysModules)=false:=by
 rcases d with⟨h,e⟩ | ⟨h,e⟩
 . obtain⟨_,hd,n,_,g⟩:=CK I.hok e;refine⟨g.typeIs,fun b q=>?_,hd⟩;cases q;obtain⟨ob,_,_,j,i,_⟩:=g;exact⟨ob,j,i.2.1⟩
 . obtain⟨_,hd,m,_,g⟩:=DK I.hok e;refine⟨g.typeIs,fun b q=>?_,hd⟩;cases q;obtain⟨ob,_,_,j,i,_⟩:=g;exact⟨ob,j,i.2.1⟩
section
variable{X:Cx}{c:Ms (Oa×Obj)}{f:St}{H:Hp}{s:Nu}{a:Oa}{y d:V}{u r:Mu}{o:Ni V}{A:Pa}{E:Mu->Nu->Prop}
theorem Td{Q:Mu->Nu->Prop}(D:A.units+1<cLine)(I:py X c f H s)(g:az H a y o)(x:qf y u)(B:qf d r)(h:∀p q,py X c f H q->qf (o.getD d) p->Q p q) :
 wpAny (model X.prog X.w) A (call (.builtin "dict.get") [.ref a,u,r]) Q E s:=by
 rcases g with⟨m,k,e,n,l⟩ | ⟨m,k,b,e,n,F,l⟩
 . subst n;obtain⟨z,hd,G,i,j⟩:=CK I.hok e;refine call_meetsIn PySem.F.slot_dict_get j.typeIs PySem.F.entry_dict_get (PySem.F.args_dict_get_3 _ _ _) (meets_dict_get_default (KE X.prog X.w) a (YM x) hd r) ⟨_,j.mapOf,h _ _ (I.tok _) ?_⟩;rw[l];exact(i.val k).getD B
 . subst n;cases (show u=Value.ref b from x);obtain⟨z,hd,C,i,j⟩:=DK I.hok e;refine call_meetsIn PySem.F.slot_dict_get j.typeIs PySem.F.entry_dict_get (PySem.F.args_dict_get_3 _ _ _) (meetsH_dict_get_default (tupleKind (KE X.prog X.w)) a b hd r) ⟨tupleKind_room_in1 D,k,C,wM I.hok F,j,h _ _ (I.tok _) ?_⟩;rw[l];exact(i.val k).getD B
end
noncomputable def z8(h f g:TE):TE:=fun b H Q=>h b H fun x e=>∃a,x=.ref a/\F4 e a/\f b e fun y i=>g b i fun z d=>∃o,az d a y o/\Q (o.getD z) d
section
variable{X:Cx}{o e f:Oe}{c b:Pos}{k i j:TE}
theorem Zg (R:X.A.units+1<cLine) (S:PE X o k) (he:PE X e i) (T:PE X f j) (m:M2 X o "get" c e f b):PE X (.Call (.Attribute o "get" c) [e,f] [] b) (z8 k i j):=by
 intro n s p H Q I h;refine wpAny_Call_method m.base m.few m.line PySem.F.plainAttrs_dict PySem.F.slot_dict_get PySem.F.type_dict_get (vB (S n s p H _ I h) fun u F B=>?_);obtain⟨x,H1,r,L,a,ex,d,P⟩:=B;subst ex;obtain rfl:u=Value.ref a:=L;obtain⟨D,C,_⟩:=D0 r d;refine⟨D,C,?_⟩;rw[m.trees];refine Calls.callWith_builtin rfl (Calls.evalArgs_plain (Calls.spliced_cons (vB (he n F p H1 _ r P) fun iv E ⟨y,H2,Y,J,O⟩=>
  Calls.spliced_cons (vB (T n E p H2 _ Y O) fun fv s3 ⟨z,Z,W,G,ov,g,M⟩=>Calls.spliced_nil ?_))))
 exact Td R W g J G fun w' s4 U q=>⟨_,Z,U,q,M⟩
end
section
variable{X:Cx}{pins:Ms (Oa×Obj)}{σ:St}{H:Hp}{s:Nu}{a:Oa}{kvs:Ms (fC×V)}{A:Pa}{E:Mu->Nu->Prop}
end
section
variable{X:Cx}{pins:Ms (Oa×Obj)}{σ:St}{H:Hp}{s:Nu}{a:Oa}{y:V}{u:Mu}{A:Pa}{E:Mu->Nu->Prop}
end
section
variable{prog:Oo}{w:O4}{A:Pa}{E:Mu->Nu->Prop}{s:Nu}
theorem UO {a:Oa} {R:String->Nu->Prop} (b:s.TypeIs (.ref a) "dict_itemiterator") (q:R "dict_itemiterator" s) :
 wpAny (model prog w) A (typeNameOfWhole (.ref a)) R E s:=wpAny_typeNameOfWhole_itemiter b q
theorem Kg{d:Oa}{g:Pb DictEntry}{h:Nat}{od:Obj}{v:Oa}{R:Mu->Nu->Prop}(b:s.heap.IsItemsView v d)(f:s.heap.get? d=ε od)(e:od.data=.dict g h)
 (q:R (.ref s.heap.objs.size) { s with heap:=s.heap.push { cls:=.type "dict_itemiterator",data:=.fields #[.none,.bool false,.ref d,.int 0 0,.int g.size 0,.int h 0,.none,.none] } }) :
 wpAny (model prog w) A (pyIter (.ref v)) R E s:=by
 obtain⟨k,j,m,i⟩:=id b;refine wpAny_pyIter_slot b.typeIs F.slot_dict_items_iter (wpAny_call_entry F.slot_dict_items_iter b.typeIs F.entry_dict_items_iter ?c1 (F.args_dict_items_iter_1 _));unfold Builtin.«dict_items.__iter__»;refine ao (au (ao ?c2));unfold Builtin.Dict_items.dictOf;refine ao (Fo j i (x:=.ref d) rfl (au (ao ?c3)));unfold Builtin.Dict_items.newIterator;refine ao (wpAny_dictEntries f e (ao (wpAny_dictEpoch f e ?c4)));have a:Builtin.Dict_items.ownsTuple "dict_itemiterator" =true:=by decide
 simp![a,eG];refine yu (au ⟨_,rfl, "dict_itemiterator",_,⟨_,je _ rfl,rfl⟩,F.slot_dict_itemiterator_next.lookup,?c5⟩) ?c6
 . simpa[rawInt,Builtin.Dict_items.ownedTupleFields]using q
 . simp![sizeOk,Builtin.Dict_items.ownedTupleFields,cG,g8,Qu,Ru,Ao];omega
theorem Ig{f d:Oa}{i h:Nat}{a:Pb DictEntry}{od:Obj}{D v0:Mu}{R:Ni Mu->Nu->Prop}
 (H:IsItemIter s.heap f d i a.size h D v0) (Y:s.heap.get? d=ε od) (X:od.data=.dict a h) (lt:i<a.size)
 (P:∀p,IsItemIterOut p f d (i+1) a.size h a[i].key a[i].val s.heap.objs.size->
  p.get? s.heap.objs.size=ε { cls:=.type "tuple",data:=.seq #[a[i].key,a[i].val] }->p.objs.size=s.heap.objs.size+1->
  (∀b o,b≠f->s.heap.get? b=ε o->p.get? b=ε o)->R (ε (.ref s.heap.objs.size)) { s with heap:=p }) :
 wpAny (model prog w) A (pyNext (.ref f)) R E s:=by
 obtain⟨G,q,y,m,os⟩:=s;have k:Shared.TypeIs ⟨G,q,y,m,os⟩ (.ref f) "dict_itemiterator" :=⟨_,H,rfl⟩;unfold pyNext;refine ao (wpAny_attempt (wpAny_callSpecial?_slot (name:=Str.ofString "__next__") k F.slot_dict_itemiterator_next (wpAny_call_entry F.slot_dict_itemiterator_next k F.entry_dict_itemiterator_next ?c1 (F.args_dict_itemiterator_next_1 _))));refine ao (au (ao (ao ?c2)))
 first | refine ao (UO k (au ?c3)) | refine ao (wpAny_typeNameOf_itemiter k (au ?c3))
 refine ao (wpAny_fieldsOf H rfl ?c4);have n:Builtin.Dict_items.ownsTuple "dict_itemiterator" =true:=by decide
 simp![n,eG];show wpAny _ _ (if(Value.ref d==Value.none)=true then _ else _) _ _ _;rw[dG (show ¬((Value.ref d==Value.none)=true)from fun z=>Va z)];refine ao (au (ao (wpAny_dictEntries Y X ?c5)));rw[dG ⋯];refine ao (au (ao (wpAny_dictEpoch Y X ?c6)));rw[dG ⋯];refine au ?c7;simp![show ¬((i:Int)<0)from by omega,eH,m6,Array.getElem?_eq_getElem lt];refine ao ?c8
 first | refine ao (UO k (au ?c9)) | refine ao (wpAny_typeNameOf_itemiter k (au ?c9))
 refine ao (wpAny_isOneOf_itemiter k ?c10);show wpAny _ _ (setField (.ref f) 3 (rawInt ((i:Int)+1)) >>=_) _ _ ⟨G,q,y,m,os⟩;refine ao (wpAny_setField_rec H ⋯ fun G1 u B=>?c11)
 replace B:Heap.SameBut f G G1:=B
 replace u:IsItemIter G1 f d (i+1) a.size h D v0:=by
  have z:((i+1:Nat):Int)=(i:Int)+1:=by omega
  unfold IsItemIter;rw[z];simpa[rawInt]using u
 have j:Shared.TypeIs ⟨G1,q,y,m,os⟩ (.ref f) "dict_itemiterator" :=⟨_,u,rfl⟩;refine ao (Ds (ao (wpAny_isOneOf_itemiter j (ao (wpAny_isOneOf_itemiter j ?c12)))));show wpAny _ _ (Builtin.Dict_items.pairFromOwner (.ref f) 6 a[i].key a[i].val) _ _ ⟨G1,q,y,m,os⟩;unfold Builtin.Dict_items.pairFromOwner;refine ao (wpAny_newTuple ?c13);have r:IsItemIter (G1.push { cls:=.type "tuple",data:=.seq #[a[i].key,a[i].val] }) f d (i+1) a.size h D v0:=cu _ u;generalize I:G1.push { cls:=.type "tuple",data:=.seq #[a[i].key,a[i].val] }=G2 at r;have C:G1.objs.size=G.objs.size:=B.1;have il:f<G.objs.size:=fu H;have t2:G2.get? G.objs.size=ε { cls:=.type "tuple",data:=.seq #[a[i].key,a[i].val] }:=by rw[<- I,<- C];exact je _ rfl
 have Z:G2.objs.size=G.objs.size+1:=by rw[<- I,Ko,C]
 have k2:∀b o,b≠f->G.get? b=ε o->G2.get? b=ε o:=fun b o g e=>by rw[<- I];exact cu _ (B.extBut b o g e)
 show wpAny _ _ (Builtin.Dict_items.ownedTupleIsFree (.ref f) >>=_) _ _ ⟨G2,q,y,m,os⟩;rw[C];clear I u B j C G1;refine ao ?c14;unfold Builtin.Dict_items.ownedTupleIsFree;refine ao (Fo r rfl (x:=.none) rfl (au ?c15));simp![eG];refine ao (Fo r rfl (x:=D) rfl (ao (Fo r rfl (x:=v0) rfl ?c16)));refine ao (wpAny_setField_rec r ⋯ fun G3 U O=>?c17)
 replace O:Heap.SameBut f G2 G3:=O
 replace U:IsItemIter G3 f d (i+1) a.size h a[i].key v0:=U
 refine ao (wpAny_setField_rec U ⋯ fun G4 T M=>?c18)
 replace M:Heap.SameBut f G3 G4:=M
 replace T:IsItemIter G4 f d (i+1) a.size h a[i].key a[i].val:=T
 refine ao (wpAny_setField_rec T ⋯ fun G5 S L=>?c19)
 replace L:Heap.SameBut f G4 G5:=L
 replace S:IsItemIterOut G5 f d (i+1) a.size h a[i].key a[i].val G.objs.size:=S
 refine ao (wpAny_setField_rec S ⋯ fun G6 Q J=>?c20)
 replace J:Heap.SameBut f G5 G6:=J
 replace Q:IsItemIterOut G6 f d (i+1) a.size h a[i].key a[i].val G.objs.size:=Q
 have W:∀b o,b≠f->G2.get? b=ε o->G6.get? b=ε o:=fun b o g e=>J.extBut b o g (L.extBut b o g (M.extBut b o g (O.extBut b o g e)))
 refine ao (wpAny_letGo (au (au ⟨_,rfl,au (P G6 Q (W _ _ (Ce il) t2) ?c21 fun b o g e=>W b o g (k2 b o g e))⟩)));show G6.objs.size=G.objs.size+1;rw[J.1,L.1,M.1,O.1,Z]
theorem Pr{g d:Oa}{i q:Nat}{k:Pb DictEntry}{od:Obj}{u r:Mu}{R:Ni Mu->Nu->Prop}(x:A.handled=none)
 (h:IsItemIter s.heap g d i k.size q u r) (p:s.heap.get? d=ε od) (o:od.data=.dict k q) (y:k.size<=i)
 (j:∀n,Heap.ExtBut g s.heap n->R none { s with heap:=n }):wpAny (model prog w) A (pyNext (.ref g)) R E s:=by
 have e:s.TypeIs (.ref g) "dict_itemiterator" :=⟨_,h,rfl⟩;unfold pyNext;refine ao (wpAny_attempt (wpAny_callSpecial?_slot (name:=Str.ofString "__next__") e F.slot_dict_itemiterator_next (wpAny_call_entry F.slot_dict_itemiterator_next e F.entry_dict_itemiterator_next ?c1 (F.args_dict_itemiterator_next_1 _))));refine ao (au (ao (ao ?c2)))
 first | refine ao (UO e (au ?c3)) | refine ao (wpAny_typeNameOf_itemiter e (au ?c3))
 refine ao (wpAny_fieldsOf h rfl ?c4);have f:Builtin.Dict_items.ownsTuple "dict_itemiterator" =true:=by decide
 simp![f,eG];show wpAny _ _ (if(Value.ref d==Value.none)=true then _ else _) _ _ _;rw[dG (show ¬((Value.ref d==Value.none)=true)from fun z=>Va z)];refine ao (au (ao (wpAny_dictEntries p o ?c5)));rw[dG ⋯];refine ao (au (ao (wpAny_dictEpoch p o ?c6)));rw[dG ⋯];refine au ?c7;simp![show ¬((i:Int)<0)from by omega,eH,m6,Array.getElem?_eq_none y];refine ao ?c8
 first | refine ao (UO e (au ?c9)) | refine ao (wpAny_typeNameOf_itemiter e (au ?c9))
 show wpAny _ _ (setField (.ref g) 2 .none >>=_) _ _ _;refine ao (wpAny_setField h rfl ⋯ ?c10);show wpAny _ _ (newExc (.type "StopIteration") [] >>=_) _ _ _;refine ao ?c11;simp![newExc,newTuple];refine ao (yu (ao (m:=firstArgMember _ _) (wpAny_of_eq (a:=Value.none) (by first | rfl | (simp![firstArgMember];rfl)) ?c12)) (by size_fits));refine yu ?c13 (by size_fits);simp![raiseNew];refine ao (wpAny_handled ?c14);rw[show A.in1.handled=none from x];refine ao (au (wpAny_throw ?c15));refine ao (wpAny_isInstance (T := "StopIteration") (b:=true) ⟨_,je _ rfl,rfl⟩ isSubtype_stop (au ?c16));exact j _ (((Heap.SameBut.update ..).extBut.push _).push _)
theorem Hg {d:Oa} {R:Mu->Nu->Prop} (a:s.TypeIs (.ref d) "dict") (g:(d==sysModules)=false)
 (q:R (.ref s.heap.objs.size) { s with heap:=s.heap.push { cls:=.type "dict_items",data:=.fields #[.ref d] } }):wpAny (model prog w) A (call (.builtin "dict.items") [.ref d]) R E s:=by
 have m:MeetsIn prog w (Builtin.«dict.items» ⟨[.ref d],[]⟩) (fun _ R s=>s.TypeIs (.ref d) "dict" /\ R (.ok (.ret (.ref s.heap.objs.size))) { s with heap:=s.heap.push { cls:=.type "dict_items",data:=.fields #[.ref d] } }):=
  .of_wp fun A R s b=>by obtain⟨e,f⟩:=b;unfold Builtin.«dict.items»;refine ao ?c1;unfold Builtin.Dict.noArgs;refine ao (wpAny_notOrdered_dict e ?c2);show wpAny _ _ (pure d) _ _ s;refine au ?c3;show wpAny _ _ (Builtin.Dict.showsAll d >>=_) _ _ s;unfold Builtin.Dict.showsAll;rw[dG (by rw[g];exact Va)];exact ao (au (ao (yu (au ⟨_,rfl,f⟩))))
 exact call_meetsIn PySem.F.slot_dict_items a PySem.F.entry_dict_items (PySem.F.args_dict_items_1 _) m ⟨a,q⟩
theorem Qq:entryFor table "dict_itemiterator.__iter__" =ε Builtin.«dict_keyiterator.__iter__»:=entryFor_alias (id' := "dict_keyiterator.__iter__") (by kernel_rfl) rfl (by decide +kernel) (by kernel_rfl)
theorem Jg{a d:Oa}{i n h:Nat}{f e:Mu}{R:Mu->Nu->Prop}(g:IsItemIter s.heap a d i n h f e)(q:R (.ref a) s):wpAny (model prog w) A (pyIter (.ref a)) R E s:=by have b:s.TypeIs (.ref a) "dict_itemiterator" :=⟨_,g,rfl⟩;refine wpAny_pyIter_slot b F.slot_dict_itemiterator_iter (wpAny_call_entry F.slot_dict_itemiterator_iter b Qq ?c1 (F.args_dict_itemiterator_iter_1 _));show wpAny _ _ (ret (.ref a)) _ _ s;exact au ⟨_,rfl, "dict_itemiterator",_,b,F.slot_dict_itemiterator_next.lookup,q⟩
end
theorem Paired.atI{a b:Type}{F:a->b->Prop}:∀{xs:Ms a}{ys:Ms b}{i:Nat}{x:a},Paired F xs ys->xs[i]?=ε x->∃y,ys[i]?=ε y/\F x y
 | _,_,i,x,.nil,e=>by simp at e
 | _,_,0,x,.cons r t,e=>by simp at e;subst e;exact⟨_,rfl,r⟩
 | _,_,i+1,x,.cons r t,e=>by obtain⟨y,d,e2⟩:=Paired.atI t (i:=i) (x:=x) (by simpa using e);exact⟨y,by simpa using d,e2⟩
def QV(a:Oa)(o:Obj):It:=
 ⟨fun i H=>∃b p,H a=ε (.frz o (.dT b))/\b[i]?=ε p,
  fun i H x e=>∃q d p,H q=none/\x=.ref q/\H d=ε (.tup (p.1.map kV))/\(∀b,H a=ε (.frz o (.dT b))->b[i]?=ε p)/\e=xB H q (.tup [.ref d,p.2]),
  fun i H=>∃b,H a=ε (.frz o (.dT b))/\b.length<=i⟩
theorem Ot{P:Oo}{w:O4}{K:Oi}{J:Ms Oe}{x1}{pos:Pos}(a it:Oa){o:Obj}{n:Pb DictEntry}{ep:Nat}(O:o.data=.dict n ep) :
 pH P w K (.Tuple J x1 pos) (QV a o) [it] it (fun i h=>∃j f,IsItemIter h it a i n.size ep j f) where
 mem:=by simp
 obj:=fun i h zz c b=>by obtain⟨j,f,st⟩:=zz;rw[zc.mp b];exact⟨_,st,fun v z=>by cases z⟩
 keep:=fun i h h' ⟨j,f,st⟩ k=>⟨j,f,k it ⋯ _ st⟩
 item:=by
  intro X T hw U b i x s σ H E I L st R;subst T hw U;obtain⟨j,f,m⟩:=st;obtain⟨d,p,e,Q⟩:=R;obtain⟨go,z,y,xs,r,ob,Y,Z,G,M,F,W,h5⟩:=(show Xa X.prog X.w H s.heap a (.frz o (.dT d))from I.hok a _ e);rw[go]at G;cases G;rw[O]at F;cases F;obtain⟨q,hq,f1,f2,f3⟩:=Paired.atI r Q;have e0:n.toList[i]?=ε (entryOfKey (tupleKind (KE X.prog X.w)) q):=by rw[W,qu,hq];rfl
  have C:i<n.size:=by have:=(Uo e0).1;simpa using this
  have ei:n[i]=entryOfKey (tupleKind (KE X.prog X.w)) q:=by rw[Array.getElem?_toList,Array.getElem?_eq_getElem C]at e0;exact nW e0
  refine Ig m go O C fun h' z1 tp sz kp=>⟨_,rfl,wpAny_letOwnedTupleGo_items z1 fun M S sb=>?_⟩
  have B:s.heap.objs.size≠it:=Ce (fu m);have t2:M.get? s.heap.objs.size=ε { cls:=.type "tuple",data:=.seq #[.ref q.2.1,q.2.2] }:=by rw[sb.2 _ B,tp,ei];rfl
  have kk:∀c u,c ∉ [it]->s.heap.get? c=ε u->M.get? c=ε u:=fun c u b g=>by
   have D:c≠it:=fun z=>b (by rw[z];simp)
   exact(sb.2 c D).trans (kp c u D g)
  refine⟨.ref s.heap.objs.size,xB H s.heap.objs.size (.tup [.ref q.2.1,p.2]),I.hI kk L (Ra _) ⟨by simp![Qu,Ru];rw[Ao];decide,[.ref q.2.1,q.2.2],.cons rfl (.cons f3 .nil),⟨_,t2,rfl,_,rfl⟩⟩,rfl,
   ⟨_,q.2.1,p,I.hok.fresh (Ra _),rfl,f2,fun a0 e'=>by rw[e]at e';cases e';exact Q,rfl⟩,⟨_,_,S⟩,fun c b=>?_⟩
  rw[zc.mp b,WA (m5 B)];exact(L it ⋯).1
 done:=by
  intro X T hw U b i x s σ H E I L st R;subst T hw U;obtain⟨j,f,m⟩:=st;obtain⟨d,e,Q⟩:=R;obtain⟨go,z,y,xs,r,ob,Y,Z,G,M,F,W,h5⟩:=(show Xa X.prog X.w H s.heap a (.frz o (.dT d))from I.hok a _ e);rw[go]at G;cases G;rw[O]at F;cases F;have hs:n.size=d.length:=by rw[<- vo,W,lq,<- Paired.length r]
  refine Pr (I.ok.hd b) m go O nofun fun h' eb=>⟨rfl,I.hL (t':=s.toks) (fp:=[it]) (fun c u b q=>eb c u (fun z=>b (by rw[z];simp)) q) L⟩
 self:=fun _ _ _ _ _ st h=>by obtain⟨j,f,m⟩:=st;exact Jg m h
section
variable{X:Cx}
theorem py.freeze{d:Ms (Oa×Obj)}{f:St}{H:Hp}{s:Nu}{a:Oa}{o:Obj}{kvs:Ms (Ms fC×V)}(I:py X d f H s)(e:H a=ε (.dT kvs))(go:s.heap.get? a=ε o) :
 py X d f (xB H a (.frz o (.dT kvs))) s:=by
 refine fU (t':=s.toks) I (by rw[e];exact Ja) (Heap.SameBut.refl _ _) ⟨o,go⟩ ⟨go,?_⟩;refine Xa.stay (show Xa X.prog X.w H s.heap a (.dT kvs)from I.hok a _ e) (fun _ _ _ g=>g) (fun b q=>?_) fun b h q=>?_
 . rw[WA (BV q e (fun z=>nomatch z))];exact q
 . rw[WA (BV q e (fun z=>nomatch z))];exact q
def o5(f:TE):TI:=fun e H R=>f e H fun x d=>∃a,x=.ref a/\((∃b,d a=ε (.dT b)/\∀o,R (QV a o) (xB d a (.frz o (.dT b))))\/∃o b,d a=ε (.frz o (.dT b))/\R (QV a o) d)
theorem lg {j:Ms Oe} {x1} {L:Pos} {d:Oe} {M:TE} {m k:Pos} (Y:PE X d M) (p:autoParam (attributeBase d "items" X.env (eval d X.env)=eval d X.env) Æ) (n:autoParam ((m.endLine==k.line)=true) Æ) :
 PI X (.Tuple j x1 L) (.Call (.Attribute d "items" m) [] [] k) (o5 M):=by
 intro i s E H R I h;refine wpAny_Call_method0_late p n (vB (Y i s E H _ I h) fun v s1 Q=>?_);obtain⟨x,J,C,U,a,ex,q⟩:=Q;subst ex;obtain rfl:v=Value.ref a:=U;have dd:F4 J a:=by
  rcases q with⟨f,e,_⟩ | ⟨o,f,e,_⟩
  . exact .inr ⟨f,.inl e⟩
  . exact .inr ⟨f,.inr ⟨o,e⟩⟩
 obtain⟨O,T,S⟩:=D0 C dd;have base:∀(o:Obj)(r:Pb DictEntry)(y:Nat)(D:Hp),s1.heap.get? a=ε o->o.data=.dict r y->py X i E D s1->R (QV a o) D->
  wpAny (model X.prog X.w) X.A (call (.builtin "dict.items") [.ref a]) (fun v s1=>wpAny (model X.prog X.w) X.A (pyIter v) (N4 X i E (.Tuple j x1 L) R) X.xe s1) X.xe s1:=by
  intro o r y D go P I2 W;refine Hg O S ?_;have G:py X i E D { s1 with heap:=s1.heap.push { cls:=.type "dict_items",data:=.fields #[.ref a] } }:=I2.kept (t':=s1.toks) fun b u g=>cu _ g
  refine Kg (od:=o) ⟨_,je _ rfl,rfl,rfl⟩ (cu _ go) P ?_;have I4:=G.kept (t':=s1.toks) (h':=(s1.heap.push { cls:=.type "dict_items",data:=.fields #[.ref a] }).push { cls:=.type "dict_itemiterator",data:=.fields #[.none,.bool false,.ref a,.int 0 0,.int r.size 0,.int y 0,.none,.none] }) fun b u g=>cu _ g
  refine⟨_,[_],_,_,D,rfl,I4,Ot a _ P,⟨.none,.none,je _ rfl⟩,fun c Z=>?_,W⟩;rw[zc.mp Z];exact G.bv (Ra _) (G.hok.fresh (Ra _))
 refine⟨"dict", "dict.items",PySem.F.plainAttrs_dict,PySem.F.slot_dict_items,PySem.F.type_dict_items,O,T,Calls.callWith_builtin rfl (PySem.evalArgs_none ?_)⟩;rcases q with⟨f,e,q⟩ | ⟨o,f,e,q⟩
 . obtain⟨_,_,_,_,o,r,y,B,_,F,_⟩:=(show Xa X.prog X.w J s1.heap a (.dT f)from C.hok a _ e);exact base o r y _ B F (C.freeze e B) (q o)
 . obtain⟨go,_,_,_,_,o',r,y,B,_,F,_⟩:=(show Xa X.prog X.w J s1.heap a (.frz o (.dT f))from C.hok a _ e);rw[go]at B;cases B;exact base o r y _ go F C q
end
end L2
namespace SM
noncomputable def ZD(kvs:Ms (Ms Int×Dt))(k:Ms Int):Ni Dt:=(kvs.find? fun p=>decide (p.1=k)).map (·.2)
noncomputable def BJ(kvs:Ms (Ms Int×Dt))(k:Ms Int)(d:Dt):Ms (Ms Int×Dt):=
 if(kvs.any fun p=>decide (p.1=k))=true then kvs.map (fun p=>if p.1=k then(p.1,d)else p)else kvs++[(k,d)]
noncomputable def rV:RE:=fun _ h=>ε (.ref h.length,h++[.dt []])
def rQ(g:RA):RE:=fun l h=>(g l h).bind fun r=>if r.1.length<=sizeLine then(pD r.1).map fun a=>(.ntp a,r.2)else none
def nI(fo fy a:RE):RE:=fun l h=>(fo l h).bind fun o=>match o.1 with
 | .ref n=>match o.2[n]? with
  | some (.dt _)=>(fy l o.2).bind fun y=>match y.1 with
   | .ntp k=>(a l y.2).bind fun x=>match x.2[n]? with
    | some (.dt kvs)=>ε ((ZD kvs k).getD x.1,x.2)
    | _=>none
   | _=>none
  | _=>none
 | _=>none
def BP(fe fo fy:RE):RS:=fun l h=>(fe l h).bind fun v=>(fo l v.2).bind fun o=>(fy l o.2).bind fun y=>match o.1,y.1 with
 | .ref n,.ntp k=>match y.2[n]? with
  | some (.dt kvs)=>if kvs.length<sizeLine then ε (.nx l (y.2.set n (.dt (BJ kvs k v.1))))else none
  | _=>none
 | _,_=>none
noncomputable def nJ(f:RE):RI:=fun l h=>(f l h).bind fun r=>match r.1 with
 | .ref n=>match r.2[n]? with
  | some (.dt kvs)=>ε (.it n,r.2.set n (.df kvs))
  | some (.df _)=>ε (.it n,r.2)
  | _=>none
 | _=>none
section
variable{K:Oi}{H:Hp}{ρ:Rg}
abbrev KD(K:Oi)(H:Hp)(ρ:Rg)(kvs:Ms (Ms Int×Dt))(vs:Ms (Ms fC×V)):Prop:=vs.map (·.1)=kvs.map (fun p=>p.1.map Sum.inl)/\Qe K H ρ (kvs.map (·.2)) (vs.map (·.2))
theorem dr{k k':Ms Int}:k.map (Sum.inl:Int->fC)=k'.map Sum.inl↔k=k':=⟨fun h=>(map_inj_right (fun _ _ z=>Sum.inl.inj z)).mp h,fun h=>by rw[h]⟩
theorem vM(k:Ms Int):(k.map (Sum.inl:Int->fC)).map kV=k.map V.int:=by rw[map_map];rfl
theorem KD.ag{vs:Ms (Ms fC×V)}(r:KD K H ρ [] vs):vs=[]:=by have:=r.1;simpa using this
theorem KD.Xe{p:Ms Int×Dt}{kvs:Ms (Ms Int×Dt)}{vs:Ms (Ms fC×V)}(r:KD K H ρ (p::kvs) vs):∃v rs,vs=(p.1.map Sum.inl,v)::rs/\Qi K H ρ p.2 v/\KD K H ρ kvs rs:=by
 obtain⟨a,g⟩:=r;cases vs with
 | nil=>simp at a
 | cons q rs=>simp![Qs,Le]at a;obtain⟨v,k,e,i,h⟩:=Qe.Xe (by simpa only[Qs]using g);simp![Qs,Le]at e;obtain⟨f,d⟩:=q;have b:f=p.1.map Sum.inl:=a.1;have j:d=v:=e.1;subst j;exact⟨d,rs,by rw[b],i,a.2,by rw[e.2];exact h⟩
theorem KD.cons{p:Ms Int×Dt}{v:V}{kvs:Ms (Ms Int×Dt)}{vs:Ms (Ms fC×V)}(g:Qi K H ρ p.2 v)(r:KD K H ρ kvs vs):KD K H ρ (p::kvs) ((p.1.map Sum.inl,v)::vs):=
 ⟨by simp![Qs];rw[r.1],.cons g r.2⟩
theorem KD.length{kvs:Ms (Ms Int×Dt)}{vs:Ms (Ms fC×V)}(r:KD K H ρ kvs vs):vs.length=kvs.length:=by have:=congrArg List.length r.1;simpa using this
theorem KD.get:∀{kvs:Ms (Ms Int×Dt)}{vs:Ms (Ms fC×V)}{i:Nat}{p:Ms Int×Dt},KD K H ρ kvs vs->kvs[i]?=ε p->∃v,vs[i]?=ε (p.1.map Sum.inl,v)/\Qi K H ρ p.2 v
 | [],_,_,_,_,e=>by simp at e
 | q::kvs,_,0,p,r,e=>by obtain⟨v,a,rfl,g,_⟩:=r.Xe;simp at e;subst e;exact⟨v,rfl,g⟩
 | q::kvs,_,i+1,p,r,e=>by obtain⟨v,a,rfl,_,b⟩:=r.Xe;obtain⟨u,d,e2⟩:=KD.get (i:=i) b (by simpa using e);exact⟨u,by simpa using d,e2⟩
theorem KD.val(k:Ms Int):∀{kvs:Ms (Ms Int×Dt)}{vs:Ms (Ms fC×V)},KD K H ρ kvs vs->(∀d,ZD kvs k=ε d->∃v,nF vs (k.map Sum.inl)=ε v/\Qi K H ρ d v)/\(ZD kvs k=none->nF vs (k.map Sum.inl)=none)
 | [],_,r=>by rw[r.ag];exact⟨fun d e=>by simp[ZD]at e,fun _=>rfl⟩
 | p::kvs,_,r=>by
  obtain⟨v,f,rfl,g,b⟩:=r.Xe;by_cases c:p.1=k
  . have a:ZD (p::kvs) k=ε p.2:=by simp[ZD,Ia,c]
    rw[a,bP (dr.mpr c)];exact⟨fun d e=>by cases e;exact⟨v,rfl,g⟩,fun e=>by cases e⟩
  . have a:ZD (p::kvs) k=ZD kvs k:=by simp[ZD,Ia,c]
    rw[a,aP (fun z=>c (dr.mp z))];exact KD.val k b
theorem KD.any(k:Ms Int):∀{kvs:Ms (Ms Int×Dt)}{vs:Ms (Ms fC×V)},KD K H ρ kvs vs->(vs.any fun p=>decide (p.1=k.map Sum.inl))=kvs.any fun p=>decide (p.1=k)
 | [],_,r=>by rw[r.ag];rfl
 | p::kvs,_,r=>by
  obtain⟨v,b,rfl,g,a⟩:=r.Xe;rw[Jo,Jo,KD.any k a]
  congr 1
  exact decide_eq_decide.mpr dr
theorem KD.repl(k:Ms Int){d:Dt}{v:V}(g:Qi K H ρ d v):∀{kvs:Ms (Ms Int×Dt)}{vs:Ms (Ms fC×V)},KD K H ρ kvs vs->
 KD K H ρ (kvs.map fun p=>if p.1=k then(p.1,d)else p) (vs.map fun p=>if p.1=k.map Sum.inl then(p.1,v)else p)
 | [],_,r=>by rw[r.ag];exact⟨rfl,.nil⟩
 | p::kvs,_,r=>by
  obtain⟨u,e,rfl,b,a⟩:=r.Xe;rw[Qs,Qs];by_cases c:p.1=k
  . rw[dh c,dh (dr.mpr c)];exact KD.cons (p:=(p.1,d)) g (KD.repl k g a)
  . rw[dG c,dG (fun z=>c (dr.mp z))];exact KD.cons b (KD.repl k g a)
theorem KD.put(k:Ms Int){d:Dt}{v:V}(g:Qi K H ρ d v){kvs:Ms (Ms Int×Dt)}{vs:Ms (Ms fC×V)}(r:KD K H ρ kvs vs):KD K H ρ (BJ kvs k d) (NF vs (k.map Sum.inl) v):=by
 unfold BJ NF;rw[r.any k];split
 . exact r.repl k g
 . refine⟨by rw[Fe,Fe,r.1];rfl,?_⟩;rw[Fe,Fe];exact r.2.append (.cons g .nil)
theorem KD.ext{a:Rg}{b:Hp}{kvs:Ms (Ms Int×Dt)}{vs:Ms (Ms fC×V)}(r:KD K H ρ kvs vs)(x:qc ρ a H b):KD K b a kvs vs:=⟨r.1,r.2.ext x⟩
theorem Rr.ny{h:HI}(S:Rr K ρ h H){a:Oa}{vs:Ms V}(e:H a=ε (.tup vs)):ρ.no a:=by
 refine⟨fun d=>?_,fun d=>?_⟩
 . obtain⟨n,f⟩:=mem_iff_getElem?.mp d;have i:n<h.length:=by rw[<- S.len];exact(Uo f).1
   have ob:=S.ob n a _ f (iu i);cases q:h[n]with
   | lst j=>rw[q]at ob;obtain⟨_,g,_⟩:=ob;rw[e]at g;cases g
   | ins y fs=>rw[q]at ob;obtain⟨_,_,_,_,g,_⟩:=ob;rw[e]at g;cases g
   | dk b=>rw[q]at ob;obtain⟨_,g,_⟩:=ob;rw[e]at g;cases g
   | dt b=>rw[q]at ob;obtain⟨_,g,_⟩:=ob;rw[e]at g;cases g
   | df b=>rw[q]at ob;obtain⟨_,_,g,_⟩:=ob;rw[e]at g;cases g
 . obtain⟨_,_,g⟩:=S.zt a d;rw[e]at g;cases g
theorem yQ{a:Oa}{kvs:Ms (Ms fC×V)}(h:H a=ε (.dT kvs)):IV H a:=fun _ _ e=>by rw[h]at e;cases e
end
section
variable{X:Cx}{e o i d a b f:Oe}{fe fo C fa fb fy B:RE}{pos A w t:Pos}
theorem yd:EM X (.Dict [] [] pos) rV:=by unhygienic exact PE.imp ig fun n H Q m=>by obtain⟨j,l,h,d,q,S,L,e,k⟩:=m;cases e;intro p g;refine k (j.add p) _ _ (Xu.mpr ⟨p,rfl,?_⟩) (S.own g ⟨[],AC,rfl,.nil⟩) (qc.own g);simp![Rg.add];rw[<- S.len,Ye (Ra _),Bu];rfl
theorem K7{s:Ms Oe}{g:RA}{x1}(h:AM X s g):EM X (.Tuple s x1 pos) (rQ g):=by
 unhygienic
  exact PE.imp (B1 h) fun F H Q y=>by
   obtain⟨x,l,h,d,M,S,L,e,k⟩:=y;obtain⟨⟨ds,J⟩,D,e⟩:=oA e;dsimp only at e;by_cases m:ds.length<=sizeLine
   . rw[dh m]at e;cases q:pD ds with
     | none=>rw[q]at e;cases e
     | some I=>rw[q]at e;cases e;refine⟨x,l,h,ds,_,S,L,D,fun j G O r u E=>⟨by rw[r.length];exact m,fun p n=>k j _ _ (bc.mpr ⟨p,rfl,u.out n,?_⟩) (u.fresh n) (E.trans (qc.fresh n))⟩⟩;rw[ZG q]at r;rw[AC,r.bi]
   . rw[dG m]at e;cases e
theorem Jh (hu:X.A.units+64<cLine) (ho:EM X o fo) (hy:EM X e fy) (hx:EM X f B) (m:M2 X o "get" w e f t:=by exact⟨rfl,rfl,rfl,rfl⟩) :
 EM X (.Call (.Attribute o "get" w) [e,f] [] t) (nI fo fy B):=by
 unhygienic
  exact PE.imp (Zg nofun ho hy hx m) fun σ H Q U=>by
   obtain⟨T,l,h,dd,h',S,L,e,k⟩:=U;obtain⟨⟨O,M⟩,e1,e⟩:=oA e;refine⟨T,l,h,O,M,S,L,e1,fun r x H1 R1 R G=>?_⟩;cases O with
   | ref n=>
    dsimp only at e;split at e
    . rename_i a0 q0;obtain⟨⟨y,J⟩,e2,e⟩:=oA e;dsimp only at e;cases y with
      | ntp g=>
       obtain⟨⟨dx,h3⟩,e3,e⟩:=oA e;dsimp only at e;split at e
       . rename_i u q;cases e;obtain⟨D,z,I⟩:=Xu.mp R1;obtain⟨s,g0,_⟩:=R.ob n D _ I q0;refine⟨D,z,.inr ⟨s,.inl g0⟩,r,l,M,.ntp g,J,R,L.ext G,e2,fun p y H2 R2 S2 F=>⟨p,l,J,dx,_,S2,L.ext (G.trans F),e3,fun j x3 H3 R3 P E=>?_⟩⟩;obtain⟨kb,W,nk,gk⟩:=bc.mp (Qi.ext E _ R2);obtain⟨Y,g1,g2⟩:=P.ob n D _ ((F.trans E).get I) q;refine⟨nF Y (g.map Sum.inl),by rw[W];exact az.t g1 (by rw[vM];exact gk),?_⟩;obtain⟨v1,Z⟩:=KD.val (K:=X.K) g g2;refine k j _ H3 ?_ P (G.trans (F.trans E));cases c:ZD u g with
         | none=>rw[Z c];exact R3
         | some d4=>obtain⟨v4,e4,r4⟩:=v1 d4 c;rw[e4];exact r4
       . cases e
      | _=>cases e
    . cases e
   | _=>cases e
theorem Eb(hu:X.A.units+64<cLine)(he:EM X e fe)(ho:EM X o fo)(hi:EM X i C)(hs:autoParam (swapsWith e (ε (.Subscript o i A)) pos.line X.env=pure false) Æ) :
 ZM X (.Assign [.Subscript o i A] e pos) (BP fe fo C):=by
 unhygienic
  exact PS.imp (Gn nofun ho hi he hs) fun D T H G=>by
   obtain⟨U,l,h,r,S,L,e,k⟩:=G;obtain⟨⟨v,O⟩,e1,e⟩:=oA e;obtain⟨⟨d,hd⟩,e2,e⟩:=oA e;obtain⟨⟨j,hj⟩,e3,e⟩:=oA e;refine⟨U,l,h,v,O,S,L,e1,fun F u H1 R1 S1 x=>⟨F,l,O,d,hd,S1,L.ext x,e2,fun E y H2 R2 S2 s=>⟨E,l,hd,j,hj,S2,L.ext (x.trans s),e3,fun g z H3 R3 R p=>?_⟩⟩⟩;cases d with
   | ref n=>
    cases j with
    | ntp Y=>
     dsimp only at e;split at e
     . rename_i I q;obtain⟨Z,e⟩:=JE e;cases e;obtain⟨Q,G,M⟩:=Xu.mp (Qi.ext p _ R2);obtain⟨vs,m,g2⟩:=R.ob n Q _ M q;obtain⟨kb,W,nk,gk⟩:=bc.mp R3;have J:=jo M;have P:KD X.K H3 g I vs:=g2;refine⟨Q,_,G,by rw[W];exact dq.t m (by rw[vM];exact gk) (by rw[P.length];exact Z),?_⟩;exact k g T _ (R.write M (yQ m) ⟨_,AC,(P.put Y (Qi.ext (s.trans p) _ R1)).ext (qc.write J (yQ m))⟩) (L.ext (x.trans (s.trans (p.trans (qc.write J (yQ m)))))) (x.trans (s.trans (p.trans (qc.write J (yQ m)))))
     . cases e
    | _=>cases e
   | _=>cases e
theorem eY{K:Oi}{H:Hp}{ρ:Rg}{n:Nat}{h:Oa}{ob:Obj}{g:Ms (Ms fC×V)}(Q:ρ.v[n]?=ε h)(e:H h=ε (.frz ob (.dT g))):B2 K H ρ (.it n) (QV h ob):=by
 intro U r R sm m i;have k:=sm.fz h ob _ e;have D:=sm.ix n h Q;simp![qi.at];cases q:R[n]? with
 | none=>trivial
 | some u=>
  cases u with
  | df j=>
   obtain⟨Z,vs,G,S⟩:=m.ob n h _ D q;have F:KD K U r j vs:=S;rw[k]at G;cases G;dsimp only;cases E:j[i]? with
   | none=>exact⟨g,k,by rw[F.length];exact Cu.mp E⟩
   | some p=>obtain⟨v,J,M⟩:=F.get E;refine⟨⟨g,_,k,J⟩,fun x H3 L=>?_⟩;obtain⟨W,O,Y,s,ex,y,P,T⟩:=L;have I:=P g k;rw[J]at I;cases I;subst ex T;rw[vM]at y;exact⟨oJ m (.cons (Wo.mpr ⟨O,_,rfl,.inl ⟨m.ny y,.inl y⟩,Qe.ints p.1⟩) (.cons M .nil)) s,qc.fresh s,m.fresh s⟩
  | _=>trivial
theorem Bg {x:Ms Oe} {x1} {O:Pos} (P:EM X d fa) (m:autoParam (attributeBase d "items" X.env (eval d X.env)=eval d X.env) Æ) (j:autoParam ((w.endLine==t.line)=true) Æ) :
 IM X (.Tuple x x1 O) (.Call (.Attribute d "items" w) [] [] t) (nJ fa):=by
 unhygienic
  exact PI.imp (lg P m j) fun Z H R M=>by
   obtain⟨J,l,h,s,h',S,L,e,k⟩:=M;obtain⟨⟨G,Q⟩,U,e⟩:=oA e;refine⟨J,l,h,G,Q,S,L,U,fun g v Y W y I=>?_⟩;cases G with
   | ref n=>
    obtain⟨D,z,r⟩:=Xu.mp W;have E:=jo r;refine⟨D,z,?_⟩;dsimp only at e;split at e
    . rename_i u q;cases e;obtain⟨vs,p,F⟩:=y.ob n D _ r q;have T:KD X.K Y g u vs:=F;refine .inl ⟨vs,p,fun ob=>k g _ _ (eY r AC) (y.write r (yQ p) ⟨ob,vs,AC,T.ext (qc.write E (yQ p))⟩) (I.trans (qc.write E (yQ p)))⟩
    . rename_i u q;cases e;obtain⟨ob,vs,p,F⟩:=y.ob n D _ r q;exact .inr ⟨ob,vs,p,k g _ _ (eY r p) y I⟩
    . cases e
   | _=>cases e
end
end SM
namespace L2
section
variable{prog:Oo}{w:O4}{A:Pa}{R:Result->Nu->Prop}{I:Oa}{fp a:Ms Oa}{n:Nat}{P:Nat->Mu->Prop}{d:Nat->Pu->Prop}
noncomputable abbrev cQ (b:Mu):Ms (Str×Mu):=[(Str.ofString "default",b)]
theorem Ny(Z:Mu)(E:Walks prog w A.in1 I fp a n P d)(x:Nat->Nat->Bool)(L:CmpOf prog w A.in1 .Lt P x)(S:Oa)(Q:S∉fp) :
 ∀(k j:Nat)(s:Nu)(i:Mu)(c:Nat),n-(j+1)=k->j+1<=n->d (j+1) s.heap->P (argBest x j) i->
 s.heap.get? S=ε { cls:=.type "list",dict:=none,data:=.seq #[i,i] c,slots:=#[] }->
 (∀v D C,P (argBest x (n-1)) v->(∀b o,b∉a->b≠S->s.heap.get? b=ε o->D.get? b=ε o)->R (.ok (.ret v)) { s with heap:=D,toks:=C })->
 codeAny (model prog w) A (.builtin "min.loop" ⟨[.ref I,.none,.ref S],cQ Z⟩) R s:=by
 have O:S∉a:=fun h=>Q (E.sub _ h)
 have M:(toString "min" ++ toString ".loop" :String) = "min.loop" :=by decide
 intro k
 induction k with
 | zero=>
  intro j s i c Y X st G B m;have T:j+1=n:=by omega
  refine Ho F.entry_min_loop ?_;rw[Gi F.plain_min_loop _];show wpAny _ A.in1 (seqItems? (.ref S) >>=_) _ _ s;refine ao (wpAny_seqItems B rfl ?_);show wpAny _ A.in1 (tryCatch (pyNext (.ref I)) _ >>=_) _ _ s;refine ao (wpAny_tryCatch (E.done s _ _ (T ▸ st) fun D C kp=>?_));have g:=kp S _ O B;show wpAny _ A.in1 (updateSeq S (fun _=>#[]) >>=_) _ _ _;refine ao (Mi g rfl (ao (wpAny_letGo (au ?_))));exact m i _ C (by rw[<- T];exact G) fun b o p ns e=>(tu _ _ (m5 ns)).trans (kp b o p e)
 | succ k ih=>
  intro j s i c Y X st G B m;have lt:j+1<n:=by omega
  refine Ho F.entry_min_loop ?_;rw[Gi F.plain_min_loop _];show wpAny _ A.in1 (seqItems? (.ref S) >>=_) _ _ s;refine ao (wpAny_seqItems B rfl ?_);show wpAny _ A.in1 (tryCatch (pyNext (.ref I)) _ >>=_) _ _ s;refine ao (wpAny_tryCatch (E.item (j+1) s _ _ lt st fun v D C W y kp=>?_));have g:=kp S _ O B;show wpAny _ A.in1 (tryCatch (holding [v,v] (richCompare .Lt v i >>=_)) _ >>=_) _ _ _;refine ao (wpAny_tryCatch (Ds (ao (L (j+1) (argBest x j) v i _ _ _ W G ?_))));refine ao (Ds (Eo (ao (wpAny_letGo (au ?_)))));cases U:x (j+1) (argBest x j)with
  | true=>
   simp![eG];refine ao (Mi g rfl (ao (wpAny_letGo ?_)));rw[M];refine au ⟨plainId_quiet F.plain_min_loop _,ih (j+1) _ v _ nofun lt (E.frame _ _ _ y fun b J o e=>?_) (by simp![argBest,U,eG];exact W) (Fd _ g rfl) fun H r f u q=>?_⟩
   . exact(tu _ _ (fun z:S=b=>Q (by rw[z];exact J))).trans e
   . exact m H r f u fun b o p ns e=>q b o p ns ((tu _ _ (m5 ns)).trans (kp b o p e))
  | false=>simp![Vs,eH];refine ao (wpAny_letGo ?_);rw[M];refine au ⟨plainId_quiet F.plain_min_loop _,ih (j+1) _ i c nofun lt y (by simp![argBest,U,Vs,eH];exact G) g fun H r f u q=>?_⟩;exact m H r f u fun b o p ns e=>q b o p ns (kp b o p e)
theorem Uv(H:Mu)(i:Walks prog w A.in1 I fp a n P d)(y:Nat->Nat->Bool)(x:CmpOf prog w A.in1 .Lt P y)(S:Oa)(k:S∉fp)(E:0<n){s:Nu}{c:Nat}(st:d 0 s.heap)
 (G:s.heap.get? S=ε { cls:=.type "list",dict:=none,data:=.seq #[] c,slots:=#[] })
 (u:∀v r C,P (argBest y (n-1)) v->(∀b o,b∉a->b≠S->s.heap.get? b=ε o->r.get? b=ε o)->R (.ok (.ret v)) { s with heap:=r,toks:=C }) :
 codeAny (model prog w) A (.builtin "min.loop" ⟨[.ref I,.none,.ref S],cQ H⟩) R s:=by
 have M:S∉a:=fun h=>k (i.sub _ h)
 have L:(toString "min" ++ toString ".loop" :String) = "min.loop" :=by decide
 refine Ho F.entry_min_loop ?_;rw[Gi F.plain_min_loop _];show wpAny _ A.in1 (seqItems? (.ref S) >>=_) _ _ s;refine ao (wpAny_seqItems G rfl ?_);show wpAny _ A.in1 (tryCatch (pyNext (.ref I)) _ >>=_) _ _ s;refine ao (wpAny_tryCatch (i.item 0 s _ _ E st fun v r C O j kp=>?_));have g:=kp S _ M G;show wpAny _ A.in1 (updateSeq S (fun _=>#[v,v]) >>=_) _ _ _;refine ao (Mi g rfl ?_);rw[L];refine au ⟨plainId_quiet F.plain_min_loop _,Ny H i y x S k _ 0 _ v _ rfl E (i.frame _ _ _ j fun b p o e=>?_) O (Fd _ g rfl) fun J q f B m=>?_⟩
 . exact(tu _ _ (fun z:S=b=>k (by rw[z];exact p))).trans e
 . exact u J q f B fun b o D ns e=>m b o D ns ((tu _ _ (m5 ns)).trans (kp b o D e))
end
section
variable{prog:Oo}{w:O4}{A:Pa}{E:Mu->Nu->Prop}{s:Nu}
theorem Rz (x d:Mu):argsOk "min" ⟨[x],cQ d⟩:=by unfold argsOk;kernel_rfl
theorem Py{x d:Mu}{R:Mu->Nu->Prop}
 (h:wpAny (model prog w) A.in1 (pyIter x) (fun p a=>∃I fp i n P St g,p=.ref I/\Walks prog w A.in1 I fp i n P St/\St 0 a.heap/\(∀b∈fp,b<a.heap.objs.size)/\0<n/\CmpOf prog w A.in1 .Lt P g/\
  ∀v f j,P (argBest g (n-1)) v->(∀b o,b∉i->a.heap.get? b=ε o->f.get? b=ε o)->R v { a with heap:=f,toks:=j }) E s) :
 wpAny (model prog w) A (call (.builtin "min") [x] (cQ d)) R E s:=by
 have r:(toString "min" ++ toString ".loop" :String) = "min.loop" :=by decide
 refine kmk_tree PySem.F.kind_min PySem.F.plain_min PySem.F.entry_min (Rz _ _) ?_;show wpAny _ A.in1 (Builtin.Builtins.bindParams "min" ["key", "default"] 0 ⟨[],cQ d⟩ >>=_) _ _ s;refine ao (wpAny_of_eq (show Builtin.Builtins.bindParams "min" ["key", "default"] 0 ⟨[],cQ d⟩=pure [none,ε d]from rfl) (ao (au ?_)));refine ao (Gu h (fun p a G=>?_) fun _ _ e=>e);obtain⟨I,fp,i,n,P,St,g,rfl,q,st,B,C,m,k⟩:=G;refine ao (yu ?_);have y:a.heap.objs.size∉fp:=fun D=>Du _ (B _ D)
 rw[r];refine au ⟨plainId_quiet F.plain_min_loop _,Uv d q g m a.heap.objs.size y C (q.frame _ _ _ st fun b _ o e=>cu _ e) (je _ rfl) fun v f j H kp=>?_⟩;exact k v f j H fun b o u e=>kp b o u (ni (fu e)) (cu _ e)
theorem Ly{l:Oa}{xs:Pb (Int×Tok)}{p:Mu}{R:Mu->Nu->Prop}(n:A.handled=none)(m:s.heap.IsList l (intItems xs))(f:0<xs.size)
 (h:∀v a d,(intItems xs)[argBest (fun i j=>decide (numAt xs i<numAt xs j)) (xs.size-1)]?=ε v->(∀b o,s.heap.get? b=ε o->a.get? b=ε o)->R v { s with heap:=a,toks:=d }) :
 wpAny (model prog w) A (call (.builtin "min") [.ref l] (cQ p)) R E s:=by
 refine Py (iter_intList m fun r e st k g=>?_);subst e;refine⟨_,_,_,_,_,_,_,rfl,Walks.list (A:=A.in1) n _ l g (intItems xs),st,k,by simpa[intItems]using f,CmpOf.ints_lt (numAt xs) (fun _ _=>intItems_at),fun v a d q kp=>?_⟩;exact h v a d (by simpa[intItems]using q) (old_kept kp)
end
section
variable{X:Cx}{e d:Oe}{c:TA}{b:TE}{p pos kp:Pos}
noncomputable def N9(K:Oi)(c:TA)(b:TE):TE:=fun f H Q=>c f H fun h i=>b f i fun _ g=>∃(q:Oa)(ns:Ms Int),h=[.ref q]/\qq K g q (ns.map V.int)/\ns ≠ []/\∀M,M∈ns->(∀a∈ns,M<=a)->Q (.int M) g
theorem Xb (U:X.calm=true) (T:Gl X "min") (R:X.mg "min" =none) (i:PA X [e] c) (hd:PE X d b) (he:autoParam (starEach [e] X.env=[(false,eval e X.env)]) Æ) :
 PE X (.Call (.Name "min" p) [e] [⟨ε "default",d,kp⟩] pos) (N9 X.K c b):=by
 intro f s x H Q I h;refine wpAny_Call_Name_kw (EG I T R PyProof.Rows.boot_min ?_);refine callWith_kw ?z1 (by rw[he];rfl) (by rw[he];rfl) rfl rfl;refine vB (i pos f s x H _ I h) fun C D ⟨vs,H1,Z,F,L⟩=>?z2
 refine kws_cons ?z3;refine vB (hd f D x H1 _ Z L) fun v s2 ⟨y,H2,r,ry,J⟩=>?z4
 refine kws_nil ?z5;show wpAny _ _ (call (.builtin "min") C (cQ v)) _ _ _;obtain⟨q,ns,rfl,P,n,o⟩:=J;obtain⟨u,rfl,E⟩:=HF F;cases E;obtain⟨M,G,pl,hz⟩:=r.list P;obtain⟨g,Y,e2⟩:=tO (ZJ G);have B:=pl.isList;rw[Y]at B;have m:0<g.size:=by
  rcases Nat.eq_zero_or_pos g.size with z | z
  . exfalso;apply n;rw[<- e2];have:g.toList=[]:=eq_nil_of_length_eq_zero (by simpa using z);rw[this];rfl
  . exact z
 refine Ly (r.ok.hd U) B m fun v h' tk O k=>?_
 obtain⟨t,rfl⟩:=intItems_at O;obtain⟨h1,W⟩:=argBest_lt (numAt g) (g.size-1);refine⟨.int _,H2,r.kept k,⟨t,rfl⟩,o _ ?_ fun a i=>?_⟩
 . rw[numAt_eq,<- e2];exact getD_mem (by rw[lq,vo];omega)
 . rw[<- e2]at i;obtain⟨j,S,rfl⟩:=mem_getD i;rw[lq,vo]at S;rw[<- numAt_eq];exact W j nofun
end
end L2
namespace SM
def nV(fa b:RE):RE:=fun l h=>(fa l h).bind fun r=>(b l r.2).bind fun q=>(HA q.2 r.1).bind fun a=>(pD a).bind fun ns=>if ns ≠ []then ε (.int (pC ns),q.2)else none
section
variable{X:Cx}{e d:Oe}{fa b:RE}{p pos kp:Pos}
theorem Jd (D:X.calm=true) (C:Gl X "min") (B:X.mg "min" =none) (E:EM X e fa) (hd:EM X d b) (hs:autoParam (nB e=true) Æ):EM X (.Call (.Name "min" p) [e] [⟨ε "default",d,kp⟩] pos) (nV fa b):=by unhygienic exact PE.imp (Xb D C B (wC E MD (aB hs _ _)) hd (aB hs _ _)) fun W H Q u=>by obtain⟨s,l,h,dd,h',S,L,e,k⟩:=u;obtain⟨⟨P,j⟩,J,e⟩:=oA e;obtain⟨⟨O,h2⟩,e2,e⟩:=oA e;obtain⟨Y,I,e⟩:=oA e;obtain⟨ns,q,e⟩:=oA e;obtain⟨f,e⟩:=JE e;cases e;refine⟨s,l,h,P,j,S,L,J,fun i v H1 T R o=>⟨i,l,j,O,_,R,L.ext o,e2,fun g v2 U R2 m n=>?_⟩⟩;obtain⟨a,Z,z,sq,r⟩:=FD m (Qi.ext n _ T) I;rw[ZG q]at r;rw[r.bi]at sq;obtain⟨y,x⟩:=BO ns f;refine⟨a,ns,by rw[z],sq,f,fun M G F=>?_⟩;have:M=pC ns:=Int.le_antisymm (F _ y) (x M G);rw[this];exact k g _ U (Ti.mpr rfl) m (o.trans n)
end
end SM
namespace L2
noncomputable def WB(ns:Ms Int):Ms Int:=ns.foldl (fun a k=>if a.any (· ==k)then a else a++[k]) []
theorem UY(ns:Ms Int)(n:Nat)(h:n=ns.length):firstMet (fun i=>ns.getD i 0) n=WB ns:=by
 subst h;have e:(List.range ns.length).map (fun i=>ns.getD i 0)=ns:=by
  apply ext_getElem
  . simp
  . intro i b a;simp[a]
 unfold firstMet WB;rw[e];rfl
section
variable{X:Cx}
theorem jk (E:X.calm=true):Ze X (.type "set") (fun i H Q=>∃(q:Oa) (ns:Ms Int),i=[.ref q]/\qq X.K H q (ns.map V.int)/\ns.length+1<4096/\
 ∀p,H p=none->Q (.ref p) (xB H p (.set (fun k=>(WB ns).any (· ==k)) (WB ns).length))):=by
 intro j s F H i G Q I r h;obtain⟨q,ns,rfl,C,L,f⟩:=h;obtain⟨u,rfl,y⟩:=HF r;cases y;obtain⟨d,B,pl,J⟩:=I.list C;have m:=ZJ B;have D:d.length=ns.length:=IntsAre.length m;have e:d.toArray.size=ns.length:=by rw[cG,D]
 refine PySem.call_set_list (items:=d.toArray) (ns:=ns) (I.ok.hd E) pl.isList (by simpa using m) (by rw[e];unfold scanBound;omega) fun M x n kp=>?_
 rw[UY ns _ e]at n;exact⟨.ref s.heap.objs.size,_,I.laid (a:=s.heap.objs.size) (o:=.set (fun k=>(WB ns).any (· ==k)) (WB ns).length) (t':=x) (fun b u g=>kp b u (fu g) g) (Ra _) n,rfl,f _ (I.hok.fresh (Ra _))⟩
theorem EX:Ze X (.builtin "len") (fun d H Q=>∃(p:Oa) (S:Int->Bool) (n:Nat),d=[.ref p]/\H p=ε (.set S n)/\Q (.int n) H):=by
 intro e s C H d D Q I r h;obtain⟨q,S,n,rfl,i,a⟩:=h;obtain⟨u,rfl,g⟩:=HF r;cases g;obtain⟨o,b,G,t,B,y,x,F,E,f,m,k⟩:=(show s.heap.SetOf (intKind X.prog X.w) q S n from I.hok q _ i);subst k;refine call_len_set B y x m ?_ ⟨.int b.size,H,I.tok _,⟨_,rfl⟩,a⟩;have:b.size<4096:=by unfold scanBound at f;exact f
 have j:(b.size:Int)<4096:=by omega
 exact Int.lt_trans j (by decide)
end
end L2
namespace SM
def nM:Dt->HI->Ni (Dt×HI):=fun d h=>(HA h d).bind fun a=>(pD a).bind fun ns=>if ns.length+1<4096 then ε (.int (WB ns).length,h)else none
section
variable{X:Cx}{e:Oe}{f:RE}{p p' pos pos':Pos}
theorem Dw (x:X.calm=true) (u:Gl X "len") (s:X.mg "len" =none) (i:Gl X "set") (g:X.mg "set" =none) (y:EM X e f) (hs:autoParam (nB e=true) Æ) :
 EM X (.Call (.Name "len" p) [.Call (.Name "set" p') [e] [] pos'] [] pos) (YB nM f):=by
 unhygienic exact PE.imp (eK EX u s PySem.boot_len (wC (bT (jk x) i g boot_set (wC y MD (aB hs _ _)) (he:=aB hs _ _)) MD rfl)) fun F H Q n=>by obtain⟨m,l,h,d,M,S,L,e,k⟩:=n;obtain⟨⟨C,J⟩,B,e⟩:=oA e;obtain⟨G,e2,e⟩:=oA e;obtain⟨ns,q,e⟩:=oA e;obtain⟨o,e⟩:=JE e;cases e;refine⟨m,l,h,C,_,S,L,B,fun b v O D j E=>?_⟩;obtain⟨a,I,z,sq,r⟩:=FD j D e2;rw[ZG q]at r;rw[r.bi]at sq;exact⟨a,ns,by rw[z],sq,o,fun w hw=>⟨w,_,_,rfl,AC,k b _ _ (Ti.mpr rfl) (j.fresh hw) (E.trans (qc.fresh hw))⟩⟩
end
end SM
namespace L2
noncomputable def Dm(lo c:Int)(n:Nat):It:=⟨fun i _=>i<n,fun i H x a=>a=H/\x=.int (lo+(i:Int)*c),fun i _=>n<=i⟩
theorem Ey{P:Oo}{w:O4}{K:Oi}{J:Oe}(it:Oa)(lo c:Int)(n:Nat):pH P w K J (Dm lo c n) [it] it (fun i h=>IsRangeIter h it (lo+(i:Nat)*c) ((n:Int)-(i:Nat)) c) where
 mem:=by simp
 obj:=fun i h st b d=>by
  have e:b=it:=by simpa using d
  subst e;exact⟨_,st,fun v z=>by
   have G:Data.fields _=Data.cell v:=z;cases G⟩
 keep:=fun i h j st k=>k it ⋯ _ st
 item:=by
  intro X q hw r p i a s D H E I g st m;subst q hw r;obtain⟨C,B,O,y,x,u⟩:=g it ⋯;have W:=Walks.range (prog:=X.prog) (w:=X.w) (I.ok.hd p) it lo c n;refine W.item i s _ _ m st fun v j F M f L=>?_
  obtain⟨t,rfl⟩:=M;have R:py X a D H { s with heap:=j,toks:=F }:=I.turned (fun b o d e=>L b o (by simpa using d) e) C B y x u;exact⟨_,rfl,MP (s:={ s with heap:=j,toks:=F }) (n := "range_iterator") f rfl rfl (by decide) ⟨.int (lo+(i:Int)*c),H,R,⟨t,rfl⟩,⟨rfl,rfl⟩,f,fun b d=>(g b d).1⟩⟩
 done:=by intro X q hw r p i a s D H E I g st m;subst q hw r;obtain⟨C,B,O,y,x,u⟩:=g it ⋯;exact wpAny_pyNext_range_end (I.ok.hd p) st (by have:n<=i:=m;omega) fun j Q=>⟨rfl,I.turned (t':=s.toks) (fun b o d e=>Q b o d e) C B y x u⟩
 self:=fun _ _ _ _ _ st h=>wpAny_pyIter_rangeiter st h
section
variable{X:Cx}{tg:Oe}
def w8(d:TA):TI:=fun a H R=>d a H fun b e=>∃(i j:Int)(c:Nat),b=[.int i,.int j,.int (c:Int)]/\(0<=i/\i<2^61/\0<=j/\j<2^61/\0<c/\c<1000)/\R (Dm i c ((j-i+(c:Int)-1)/(c:Int)).toNat) e
theorem fY{i j:Int}{c:Nat}(b:0<c):Builtin.Range.rangeSize i j (c:Int)=(((j-i+(c:Int)-1)/(c:Int)).toNat:Int):=by
 have a:(c:Int)>0:=by omega
 unfold Builtin.Range.rangeSize;rw[dh a];by_cases h:i<j
 . rw[dh h,show j-i+(c:Int)-1=(j-i-1)+1*(c:Int) by omega,Int.add_mul_ediv_right _ _ nofun];have:0<=(j-i-1)/(c:Int):=Int.ediv_nonneg nofun nofun;omega
 . rw[dG h];have:(j-i+(c:Int)-1)/(c:Int)<=0:=by have d:(j-i+(c:Int)-1)/(c:Int)<1:=Int.ediv_lt_of_lt_mul nofun nofun;omega
   omega
theorem Cv{i j:Int}{c:Nat}(q:0<=i/\i<2^61/\0<=j/\j<2^61/\0<c/\c<1000):Builtin.Range.small i j (c:Int)=true:=by
 obtain⟨m,k,h,g,b,f⟩:=q;have a:(c:Int)>0:=by omega
 have sz:Builtin.Range.rangeSize i j (c:Int)<=2^61+1/\0<=Builtin.Range.rangeSize i j (c:Int):=by
  rw[fY b];refine⟨?_,by omega⟩;have e:(j-i+(c:Int)-1)/(c:Int)<2^61+1:=Int.ediv_lt_of_lt_mul nofun (by
   have:(2^61+1:Int)*(c:Int)=2^61*(c:Int)+(c:Int):=by rw[Int.add_mul,Int.one_mul]
   have d:(2^61:Int)*1<=2^61*(c:Int):=Int.mul_le_mul_of_nonneg_left nofun (by decide);omega)
  omega
 unfold Builtin.Range.small;simp![Builtin.Range.rangeFitsLong,rz,Bool.or_eq_true,decide_eq_true_eq,beq_iff_eq,a,eG];omega
theorem Zy {a b d:Oe} {C:TA} {p pos:Pos} (M:Gl X "range") (L:X.mg "range" =none) (P:PA X [a,b,d] C) (hs:starEach [a,b,d] X.env=[(false,eval a X.env),(false,eval b X.env),(false,eval d X.env)]) (n:starEach [b,d] X.env=[(false,eval b X.env),(false,eval d X.env)]) :
 PI X tg (.Call (.Name "range" p) [a,b,d] [] pos) (w8 C):=by
 intro g s B H R I h;refine Call_ (EG I M L boot_range (PyProof.Rows.callWith_type1 (vB (P pos g s B H _ I h) fun W k E=>?_) (by rw[hs,n]) (by rw[n];rfl)));obtain⟨U,D,T,F,J⟩:=E;obtain⟨i,j,c,e,x,q⟩:=J;subst e;cases F with
 | cons r m=>
  cases m with
  | cons G m=>
   cases m with
   | cons u m=>
    cases m;obtain⟨t,rfl⟩:=r;obtain⟨t',rfl⟩:=G;obtain⟨f,rfl⟩:=u;have S:=x.2.2.2.2.1;have Y:=x.2.2.2.2.2;refine call_range_3 (show((c:Nat):Int)≠0 by omega) ?_ (Or.inl (PyProof.noPylong_small nofun));refine wpAny_pyIter_range (IsRange.new ..) (Cv x) ?_;have y:py X g B D { k with heap:=k.heap.push { cls:=.type "range",data:=.fields #[.int i t,.int j t',.int (c:Int) f] },toks:=k.toks }:=T.kept fun b o e=>cu _ e
    refine⟨(k.heap.push { cls:=.type "range",data:=.fields #[.int i t,.int j t',.int (c:Int) f] }).objs.size,[(k.heap.push { cls:=.type "range",data:=.fields #[.int i t,.int j t',.int (c:Int) f] }).objs.size],_,_,D,rfl,
     y.kept (t':=k.toks) fun b o e=>cu _ e,Ey _ i c ((j-i+(c:Int)-1)/(c:Int)).toNat,?_,fun b O=>?_,q⟩
    . have Q:i+((0:Nat):Int)*(c:Int)=i:=by simp
      have e2:((((j-i+(c:Int)-1)/(c:Int)).toNat:Nat):Int)-((0:Nat):Int)=Builtin.Range.rangeSize i j (c:Int):=by rw[fY S];omega
      show IsRangeIter _ _ (i+((0:Nat):Int)*(c:Int)) (((((j-i+(c:Int)-1)/(c:Int)).toNat:Nat):Int)-((0:Nat):Int)) (c:Int);rw[Q,e2];exact je _ rfl
    . have e:b=(k.heap.push { cls:=.type "range",data:=.fields #[.int i t,.int j t',.int (c:Int) f] }).objs.size:=by simpa using O
      subst e;exact y.bv (Ra _) (y.hok.fresh (Ra _))
end
end L2
namespace SM
noncomputable def Z3(f g:RE)(c:Nat):RI:=fun l h=>(f l h).bind fun r=>(g l r.2).bind fun q=>match r.1,q.1 with
 | .int i,.int j=>if 0<=i/\i<2^61/\0<=j/\j<2^61/\0<c/\c<1000 then ε (.vals ((List.range ((j-i+(c:Int)-1)/(c:Int)).toNat).map fun(k:Nat)=>Dt.int (i+(k:Int)*(c:Int))),q.2)else none | _,_=>none
noncomputable def xJ:OD:=fun a b h=>match a,b with
 | .tup xs,.tup ys=>if xs ≠ []/\xs.length+ys.length<=sizeLine then ε (.tup (xs++ys),h)else none
 | _,_=>none
noncomputable def jF(f:Str)(v:Dt):Ms (Str×Dt)->Ms (Str×Dt)
 | []=>[(f,v)]
 | (g,x)::r=>if g=f then(g,v)::r else(g,x)::jF f v r
noncomputable def JD(f:Str):Ms (Str×Dt)->Ni Dt
 | []=>none
 | (g,x)::r=>if f=g then ε x else JD f r
def tG(x f:Str)(fo:RE):RE:=fun l h=>(fo l h).bind fun r=>match r.1 with
 | .ref n=>(match r.2[n]? with
  | some (.ins y fs)=>if y=x then(JD f fs).bind fun d=>ε (d,r.2)else none
  | _=>none)
 | _=>none
def qJ(x f:Str)(fo fe:RE):RS:=fun l h=>(fe l h).bind fun r=>(fo l r.2).bind fun q=>match q.1 with
 | .ref n=>(match q.2[n]? with
  | some (.ins y fs)=>if y=x/\fs.length<1000 then ε (.nx l (q.2.set n (.ins y (jF f r.1 fs))))else none
  | _=>none)
 | _=>none
noncomputable def GP(x:Str)(F:zB)(g:RA):RE:=fun l h=>(g l h).bind fun r=>(F (.ref r.2.length::r.1) (r.2++[.ins x []])).bind fun q=>match q.1 with
 | .non=>ε (.ref r.2.length,q.2)
 | _=>none
def tJ(x m:Str)(F:zB)(fo:RE)(g:RA):RE:=fun l h=>(fo l h).bind fun r=>match r.1 with
 | .ref n=>(match r.2[n]? with
  | some (.ins y fs)=>if y=x/\JD m fs=none then(g l r.2).bind fun q=>F (.ref n::q.1) q.2 else none
  | _=>none)
 | _=>none
section
variable{X:Cx}{tg:Oe}
theorem Mw {a b:Oe} {f g:RE} {c:Nat} {p pos:Pos} {d:Oe} (Q:Gl X "range") (P:X.mg "range" =none) (U:EM X a f) (T:EM X b g) (hd:EM X d (eC (.int (c:Int)))) (hs:autoParam (nB a=true) Æ) (o:autoParam (nB b=true) Æ) (m:autoParam (nB d=true) Æ) :
 IM X tg (.Call (.Name "range" p) [a,b,d] [] pos) (Z3 f g c):=by
 unhygienic
  exact PI.imp (Zy Q P (wC U (wC T (wC hd MD (aB m _ _)) (aB o _ _)) (aB hs _ _)) (by rw[aB hs,aB o,aB m];rfl) (by rw[aB o,aB m];rfl)) fun σ H R O=>by
   obtain⟨M,l,h,s,h',S,L,e,k⟩:=O;obtain⟨⟨G,E⟩,W,e⟩:=oA e;obtain⟨⟨F,C⟩,e2,e⟩:=oA e;refine⟨M,l,h,G,E,S,L,W,fun B v H1 R1 S1 D=>⟨B,l,E,F,C,S1,L.ext D,e2,fun y u H2 R2 S2 I=>⟨y,l,C,.int (c:Int),C,S2,L.ext (D.trans I),rfl,fun x u3 H3 R3 S3 E3=>?_⟩⟩⟩;cases G with
   | int i=>
    cases F with
    | int j=>
     obtain⟨Y,e⟩:=JE e;cases e;refine⟨i,j,c,by rw[Ti.mp R1,Ti.mp R2,Ti.mp R3],Y,k x _ H3 (fun H4 J h4 E4 Z n=>?_) S3 (D.trans (I.trans E3))⟩;simp![qi.at,qu];by_cases r:n<((j-i+(c:Int)-1)/(c:Int)).toNat
     . rw[Ls r];refine⟨r,fun v H5 q=>?_⟩;obtain⟨rfl,rfl⟩:=q;exact⟨Ti.mpr rfl,qc.refl _ _,Z⟩
     . rw[jj (by simpa using Ie.mp r)];exact Ie.mp r
    | _=>cases e
   | _=>cases e
theorem OZ:OM X (binaryOp .Add) xJ:=by
 unhygienic
  exact qv.imp jr fun x y H Q q=>by
   obtain⟨j,h,J,I,d,M,S,o,R2,e,k⟩:=q;cases J with
   | tup L=>
    cases I with
    | tup s=>
     obtain⟨⟨G,E⟩,e⟩:=JE e;cases e;obtain⟨a,B,m,D,g⟩:=Wo.mp o;obtain⟨b,u,r,C,f⟩:=Wo.mp R2;refine⟨a,b,B,u,m,r,D.sq,C.sq,fun z=>?_,by rw[g.length,f.length];exact E,fun z=>?_,fun z p i=>k j _ _ (oJ S (g.append f) i) (S.fresh i) (qc.fresh i)⟩
     . have:=g.length;rw[z]at this;exact G (length_eq_zero_iff.mp this.symm)
     . have n:=f.length;rw[z]at n;have F:s=[]:=length_eq_zero_iff.mp n.symm;subst F;rw[Ri]at k;exact k j _ _ (m ▸ o) S (qc.refl _ _)
    | _=>cases e
   | _=>cases e
end
def NP(f:RE):RI:=fun l h=>(f l h).bind fun r=>match r.1 with
 | .lst a=>ε (.vals (uJ 0 a),r.2)
 | .ref n=>(match r.2[n]? with
  | some (.lst _)=>ε (.en n,r.2)
  | _=>none)
 | _=>none
theorem Kr {X:Cx} {C:Ms Oe} {x1} {tp p pos:Pos} {a:Oe} {f:RE} (hg:Gl X "enumerate") (hm:X.mg "enumerate" =none) (ha:EM X a f) (hs:autoParam (nB a=true) Æ):IM X (.Tuple C x1 tp) (.Call (.Name "enumerate" p) [a] [] pos) (NP f):=by
 unhygienic
  refine PI.imp (Zb hg hm (wC ha MD (aB hs _ _)) (aB hs _ _)) fun σ H R zz=>?_
  obtain⟨ρ,l,h,s,h',S,L,e,k⟩:=zz;obtain⟨⟨Z,E⟩,e1,e⟩:=oA e;refine⟨ρ,l,h,Z,E,S,L,e1,fun B v H1 R1 U E1=>?_⟩;cases Z with
  | lst M=>
   cases e;obtain⟨b,g,rfl,q,r⟩:=Xi.mp R1;refine⟨b,rfl,⟨g,q.sq⟩,k B _ H1 (fun H2 J E I x i=>?_) U E1⟩;have P:=q.same I;have r2:=Qe.same I _ r;simp![qi.at,sX,xu];cases D:M[i]? with
   | none=>refine⟨g,P.sq,?_⟩;rw[r.length];exact Cu.mp D
   | some d=>obtain⟨v,m,G⟩:=r2.get D;refine⟨⟨g,v,P.sq,m⟩,fun u H3 y=>?_⟩;obtain⟨p0,y0,j,rfl,T,rfl⟩:=y;have F:=T g P.sq;rw[m]at F;cases F;exact⟨oJ x (.cons (Ti.mpr rfl) (.cons G .nil)) j,qc.fresh j,x.fresh j⟩
  | ref n=>
   dsimp only at e;split at e
   . rename_i a0 q0;cases e;obtain⟨b,rfl,W⟩:=Xu.mp R1;obtain⟨O,g0,_⟩:=U.lst W q0;refine⟨b,rfl,⟨O,qq.of g0⟩,k B _ H1 (fun H2 J E I x i=>?_) U E1⟩;have Q:=I.ix _ _ W;simp![qi.at];cases q:E[n]? with
     | none=>trivial
     | some o=>
      cases o with
      | lst M=>
       obtain⟨g,m,r⟩:=x.lst Q q;dsimp only;cases D:M[i]? with
       | none=>refine⟨g,qq.of m,?_⟩;rw[r.length];exact Cu.mp D
       | some d=>obtain⟨v,G,F⟩:=r.get D;refine⟨⟨g,v,qq.of m,G⟩,fun u H3 y=>?_⟩;obtain⟨p0,y0,j,rfl,T,rfl⟩:=y;have Y:=T g (qq.of m);rw[G]at Y;cases Y;exact⟨oJ x (.cons (Ti.mpr rfl) (.cons F .nil)) j,qc.fresh j,x.fresh j⟩
      | _=>trivial
   . cases e
  | _=>cases e
theorem uQ{c:Prop}[Decidable c]{a:Type}{x:Ni a}{b:a}(e:(if c then x else none)=ε b):c/\x=ε b:=by
 by_cases h:c
 . rw[dh h]at e;exact⟨h,e⟩
 . rw[dG h]at e;cases e
def rn(K:Oi)(x:Str)(C:Oa):Prop:=nsIn K mainGlobals x=ε (ε (.ref C))
theorem rn.inj{K:Oi}{x:Str}{C C':Oa}(h:rn K x C)(h':rn K x C'):C=C':=by have:=h.symm.trans h';cases this;rfl
theorem CU{K:Oi}{H:Hp}{ρ:Rg}{f:Str}:∀{fs:Ms (Str×Dt)}{vs:Ms (Str×V)},fs.map (·.1)=vs.map (·.1)->Qe K H ρ (fs.map (·.2)) (vs.map (·.2))->
 (∀d,JD f fs=ε d->∃v,vs.lookup f=ε v/\Qi K H ρ d v)/\(JD f fs=none->vs.lookup f=none)
 | [],[],_,_=>⟨(fun _ h=>by cases h),fun _=>rfl⟩
 | [],_::_,e,_=>by cases e
 | _::_,[],e,_=>by cases e
 | (x,d)::fs,(y,v)::vs,e,r=>by
  simp![Qs,Le]at e;obtain⟨o,e⟩:=e;subst o;obtain⟨p,s,q,n,m⟩:=Qe.Xe r;cases q;obtain⟨k,j⟩:=CU (f:=f) e m;by_cases z:f=x
  . have a:(f==x)=true:=beq_iff_eq.mpr z;refine⟨fun b h=>?_,fun h=>?_⟩
    . simp![JD,dh z]at h;cases h;exact⟨v,by simp![List.lookup,a],n⟩
    . simp![JD,dh z]at h;cases h
  . have a:(f==x)=false:=by rw[<- Bool.not_eq_true,beq_iff_eq];exact z
    refine⟨fun b h=>?_,fun h=>?_⟩
    . simp![JD,dG z]at h;obtain⟨w,i,g⟩:=k b h;exact⟨w,by simp![List.lookup,a];exact i,g⟩
    . simp![JD,dG z]at h;simp![List.lookup,a];exact j h
theorem fZ{K:Oi}{H:Hp}{ρ:Rg}{f:Str}{d:Dt}{v:V}(a:Qi K H ρ d v):∀{fs:Ms (Str×Dt)}{vs:Ms (Str×V)},fs.map (·.1)=vs.map (·.1)->Qe K H ρ (fs.map (·.2)) (vs.map (·.2))->
 (jF f d fs).map (·.1)=(L2.FB f v vs).map (·.1)/\Qe K H ρ ((jF f d fs).map (·.2)) ((L2.FB f v vs).map (·.2))
 | [],[],_,_=>⟨rfl,.cons a .nil⟩
 | [],_::_,e,_=>by cases e
 | _::_,[],e,_=>by cases e
 | (x,d0)::fs,(y,v0)::vs,e,r=>by
  simp![Qs,Le]at e;obtain⟨j,e⟩:=e;subst j;obtain⟨k,m,q,i,b⟩:=Qe.Xe r;cases q;by_cases z:x=f
  . simp![jF,L2.FB,dh z,Qs];exact⟨by rw[e],.cons a b⟩
  . obtain⟨h,g⟩:=fZ a (f:=f) e b;simp![jF,L2.FB,dG z,Qs];exact⟨by rw[h],.cons i g⟩
structure qK(K:Frag)(x f:Str):Prop where
 ex:∃C,rn K x C/\Cls K C/\cq K C f
structure PH(P:Program)(w:World)(K:Frag)(mg:Str->Option Value)(base:Heap)(k n:Nat)(x m:Str)(F:zB):Prop where
 ex:∃C f fd ps,rn K x C/\Cls K C/\SK K C m f/\YD P w K mg base LG k f fd ps (JJ K n F)/\qr K fd ps []
 len:∀ds h r,F ds h=ε r->ds.length=n
structure xM(K:Frag)(x m qual:Str)(st:Stmt)(ps:List Str):Prop where
 ex:∃C f fd,rn K x C/\Cls K C/\SK K C m f/\Fun K m qual st f fd/\qr K fd ps []
structure gQ(P:Program)(w:World)(K:Frag)(mg:Str->Option Value)(base:Heap)(k n:Nat)(x:Str)(F:zB):Prop where
 ex:∃C f fd ps,rn K x C/\Mk K C f/\YD P w K mg base LG k f fd ps (JJ K n F)/\mg x=ε (.ref C)/\qr K fd ps []
 len:∀ds h r,F ds h=ε r->ds.length=n
structure VU(K:Frag)(mg:Str->Option Value)(x qual:Str)(st:Stmt)(ps:List Str):Prop where
 ex:∃C f fd,rn K x C/\Mk K C f/\Fun K "__init__" qual st f fd/\mg x=ε (.ref C)/\qr K fd ps []
section
variable{P:Oo}{w:O4}{K:Oi}{b:Str->Ni Mu}{a:Pu}
theorem LZ{x m d:Str}{st:Ou}{N i:Ms Str}{k n j:Nat}{body:RS}(D:xM K x m d st i)(S:SA N i (BA st))(p:i.length=n)(q:N.length=j)
 (u:∀(f:Oa)(g:Mu)(A:Pa)(outer:Ms Env)(s:Nu)(H:Hp)(E:XK),Vu k (A.deeper (envOfC d (BA st) s.heap.objs.size f g))->
  CI (LF LG P w K b a N d (BA st) f g A outer s H E).nox (BD st) body):PH P w K b a (k+1) n x m (UB n j body):=by
 unhygienic subst p q;obtain⟨C,f,F,J,I,G,y,B⟩:=D.ex;exact⟨⟨C,f,F,i,J,I,G,JP y S fun g A outer s H E o=>u f g A outer s H E o,B⟩,fun ds h r e=>jP e⟩
theorem vf{x m g:Str}{st:Ou}{i:Ms Str}{k n:Nat}(D:xM K x m g st i):PH P w K b a k n x m (fun _ _=>none):=by
 unhygienic
  obtain⟨C,f,y,G,F,B,R,q⟩:=D.ex;refine⟨⟨C,f,y,i,G,F,B,⟨fun p H Q E h=>?_,fun A outer s H j I p Q E L M O J h=>?_⟩,q⟩,fun ds h r e=>by cases e⟩
  . obtain⟨o,ds,h,d,u,_,_,_,e,_⟩:=h;cases e
  . obtain⟨o,ds,h,d,u,_,_,_,e,_⟩:=h;cases e
theorem Yr{x d:Str}{st:Ou}{N i:Ms Str}{k n j:Nat}{body:RS}(D:VU K b x d st i)(S:SA N i (BA st))(o:i.length=n)(p:N.length=j)
 (q:∀(f:Oa)(g:Mu)(A:Pa)(outer:Ms Env)(s:Nu)(H:Hp)(E:XK),Vu k (A.deeper (envOfC d (BA st) s.heap.objs.size f g))->
  CI (LF LG P w K b a N d (BA st) f g A outer s H E).nox (BD st) body):gQ P w K b a (k+1) n x (UB n j body):=by
 unhygienic subst o p;obtain⟨C,f,B,I,G,u,F,y⟩:=D.ex;exact⟨⟨C,f,B,i,I,G,JP u S fun g A outer s H E m=>q f g A outer s H E m,F,y⟩,fun ds h r e=>jP e⟩
end
theorem p4{H:Hp}{a C b:Oa}{vs:Ms (Str×V)}(h:H a=ε (.ins C b vs)):IV H a:=fun _ _ e=>by rw[h]at e;cases e
section
variable{X:Cx}{e o b:Oe}{s:Ms Oe}{x f m:Str}{fo fe:RE}{g:RA}{pos j i p:Pos}{k t n:Nat}{F:zB}
theorem uM(cl:qK X.K x f)(u:EM X e fo)(U:autoParam (attributeBase e f X.env (eval e X.env)=eval e X.env) Æ):EM X (.Attribute e f pos) (tG x f fo):=by
 unhygienic
  exact PE.imp (F6 u U) fun σ H Q I=>by
   obtain⟨G,l,h,d,h',S,L,e,k⟩:=I;obtain⟨⟨B,W⟩,e1,e⟩:=oA e;refine⟨G,l,h,B,W,S,L,e1,fun r v H1 R1 D E1=>?_⟩;cases B with
   | ref n=>
    dsimp only at e;split at e
    . rename_i y fs q;obtain⟨T,e3⟩:=uQ e;subst T;obtain⟨d2,R,e4⟩:=oA e3;cases e4;obtain⟨a,z,u⟩:=Xu.mp R1;obtain⟨C,dx,O,c1,g1,Z,Y⟩:=D.ob n a _ u q;obtain⟨E,c2,c3,c4⟩:=cl.ex;have cc:E=C:=rn.inj c2 c1;subst cc;obtain⟨P,M,J⟩:=(CU Z Y).1 _ R;exact⟨a,E,dx,O,P,z,g1,c3,c4,M,k r _ _ J D E1⟩
    . cases e
   | _=>cases e
theorem tP(cl:qK X.K x f)(E:EM X o fo)(I:EM X b fe)(hs:autoParam (swapsWith b (ε (.Attribute o f j)) pos.line X.env=pure false) Æ):ZM X (.Assign [.Attribute o f j] b pos) (qJ x f fo fe):=by
 unhygienic
  exact PS.imp (Z8 E I hs) fun D σ H O=>by
   obtain⟨ρ,l,h,r,S,L,e,k⟩:=O;obtain⟨⟨v,I⟩,e1,e⟩:=oA e;obtain⟨⟨d,hd⟩,e2,e⟩:=oA e;refine⟨ρ,l,h,v,I,S,L,e1,fun M u H1 R1 S1 R=>⟨M,l,I,d,hd,S1,L.ext R,e2,fun J y H2 R2 S2 Q=>?_⟩⟩;cases d with
   | ref n=>
    dsimp only at e;split at e
    . rename_i y fs q;obtain⟨⟨hy,hl⟩,e⟩:=JE e;cases e;subst hy;obtain⟨a,O,E⟩:=Xu.mp R2;obtain⟨C,Y,U,Z,G,W,g3⟩:=S2.ob n a _ E q;obtain⟨T,c2,c3,c4⟩:=cl.ex;have cc:T=C:=rn.inj c2 Z;subst cc;have P:=jo E;have B:U.length=fs.length:=by have:=congrArg List.length W;simpa using this.symm
      obtain⟨p1,p2⟩:=fZ (f:=f) (Qi.ext Q _ R1) W g3;refine⟨a,T,Y,U,O,G,c3,c4,by rw[B];exact hl,?_⟩;exact k J σ _ (S2.write E (p4 G) ⟨T,Y,_,Z,AC,p1,p2.ext (qc.write P (p4 G))⟩) (L.ext (R.trans (Q.trans (qc.write P (p4 G))))) (R.trans (Q.trans (qc.write P (p4 G))))
    . cases e
   | _=>cases e
theorem Cd (c:gQ X.prog X.w X.K X.mg X.base k n x F) (hr:Vu t X.A) (hk:k+1<=t) (hg:Gl X x) (ha:AM X (e::s) g) (O:autoParam ((x==("__debug__" :Str))=false) Ñ)
 (he:autoParam (nB e=true) Æ) (hpl:autoParam (s.all nB=true) Æ):EM X (.Call (.Name x p) (e::s) [] pos) (GP x F g):=by
 unhygienic
  obtain⟨C,f,fd,ps,c1,c2,c3,c4,c5⟩:=c.ex;exact PE.imp (Vb c2 c3 (hr.mono hk) hg c4 c5 .nil (E:=E0) DV ha O (aB he _ _) (iI hpl)) fun σ H Q W=>by
   obtain⟨U,l,h,d,h',S,L,e,k⟩:=W;obtain⟨⟨B,I⟩,e1,e⟩:=oA e;obtain⟨⟨d2,h2⟩,e2,e⟩:=oA e;cases d2 with
   | non=>
    cases e;refine⟨U,l,h,B,I,S,L,e1,fun a Y G R1 P E1 xa q Z y M=>?_⟩;have S2:Rr X.K a I (xB G q (.own xa)):=P.fresh y;have r:xB G q (.own xa) xa=none:=by rw[WA (m5 M)];exact Z
    have S3:=S2.own (p:=xa) (o:=.ins C q []) (u:=.ins x []) r ⟨C,q,[],c1,AC,rfl,.nil⟩;have R:qc a (a.add xa) G (xB (xB G q (.own xa)) xa (.ins C q [])):=(qc.fresh y).trans (qc.own r);have D:(a.add xa).v[I.length]?=ε xa:=by simp[Rg.add,<- P.len]
    have R3:Qe X.K (xB (xB G q (.own xa)) xa (.ins C q [])) (a.add xa) (.ref I.length::B) (.ref xa::(Y++[])):=.cons (Xu.mpr ⟨xa,rfl,D⟩) (by rw[Ri];exact R1.ext R);exact⟨a.add xa,_,_,.non,h2,S3,R3,c.len _ _ _ e2,e2,fun J v H' R' S' T=>⟨Zi.mp R',k J _ H' (Xu.mpr ⟨xa,rfl,T.get D⟩) S' (E1.trans (R.trans T))⟩⟩
   | _=>cases e
theorem pU{pl:Sem Bool}(c:PH X.prog X.w X.K X.mg X.base k n x m F)(hr:Vu t X.A)(hk:k<=t)(ho:EM X o fo)(B:AM X (e::s) g)
 (he:autoParam (nB e=true) Æ) (hpl:autoParam (s.all nB=true) Æ)
 (ht:eval (.Call (.Attribute o m i) (e::s) [] pos) X.env=(do
  let ov <- eval o X.env
  standAt i.atName
  let (f,first) <- holding [ov] (getMethod ov m pl)
  callWith pos f first (backTo pos (starEach (e::s) X.env)) (backToKw pos (keywordEach [] X.env))):=by rfl):EM X (.Call (.Attribute o m i) (e::s) [] pos) (tJ x m F fo g):=by
 unhygienic
  obtain⟨C,f,fd,ps,c1,c2,c3,c4,c5⟩:=c.ex;exact PE.imp (Wb (pl:=pl) ho c2 c3 c4 (hr.mono hk) c5 .nil (E:=E0) DV B (aB he _ _) (iI hpl) ht) fun σ H Q W=>by
   obtain⟨U,l,h,d,h',S,L,e,k⟩:=W;obtain⟨⟨M,I⟩,e1,e⟩:=oA e;refine⟨U,l,h,M,I,S,L,e1,fun u v H1 P O T=>?_⟩;cases M with
   | ref Z=>
    dsimp only at e;split at e
    . rename_i y fs q;obtain⟨⟨hy,hl⟩,e3⟩:=uQ e;subst hy;obtain⟨⟨ds,G⟩,e2,J⟩:=oA e3;obtain⟨a,z,B⟩:=Xu.mp P;obtain⟨C',dx,Y,D,g1,g2,g3⟩:=O.ob Z a _ B q;have cc:C'=C:=rn.inj D c1;subst cc;refine⟨a,dx,Y,z,g1,(CU g2 g3).2 hl,u,l,I,ds,G,O,L.ext T,e2,fun r us H2 R2 S2 R=>?_⟩;exact⟨r,_,G,d,h',S2,.cons (Qi.ext R _ P) (by rw[Ri];exact R2),c.len _ _ _ J,J,(k.ext T).ext R⟩
    . cases e
   | _=>cases e
end
structure fQ(K:Frag)(x qual:Str)(st:Stmt)(dV:Value)(f:Addr)(fd:FuncData):Prop where
 ex:∃(oc:Value)(od:Option Addr)(kV doc pm:Value)(an:Option Addr)(cdv ct:Value)(osl:Array (Option Value)),
  fd=fnOf x qual (CF st) (BD st) (BA st) dV kV doc pm an cdv ct/\K.lookup f=ε ⟨oc,od,.func fd,osl⟩/\PySem.W.codeIn K cdv qual=true
 kp:keepIn K (.ref f)=true
section
variable{P:Oo}{w:O4}{K:Oi}{mg:Str->Ni Mu}{base:Pu}
theorem Er{x a:Str}{st:Ou}{f:Oa}{j h:Mu}{od i:Ni Oa}{e:Pb (Ni Mu)}{kV d g b ct:Mu}(l:K.lookup f=ε ⟨j,od,.func (fnOf x a (CF st) (BD st) (BA st) h kV d g i b ct),e⟩)
 (c:PySem.W.codeIn K b a=true) (k:keepIn K (.ref f)=true):fQ K x a st h f (fnOf x a (CF st) (BD st) (BA st) h kV d g i b ct):=⟨⟨j,od,kV,d,g,i,b,ct,e,rfl,l,c⟩,k⟩
theorem T7{x a:Str}{st:Ou}{J:Mu}{f:Oa}{o:FuncData}{N g:Ms Str}{k:Nat}{body:RS}(F:fQ K x a st J f o)(S:SA N g (BA st))
 (C:∀(b:Mu)(A:Pa)(outer:Ms Env)(s:Nu)(H:Hp)(E:XK),Vu k (A.deeper (envOfC a (BA st) s.heap.objs.size f b))->
  CI (LF LG P w K mg base N a (BA st) f b A outer s H E).nox (BD st) body):YD P w K mg base LG (k+1) f o g (JJ K g.length (UB g.length N.length body)):=by
 unhygienic
  obtain⟨W,U,kV,I,T,Z,b,ct,u,rfl,y,n⟩:=F.ex;refine X2 y n S (fun r H Q E h=>?_) fun A outer s H r Q E B h=>?_
  . obtain⟨m,ds,h,d,G,S,R,i,_⟩:=h;rw[R.length,i]
  . obtain⟨m,ds,h,d,G,S,R,i,e,k⟩:=h;refine⟨_,(C b A outer s H E B).nox,?_⟩;unfold UB at e;rw[dh i]at e;rw[<- i]at e;split at e
    . rename_i Y D q;cases e;exact⟨m,_,h,_,S,GO R,q,k⟩
    . rename_i X D q;cases e;exact⟨m,_,h,_,S,GO R,q,fun j p M L L' O=>k j _ M (Zi.mpr rfl) L O⟩
    . cases e
structure jN(K:Frag)(mg:Str->Option Value)(x:Str)(st:Stmt)(ps:List Str)(dds:List Dt):Prop where
 ex:∃dV f fd ds dvs,fQ K x x st dV f fd/\mg x=ε (.ref f)/\qr K fd ps ds/\p3 dvs ds/\∀H ρ,Qe K H ρ dds dvs
structure gN(P:Program)(w:World)(K:Frag)(mg:Str->Option Value)(base:Heap)(k n:Nat)(x:Str)(F:zB)(dds:List Dt):Prop where
 ex:∃f fd ps ds dvs,YD P w K mg base LG k f fd ps (JJ K n F)/\mg x=ε (.ref f)/\keepIn K (.ref f)=true/\qr K fd ps ds/\p3 dvs ds/\∀H ρ,Qe K H ρ dds dvs
 len:∀ds h r,F ds h=ε r->ds.length=n
theorem Kf{x:Str}{st:Ou}{N b:Ms Str}{k n m:Nat}{body:RS}{dds:Ms Dt}(D:jN K mg x st b dds)(S:SA N b (BA st))(j:b.length=n)(o:N.length=m)
 (p:∀(f:Oa)(a:Mu)(A:Pa)(outer:Ms Env)(s:Nu)(H:Hp)(E:XK),Vu k (A.deeper (envOfC x (BA st) s.heap.objs.size f a))->
  CI (LF LG P w K mg base N x (BA st) f a A outer s H E).nox (BD st) body):gN P w K mg base (k+1) n x (UB n m body) dds:=by
 unhygienic subst j o;obtain⟨F,f,C,ds,d,g,B,y,u,q⟩:=D.ex;exact⟨⟨f,C,b,ds,d,T7 g S fun a A outer s H E i=>p f a A outer s H E i,B,g.kp,y,u,q⟩,fun ds h r e=>jP e⟩
end
section
variable{X:Cx}{k d n:Nat}{F:zB}{x:Str}{p pos:Pos}{e:Oe}{b:Ms Oe}{g:RA}{a:Ms Dt}
theorem Hh (c:gN X.prog X.w X.K X.mg X.base k n x F a) (j:Vu d X.A) (m:k<=d) (o:Gl X x) (s:AM X (e::b) g) (i:autoParam ((x==("__debug__" :Str))=false) Ñ)
 (he:autoParam (nB e=true) Æ) (hpl:autoParam (b.all nB=true) Æ) :
 EM X (.Call (.Name x p) (e::b) [] pos) (qA F a g):=by
 unhygienic obtain⟨f,I,H,ds,G,E,D,C,B,y,u⟩:=c.ex;exact uY E (j.mono m) o D C B y u s (fun J e ds h r q=>c.len ds h r (e ▸ q)) i he hpl
end
def gB(K:Oi)(x:Str)(st:Ou):Prop:=∃(f:Oa)(g:Mu)(e:Ni Oa)(kV dc d:Mu)(h:Ni Oa)(a ct:Mu)(b:Pb (Ni Mu)),nsIn K mainGlobals x=ε (ε (.ref f))/\
 K.lookup f=ε ⟨g,e,.func (fnOf x x (CF st) (BD st) (BA st) .none kV dc d h a ct),b⟩/\PySem.W.codeIn K a x=true/\keepIn K (.ref f)=true
def Z1(K:Oi)(x:Str)(st:Ou)(d:Int):Prop:=∃(f:Oa)(j:Mu)(i:Ni Oa)(a:Oa)(kV dc h:Mu)(m:Ni Oa)(e ct:Mu)(g:Pb (Ni Mu))(b:Obj)(t:Tok)(k:Nat),nsIn K mainGlobals x=ε (ε (.ref f))/\
 K.lookup f=ε ⟨j,i,.func (fnOf x x (CF st) (BD st) (BA st) (.ref a) kV dc h m e ct),g⟩/\PySem.W.codeIn K e x=true/\keepIn K (.ref f)=true/\K.lookup a=ε b/\b.data=.seq #[.int d t] k
def NM(K:Oi)(C:Oa)(m a:Str)(st:Ou):Prop:=∃(f:Oa)(h:Mu)(g:Ni Oa)(kV dc e:Mu)(i:Ni Oa)(b ct:Mu)(d:Pb (Ni Mu)),findIn K (.ref C) m=ε (ε (.ref f))/\PySem.W.isFn K (.ref f)=true/\
 K.lookup f=ε ⟨h,g,.func (fnOf m a (CF st) (BD st) (BA st) .none kV dc e i b ct),d⟩/\PySem.W.codeIn K b a=true/\keepIn K (.ref f)=true
structure iN(K:Frag)(x:Str)(C:Addr):Prop where
 ac:nsIn K mainGlobals x=ε (ε (.ref C))
 pg:PySem.W.plainGet K C Str.empty=true
 hd:PySem.W.hasDictIn K C=true
 po:PySem.W.plainOver K C=true
 sa:findIn K (.ref C) "__setattr__" =ε (ε (.builtin "object.__setattr__"))
 mkk:PySem.W.makesIn K C=true
 kc:keepIn K (.ref C)=true
section
variable{K:Oi}{h:Pu}{g:Str->Ni Mu}{x m b:Str}{st:Ou}{e:Ms Str}{C:Oa}{d:Int}
theorem lB(X:K.In h)(G:h.Ns mainGlobals g)(D:gB K x st)(p:∀(kV i n:Mu)(o:Ni Oa)(j ct:Mu)(us:Ms Mu),us.length=e.length->bindArgs (fnOf x x (CF st) (BD st) (BA st) .none kV i n o j ct) ⟨us,[]⟩=pure (e.zip us)):dB K g x st e:=by obtain⟨f,s,r,kV,dc,n,o,u,ct,q,a,l,c,k⟩:=D;have F:=vP l c k;exact⟨⟨f,_,F,PySem.W.mg_of X G a,F.binds p⟩⟩
theorem Mf(X:K.In h)(G:h.Ns mainGlobals g)(D:Z1 K x st d)(B:∀(s:Nu)(i:Oa)(j:Obj)(t:Tok)(n:Nat)(kV o q:Mu)(r:Ni Oa)(p ct:Mu)(us:Ms Mu),us.length=e.length->s.heap.get? i=ε j->j.data=.seq #[.int d t] n->BindsTo s (fnOf x x (CF st) (BD st) (BA st) (.ref i) kV o q r p ct) ⟨us,[]⟩ (e.zip (us++[]))):jN K g x st e []:=by obtain⟨f,I,H,i,kV,dc,q,r,J,ct,F,j,t,n,a,l,c,k,u,e2⟩:=D;exact⟨⟨_,f,_,[],[],Er l c k,PySem.W.mg_of X G a,fun s us E y=>B s i j t n _ _ _ _ _ _ us (by simpa using y) (E _ _ u) e2,.nil,fun _ _=>.nil⟩⟩
theorem pY(k:iN K x C)(D:NM K C m b st)(r:∀(kV j o:Mu)(q:Ni Oa)(n ct:Mu)(us:Ms Mu),us.length=e.length->bindArgs (fnOf m b (CF st) (BD st) (BA st) .none kV j o q n ct) ⟨us,[]⟩=pure (e.zip us)):xM K x m b st e:=by obtain⟨f,y,u,kV,dc,o,q,B,ct,s,a,i,l,c,p⟩:=D;have F:=vP l c p;exact⟨⟨C,f,_,k.ac,⟨k.pg,k.hd,k.po,k.sa⟩,⟨a,i,p⟩,F,F.binds r⟩⟩
theorem Dg (X:K.In h) (G:h.Ns mainGlobals g) (k:iN K x C) (D:NM K C "__init__" b st) (r:∀(kV j o:Mu) (p:Ni Oa) (n ct:Mu) (us:Ms Mu),us.length=e.length->bindArgs (fnOf "__init__" b (CF st) (BD st) (BA st) .none kV j o p n ct) ⟨us,[]⟩=pure (e.zip us)):VU K g x b st e:=by obtain⟨f,y,u,kV,dc,o,p,B,ct,s,a,i,l,c,q⟩:=D;have F:=vP l c q;exact⟨⟨C,f,_,k.ac,⟨k.mkk,a,i,k.kc⟩,F,PySem.W.mg_of X G k.ac,F.binds r⟩⟩
theorem sU{f:Str}(k:iN K x C)(n:findIn K (.ref C) f=ε none):qK K x f:=⟨⟨C,k.ac,⟨k.pg,k.hd,k.po,k.sa⟩,n⟩⟩
end
section
variable{Q:Ms Mu->Prop}
theorem sN(h:Q []):∀a:Ms Mu,a.length=0->Q a | [],_=>h
theorem SG{n:Nat}(h:∀a b,b.length=n->Q (a::b)):∀b:Ms Mu,b.length=n+1->Q b | a::b,e=>h a b (Nat.succ.inj e)
theorem AD(h:∀a,Q [a]):∀us:Ms Mu,us.length=1->Q us:=SG fun a=>sN (h a)
theorem IC(h:∀a b,Q [a,b]):∀us:Ms Mu,us.length=2->Q us:=SG fun a=>SG fun b=>sN (h a b)
theorem uG(h:∀a b c,Q [a,b,c]):∀us:Ms Mu,us.length=3->Q us:=SG fun a=>SG fun b=>SG fun c=>sN (h a b c)
theorem II(h:∀a b c d,Q [a,b,c,d]):∀us:Ms Mu,us.length=4->Q us:=SG fun a=>SG fun b=>SG fun c=>SG fun d=>sN (h a b c d)
end
theorem ZA{N P:Ms Str}{sc:Scope}(a:autoParam (sc.kind=.function) ö)(b:autoParam (sc.isCoroutine=false) ö)(c:autoParam (sc.isGenerator=false) ö)(d:autoParam N.Nodup Ø)(e:autoParam (N.take P.length=P) ö)
 (f:autoParam (∀x∈P,sc.names.lookup x=ε .local\/sc.names.lookup x=ε .cell) Ø) (g:autoParam (∀y∈sc.names,y.2≠.free) Ø):SA N P sc:=⟨a,b,c,d,e,f,g⟩
theorem JA {X:Cx} {k k' n:Nat} {x:Str} {F:zB} {e:Oe} {b:Ms Oe} {g:RA} {p pos:Pos} (c:BC X.prog X.w X.K X.mg X.base k n x F) (d:Vu k' X.A) (i:AM X (e::b) g) (f:autoParam (k<=k') Ñ) (h:autoParam (Gl X x) ö) (a:autoParam ((x==("__debug__" :Str))=false) Ñ)
 (he:autoParam (nB e=true) Æ) (hpl:autoParam (b.all nB=true) Æ):EM X (.Call (.Name x p) (e::b) [] pos) (qA F [] g):=pF c d f h i a he hpl
end SM
namespace L2
section
variable{X:Cx}
end
end L2
namespace SM
section
variable{X:Cx}{a b:Oe}{fa fb:RE}
end
theorem Nb{P:Oo}{w:O4}{K:Oi}{mg:Str->Ni Mu}{base:Pu}{x:Str}{st:Ou}{a:Ms Str}{k n:Nat}(D:dB K mg x st a):BC P w K mg base k n x (fun _ _=>none):=by
 unhygienic
  obtain⟨f,q,m,j,o⟩:=D.ex;refine⟨⟨f,q,a,⟨fun i H Q E h=>?_,fun A outer s H b u i Q E B C F y h=>?_⟩,j,m.kp,o⟩,fun ds h r e=>by cases e⟩
  . obtain⟨g,ds,h,d,p,_,_,_,e,_⟩:=h;cases e
  . obtain⟨g,ds,h,d,p,_,_,_,e,_⟩:=h;cases e
end SM
namespace L2
section
variable{X:Cx}
end
end L2
namespace SM
noncomputable def cB{a β:Type}(o:Ni a)(f:a->Ni β):Ni β:=o.bind f
@[simp] theorem fA{b d:Type}(a:b)(f:b->Ni d):cB (ε a) f=f a:=by rfl
@[simp] theorem on{b a:Type}(f:b->Ni a):cB none f=none:=by rfl
@[simp] theorem oo{d e:Type}{c:Prop}[Decidable c](a b:Ni d)(k:d->Ni e):cB (if c then a else b) k=if c then cB a k else cB b k:=by split<;>rfl
section
variable{l:LI}{h:HI}{f g fa fb m:RE}
@[simp] theorem uA(d:Dt):eC d l h=ε (d,h):=by rfl
noncomputable def FI(h:HI):Ni (Ni Dt)->Ni (Dt×HI)
 | some (some d)=>ε (d,h)
 | _=>none
@[simp] theorem iA(d:Dt):FI h (ε (ε d))=ε (d,h):=by rfl
@[simp] theorem gA(i:Nat):eV i l h=FI h l[i]?:=by unfold eV FI;rfl
@[simp] theorem wA(op:OD):e2 op fa fb l h=cB (fa l h) fun r=>cB (fb l r.2) fun q=>op r.1 q.1 q.2:=by rfl
@[simp] theorem zA:eA l h=ε ([],h):=by rfl
@[simp] theorem EA(r:RA):bA f r l h=cB (f l h) fun a=>cB (r l a.2) fun q=>ε (a.1::q.1,q.2):=by rfl
noncomputable def Il:Dt×HI->Ni (Bool×HI)
 | (.bl b,h)=>ε (b,h)
 | _=>none
@[simp] theorem VA(b:Bool):Il (.bl b,h)=ε (b,h):=by rfl
@[simp] theorem NA:qh f l h=cB (f l h) Il:=by
 unfold cB;unfold qh
 congr 1
 funext r
 obtain⟨d,h⟩:=r;cases d<;>rfl
@[simp] theorem hV(t u:RT):CP t u l h=cB (t l h) fun r=>if r.1=true then u l r.2 else ε (false,r.2):=by rfl
@[simp] theorem GF(t u:RT):WE t u l h=cB (t l h) fun r=>if r.1=true then ε (true,r.2)else u l r.2:=by rfl
@[simp] theorem lJ(t:RT):NH t l h=cB (t l h) fun r=>ε (!r.1,r.2):=by rfl
noncomputable def X1(u:RE)(l:LI):Dt×HI->Ni (Dt×HI)
 | (.bl true,h)=>u l h
 | (.bl false,h)=>ε (.bl false,h)
 | _=>none
noncomputable def jW(u:RE)(l:LI):Dt×HI->Ni (Dt×HI)
 | (.bl true,h)=>ε (.bl true,h)
 | (.bl false,h)=>u l h
 | _=>none
@[simp] theorem qT(u:RE)(b:Bool):X1 u l (.bl b,h)=if b=true then u l h else ε (.bl false,h):=by cases b<;>rfl
@[simp] theorem vZ(u:RE)(b:Bool):jW u l (.bl b,h)=if b=true then ε (.bl true,h)else u l h:=by cases b<;>rfl
@[simp] theorem iV(u:RE):KJ f u l h=cB (f l h) (X1 u l):=by
 unfold cB;unfold KJ
 congr 1
 funext r
 obtain⟨d,h⟩:=r;cases d<;>(try rfl);rename_i b;cases b<;>rfl
@[simp] theorem M3(u:RE):PV f u l h=cB (f l h) (jW u l):=by
 unfold cB;unfold PV
 congr 1
 funext r
 obtain⟨d,h⟩:=r;cases d<;>(try rfl);rename_i b;cases b<;>rfl
@[simp] theorem wI(t:RT):kL t f g l h=cB (t l h) fun r=>if r.1=true then f l r.2 else g l r.2:=by rfl
noncomputable def Om(a:OD)(m:RE)(l:LI)(q:Dt):Dt×HI->Ni (Dt×HI)
 | (.bl true,h)=>(m l h).bind fun r=>a q r.1 r.2
 | (.bl false,h)=>ε (.bl false,h)
 | _=>none
@[simp] theorem oq(a:OD)(q:Dt)(b:Bool):Om a m l q (.bl b,h)=if b=true then cB (m l h) fun r=>a q r.1 r.2 else ε (.bl false,h):=by cases b<;>rfl
@[simp] theorem ow(o a:OD):zM o a fa fb m l h=cB (fa l h) fun r=>cB (fb l r.2) fun q=>cB (o r.1 q.1 q.2) (Om a m l q.1):=by
 unfold cB;unfold zM
 congr 1
 funext r
 congr 1
 funext q
 congr 1
 funext z
 obtain⟨d,h⟩:=z;cases d<;>(try rfl);rename_i b;cases b<;>rfl
@[simp] theorem yE(r:RA):UA r l h=cB (r l h) fun r=>if r.1.length<=sizeLine then ε (.tup r.1,r.2)else none:=by rfl
@[simp] theorem JH(r:RA):oC r l h=cB (r l h) fun r=>if r.1.length<=sizeLine then ε (.lst r.1,r.2)else none:=by rfl
@[simp] theorem KH(r:RA):gF r l h=cB (r l h) fun r=>if r.1.length<=sizeLine then ε (.ref r.2.length,r.2++[.lst r.1])else none:=by rfl
noncomputable def YV:Dt×HI->Ni (Dt×HI)
 | (.int b,h)=>ε (.int (-b),h)
 | _=>none
@[simp] theorem ZL(b:Int):YV (.int b,h)=ε (.int (-b),h):=by rfl
@[simp] theorem UM:TC f l h=cB (f l h) YV:=by
 unfold cB;unfold TC
 congr 1
 funext r
 obtain⟨d,h⟩:=r;cases d<;>rfl
@[simp] theorem eF(i j:Int):MB (.int i) (.int j) h=ε (.int (i+j),h):=by rfl
@[simp] theorem QP(i j:Int):MF (.int i) (.int j) h=ε (.int (i-j),h):=by rfl
@[simp] theorem FM(i j:Int):LH (.int i) (.int j) h=ε (.int (Builtin.bitAnd i j),h):=by rfl
@[simp] theorem o3(i j:Int):FJ (.int i) (.int j) h=ε (.int (Builtin.bitOr i j),h):=by rfl
@[simp] theorem fj(i j:Int):BQ (.int i) (.int j) h=ε (.int (Builtin.bitXor i j),h):=by rfl
@[simp] theorem wN(i j:Int):GJ (.int i) (.int j) h=ε (.bl (decide (i<j)),h):=by rfl
@[simp] theorem J5(i j:Int):ZV (.int i) (.int j) h=ε (.bl (decide (i<=j)),h):=by rfl
@[simp] theorem vN(i j:Int):dL (.int i) (.int j) h=ε (.bl (decide (j<i)),h):=by rfl
@[simp] theorem aW(i j:Int):AQ (.int i) (.int j) h=ε (.bl (decide (j<=i)),h):=by rfl
theorem SF{i j:Int}(c:bz i j):JC (.int i) (.int j) h=ε (.int (i*j),h):=by simp![JC,oI,dh c]
theorem IG{i j:Int}(c:PK i j):VE (.int i) (.int j) h=ε (.int (i/j),h):=by simp![VE,oI,dh c]
theorem ME{i j:Int}(c:0<j):aC (.int i) (.int j) h=ε (.int (i%j),h):=by simp![aC,oI,dh c]
theorem cj{i j:Int}(c:lH i j):tN (.int i) (.int j) h=ε (.int (i^j.toNat),h):=by simp![tN,oI,dh c]
theorem QM{i j:Int}(c:lH i j):WF (.int i) (.int j) h=ε (.int (i*2^j.toNat),h):=by simp![WF,oI,dh c]
theorem dj{i j:Int}(c:0<=j):uN (.int i) (.int j) h=ε (.int (i/2^j.toNat),h):=by simp![uN,oI,dh c]
@[simp] theorem XF(i j:Int):RB (.int i) (.int j) h=ε (.bl (decide (i=j)),h):=by show ε (Dt.bl (decide (V.int i=V.int j)),h)=_;simp
@[simp] theorem YH(i j:Int):QC (.int i) (.int j) h=ε (.bl (!decide (i=j)),h):=by show ε (Dt.bl (!decide (V.int i=V.int j)),h)=_;simp
@[simp] theorem JG(i j:Str):RB (.str i) (.str j) h=ε (.bl (decide (i=j)),h):=by show ε (Dt.bl (decide (V.str i=V.str j)),h)=_;simp
@[simp] theorem B3(i j:Str):QC (.str i) (.str j) h=ε (.bl (!decide (i=j)),h):=by show ε (Dt.bl (!decide (V.str i=V.str j)),h)=_;simp
theorem Z9{xs ys:Ms Dt}(c:uE xs ys=true):RB (.lst xs) (.lst ys) h=ε (.bl (qE xs ys),h):=by simp![RB,dh c]
theorem aj{xs ys:Ms Dt}(c:uE xs ys=true):QC (.lst xs) (.lst ys) h=ε (.bl (!qE xs ys),h):=by simp![QC,dh c]
@[simp] theorem v3(d:Dt):iF d .non h=ε (.bl (vJ d),h):=by rfl
@[simp] theorem lD{a:Type}(xs:Ms a)(k:Nat):atI xs (k:Int)=xs[k]?:=by
 unfold atI GI;rw[dh nofun];by_cases b:k<xs.length
 . rw[dh nofun];simp
 . rw[dG nofun];simp;omega
@[simp] theorem FC{a:Type}(xs:Ms a):atI xs 0=xs[0]?:=lD xs 0
@[simp] theorem tF{a:Type}(xs:Ms a):atI xs 1=xs[1]?:=lD xs 1
@[simp] theorem BK{a:Type}(xs:Ms a):atI xs 2=xs[2]?:=lD xs 2
@[simp] theorem bC(xs:Ms Dt)(i:Int):rA (.tup xs) (.int i) h=(atI xs i).map fun d=>(d,h):=by rfl
@[simp] theorem vI(xs:Ms Dt)(i:Int):rA (.lst xs) (.int i) h=(atI xs i).map fun d=>(d,h):=by rfl
theorem FE{n:Nat}{xs:Ms Dt}(e:h[n]?=ε (.lst xs))(i:Int):rA (.ref n) (.int i) h=(atI xs i).map fun d=>(d,h):=by simp![rA,QD,HA,e,Ss]
noncomputable def T5(g:RS):Rs->Ni Rs
 | .nx l h=>g l h
 | r=>ε r
@[simp] theorem fB(g:RS):T5 g (.nx l h)=g l h:=by rfl
@[simp] theorem RF(g:RS)(d:Dt):T5 g (.rt d h)=ε (.rt d h):=by rfl
@[simp] theorem XA(f g:RS):lA f g l h=cB (f l h) (T5 g):=by
 unfold cB;unfold lA
 congr 1
@[simp] theorem QE:jB l h=ε (.nx l h):=by rfl
@[simp] theorem GB(i:Nat):DA i f l h=cB (f l h) fun r=>ε (.nx (l.set i (ε r.1)) r.2):=by rfl
@[simp] theorem cE:bD f l h=cB (f l h) fun r=>ε (.nx l r.2):=by rfl
@[simp] theorem qB:AA f l h=cB (f l h) fun r=>ε (.rt r.1 r.2):=by rfl
@[simp] theorem OB(t:RT)(f g:RS):SC t f g l h=cB (t l h) fun r=>if r.1=true then f l r.2 else g l r.2:=by rfl
noncomputable def uD:Ni Rs->Ni (Dt×HI)
 | some (.rt d h')=>ε (d,h')
 | some (.nx _ h')=>ε (.non,h')
 | _=>none
@[simp] theorem wB(d:Dt):uD (ε (.rt d h))=ε (d,h):=by rfl
@[simp] theorem Ld:uD (ε (.nx l h))=ε (.non,h):=by rfl
@[simp] theorem ox{c:Prop}[Decidable c](a b:Ni Rs):uD (if c then a else b)=if c then uD a else uD b:=by split<;>rfl
@[simp] theorem pB(n N:Nat)(body:RS)(ds:Ms Dt):UB n N body ds h=if ds.length=n then uD (body (ds.map some++List.replicate (N-n) none) h)else none:=by unfold UB uD;rfl
@[simp] theorem MA(F:zB)(a:Ms Dt)(g:RA):qA F a g l h=cB (g l h) fun r=>F (r.1++a) r.2:=by rfl
noncomputable def dN(go:LI->HI->Ni Rs):Rs->Ni Rs
 | .nx l h=>go l h
 | .ct l h=>go l h
 | .bk l h=>ε (.nx l h)
 | .rt d h=>ε (.rt d h)
@[simp] theorem y9(go:LI->HI->Ni Rs):dN go (.nx l h)=go l h:=by rfl
@[simp] theorem oy(go:LI->HI->Ni Rs):dN go (.ct l h)=go l h:=by rfl
@[simp] theorem A9(go:LI->HI->Ni Rs)(d:Dt):dN go (.rt d h)=ε (.rt d h):=by rfl
def kC(bd:RG)(body:RS):Ms Dt->LI->HI->Ni Rs
 | [],l,h=>ε (.nx l h)
 | x::xs,l,h=>(bd x l).bind fun a=>(body a h).bind (dN (kC bd body xs))
theorem NX(bd:RG)(body:RS)(xs:Ms Dt):∀(n k:Nat)(l:LI)(h:HI),n=(xs.length-k)+1->k<=xs.length->DB bd body (.vals xs) n k l h=kC bd body (xs.drop k) l h:=by
 intro n
 induction n with
 | zero=>intro k l h e;omega
 | succ n ih=>
  intro k l h e j;unfold DB;simp![qi.at];by_cases i:k<xs.length
  . rw[iu i,xr i];simp![kC]
    congr 1
    funext l1
    congr 1
    funext r
    cases r with
    | nx b a=>exact ih (k+1) b a nofun nofun
    | ct b a=>exact ih (k+1) b a nofun nofun
    | bk b a=>rfl
    | rt d a=>rfl
  . rw[jj nofun,Ma nofun];rfl
theorem oz{g:RI}{xs:Ms Dt}{h':HI}(e:g l h=ε (.vals xs,h'))(bd:RG)(body:RS):CC g bd body l h=kC bd body xs l h':=by unfold CC;rw[e];simp![Ss,qi.fuel];exact NX bd body xs _ 0 _ _ nofun nofun
@[simp] theorem gG(i:Nat)(d:Dt):CA i d l=ε (l.set i (ε d)):=by rfl
def zD(bd:RG)(body:RS)(l:LI):qi×HI->Ni Rs:=fun r=>DB bd body r.1 (r.1.fuel r.2) 0 l r.2
@[simp] theorem WD(g:RI)(bd:RG)(body:RS):CC g bd body l h=cB (g l h) (zD bd body l):=by rfl
@[simp] theorem ZF(bd:RG)(body:RS)(xs:Ms Dt):zD bd body l (.vals xs,h)=kC bd body xs l h:=by unfold zD;simp![qi.fuel];exact NX bd body xs _ 0 _ _ nofun nofun
noncomputable def C4:Dt×HI->Ni (qi×HI)
 | (.int j,h)=>if -(2^62)<=j/\j<2^62 then ε (.vals ((List.range j.toNat).map fun(k:Nat)=>Dt.int (k:Int)),h)else none
 | _=>none
@[simp] theorem IK:zJ f l h=cB (f l h) C4:=by
 unfold cB;unfold zJ
 congr 1
 funext r
 obtain⟨d,h⟩:=r;cases d<;>rfl
theorem fG{j:Int}(a:-(2^62)<=j)(b:j<2^62):C4 (.int j,h)=ε (.vals ((List.range j.toNat).map fun(k:Nat)=>Dt.int (k:Int)),h):=dh ⟨a,b⟩
noncomputable def Dl:Dt->Dt×HI->Ni (qi×HI)
 | .int i,(.int j,h)=>if -(2^62)<=i/\i<2^62/\-(2^62)<=j/\j<2^62 then ε (.vals ((List.range (j-i).toNat).map fun(k:Nat)=>Dt.int (i+(k:Int))),h)else none
 | _,_=>none
@[simp] theorem Gj:Y3 f g l h=cB (f l h) fun r=>cB (g l r.2) (Dl r.1):=by
 unfold cB;unfold Y3
 congr 1
 funext r
 obtain⟨d,h⟩:=r
 congr 1
 funext q
 obtain⟨a,b⟩:=q;cases d<;>cases a<;>rfl
theorem qm{i j:Int}(a:-(2^62)<=i)(e:i<2^62)(b:-(2^62)<=j)(d:j<2^62):Dl (.int i) (.int j,h)=ε (.vals ((List.range (j-i).toNat).map fun(k:Nat)=>Dt.int (i+(k:Int))),h):=dh ⟨a,e,b,d⟩
def uH:Dt×HI->Ni (qi×HI)
 | (.lst xs,h)=>ε (.vals xs,h)
 | (.ref n,h)=>if 0<qi.fuel (.rf n) h then ε (.rf n,h)else none
 | _=>none
@[simp] theorem WG(xs:Ms Dt):uH (.lst xs,h)=ε (.vals xs,h):=by rfl
@[simp] theorem rD:hC f l h=cB (f l h) uH:=by
 unfold cB;unfold hC TV;cases f l h with
 | none=>rfl
 | some r=>obtain⟨d,h⟩:=r;cases d<;>first | rfl | (simp[uH,qi.fuel];done)
noncomputable def iW:Dt×HI->Ni (qi×HI)
 | (.tup xs,h)=>ε (.vals xs,h)
 | _=>none
@[simp] theorem Mt(xs:Ms Dt):iW (.tup xs,h)=ε (.vals xs,h):=by rfl
@[simp] theorem Yn:OP f l h=cB (f l h) iW:=by
 unfold cB;unfold OP
 congr 1
 funext r
 obtain⟨d,h⟩:=r;cases d<;>rfl
noncomputable def DE(bd:RG)(tc:RT)(te:RE):Ms Dt->LI->HI->Ni (Ms Dt×HI)
 | [],_,h=>ε ([],h)
 | x::xs,l,h=>(bd x l).bind fun a=>(tc a h).bind fun b=>if b.1=true then(te a b.2).bind fun r=>(DE bd tc te xs a r.2).bind fun q=>ε (r.1::q.1,q.2)
  else DE bd tc te xs a b.2
theorem Nz(bd:RG)(tc:RT)(te:RE)(xs:Ms Dt)(o:xs.length<sizeLine):∀(n k:Nat)(l:LI)(h:HI)(ys:Ms Dt),n=(xs.length-k)+1->k<=xs.length->ys.length<=k->
 eE bd tc te (.vals xs) n k l h ys=(DE bd tc te (xs.drop k) l h).bind fun q=>ε (ys++q.1,q.2):=by
 intro n
 induction n with
 | zero=>intro k l h ys e;omega
 | succ n ih=>
  intro k l h ys e p j;unfold eE;simp![qi.at];by_cases d:k<xs.length
  . rw[iu d,xr d];simp![DE];cases bd xs[k] l with
    | none=>rfl
    | some a=>
     simp![Ss];cases tc a h with
     | none=>rfl
     | some b=>
      simp![Ss];by_cases i:b.1=true
      . simp![dh i];cases te a b.2 with
        | none=>rfl
        | some r=>
         simp![Ss];rw[dh nofun,ih (k+1) a r.2 _ nofun nofun (by simp;omega)];cases DE bd tc te (xs.drop (k+1)) a r.2 with
         | none=>rfl
         | some q=>simp
      . simp![dG i];exact ih (k+1) a b.2 ys nofun nofun nofun
  . rw[jj nofun,Ma nofun];simp[DE]
def BE(bd:RG)(tc:RT)(te:RE)(l:LI):qi×HI->Ni (Ms Dt×HI):=fun r=>eE bd tc te r.1 (r.1.fuel r.2) 0 l r.2 []
theorem PF(bd:RG)(tc:RT)(te:RE){xs:Ms Dt}(a:xs.length<sizeLine):BE bd tc te l (.vals xs,h)=DE bd tc te xs l h:=by unfold BE;simp![qi.fuel];rw[Nz bd tc te xs a _ 0 _ _ _ nofun nofun ⋯];rw[drop_zero];cases DE bd tc te xs l h<;>simp
@[simp] theorem cH(g:RI)(bd:RG)(tc:RT)(te:RE)(a:Ms (Ni Nat)):RD g bd tc te a l h=cB (cB (g l h) (BE bd tc te (KF l a))) fun q=>ε (.lst q.1,q.2):=by unfold cB;unfold RD BE;rw[Option.bind_assoc]
@[simp] theorem RL(g:RI)(bd:RG)(tc:RT)(te:RE)(a:Ms (Ni Nat)):mG g bd tc te a l h=cB (cB (g l h) (BE bd tc te (KF l a))) fun q=>ε (.ref q.2.length,q.2++[.lst q.1]):=by unfold cB;unfold mG BE;rw[Option.bind_assoc]
@[simp] theorem oM:uB l h=ε (true,h):=by rfl
@[simp] theorem oF:KF l []=[]:=by rfl
@[simp] theorem rF(cap:Ms (Ni Nat)):KF l (none::cap)=none::KF l cap:=by rfl
@[simp] theorem gJ(j:Nat)(cap:Ms (Ni Nat)):KF l (ε j::cap)=(l[j]?).join::KF l cap:=by rfl
theorem cU{b:Type}{te:RE}{i:Nat}{tc:RT}(D:b->Dt)(p:b->Bool)(F:b->Dt)(h:HI):∀(xs:Ms b)(l:LI),(∀x∈xs,tc (l.set i (ε (D x))) h=ε (p x,h)/\(p x=true->te (l.set i (ε (D x))) h=ε (F x,h)))->
 DE (CA i) tc te (xs.map D) l h=ε ((xs.filter p).map F,h)
 | [],_,_=>rfl
 | x::xs,l,H=>by
  have d:=H x ⋯;have ih:=cU D p F h xs (l.set i (ε (D x))) (te:=te) (tc:=tc) (i:=i) (fun y e=>by
   rw[set_set];exact H y (by simp[e]))
  simp![Qs,DE,gG,Ss,d.1];by_cases a:p x=true
  . simp![a,eG,d.2 a,Ss,ih];simp[a]
  . simp![a];rw[dG ⋯,ih];simp[a]
theorem aH{a:Type}{te:RE}{i:Nat}{tc:RT}(D:a->Dt)(F:a->Dt)(h:HI)(xs:Ms a)(l:LI)(H:∀x∈xs,tc (l.set i (ε (D x))) h=ε (true,h)/\te (l.set i (ε (D x))) h=ε (F x,h)) :
 DE (CA i) tc te (xs.map D) l h=ε (xs.map F,h):=by
 rw[cU D (fun _=>true) F h xs l fun x b=>⟨(H x b).1,fun _=>(H x b).2⟩,filter_eq_self.mpr ⋯]
@[simp] theorem dC(F:Dt->HI->Ni (Dt×HI)):YB F f l h=cB (f l h) fun r=>F r.1 r.2:=by rfl
@[simp] theorem QU(xs:Ms Dt):QB (.lst xs) h=ε (.int xs.length,h):=by rfl
theorem EH{n:Nat}{xs:Ms Dt}(e:h[n]?=ε (.lst xs)):QB (.ref n) h=ε (.int xs.length,h):=by simp![QB,QD,HA,e,Ro]
@[simp] theorem oD(b:Bool):aL (.bl b) h=ε (.int (if b=true then 1 else 0),h):=by rfl
@[simp] theorem Fg(ns:Ms Int):pD (ns.map Dt.int)=ε ns:=by
 induction ns with
 | nil=>rfl
 | cons n ns ih=>simp[pD,ih]
theorem V2(ns:Ms Int):EJ (.lst (ns.map Dt.int)) h=ε (.int ns.sum,h):=by simp[EJ,HA]
theorem j8{ns:Ms Int}(c:ns ≠ []):UH (.lst (ns.map Dt.int)) h=ε (.int (dD ns),h):=by simp[UH,HA,c]
theorem n8{ns:Ms Int}(c:ns ≠ []):VH (.lst (ns.map Dt.int)) h=ε (.int (pC ns),h):=by simp[VH,HA,c]
@[simp] theorem K3(T:String):nN T f l h=cB (f l h) fun r=>(OH r.2 r.1).map fun t=>(.bl (MG t T),r.2):=by rfl
@[simp] theorem yP:gL l h=ε (none,h):=by rfl
noncomputable def Nm:Dt×HI->Ni (Ni Int×HI)
 | (.int i,h)=>ε (ε i,h)
 | _=>none
@[simp] theorem fP(i:Int):Nm (.int i,h)=ε (ε i,h):=by rfl
@[simp] theorem xP:JF f l h=cB (f l h) Nm:=by
 unfold cB;unfold JF
 congr 1
 funext r
 obtain⟨d,h⟩:=r;cases d<;>rfl
@[simp] theorem WP(lo a:RO):DJ f lo a l h=cB (f l h) fun r=>cB (lo l r.2) fun o=>cB (a l o.2) fun u=>(HA u.2 r.1).map fun b=>(.lst (UE b o.1 u.1),u.2):=by rfl
@[simp] theorem BH(xs:Ms Dt):HA h (.lst xs)=ε xs:=by rfl
theorem XG{n:Nat}{xs:Ms Dt}(e:h[n]?=ε (.lst xs)):HA h (.ref n)=ε xs:=by simp![HA,e]
theorem rT(xs:Ms Dt)(k:Nat):UE xs (ε (k:Int)) none=xs.drop k:=by
 unfold UE HT.sIx;have e:(if(k:Int)<0 then((k:Int)+(xs.length:Int)).toNat else min (k:Int).toNat xs.length)=min k xs.length:=by rw[dG nofun,m6]
 simp![e];rw[Je (by rw[length_drop];omega)];by_cases a:k<=xs.length
 . rw[Nat.min_eq_left a]
 . rw[Nat.min_eq_right nofun,Ma (Ra _),Ma nofun]
theorem Sd(xs:Ms Dt)(k:Nat):UE xs none (ε (k:Int))=xs.take k:=by
 unfold UE HT.sIx;have e:(if(k:Int)<0 then((k:Int)+(xs.length:Int)).toNat else min (k:Int).toNat xs.length)=min k xs.length:=by rw[dG nofun,m6]
 simp![e,drop_zero,Nat.sub_zero];by_cases a:k<=xs.length
 . rw[Nat.min_eq_left a]
 . rw[Nat.min_eq_right nofun,Je (Ra _),Je nofun]
theorem Y9{xs ys:Ms Dt}(c:xs.length+ys.length<=sizeLine):JI (.lst xs) (.lst ys) h=ε (.lst (xs++ys),h):=by simp![JI,HA,Ss,dh c]
@[simp] theorem gK:sizeLine=16777216:=by rfl
noncomputable def mN(g:RE)(l:LI):Dt×HI->Ni (Dt×HI)
 | (.ref n,h)=>(match h[n]? with
  | some (.lst _)=>(g l h).bind fun q=>match q.2[n]? with
   | some (.lst xs)=>if xs.length<sizeLine then ε (.non,q.2.set n (.lst (xs++[q.1])))else none
   | _=>none
  | _=>none)
 | _=>none
@[simp] theorem ZE:CD f g l h=cB (f l h) (mN g l):=by
 unfold cB;unfold CD
 congr 1
 funext r
 obtain⟨d,h⟩:=r;cases d<;>(try rfl)
theorem qF{n:Nat}{xs ys:Ms Dt}{d:Dt}{h':HI}(e:h[n]?=ε (.lst ys))(a:g l h=ε (d,h'))(b:h'[n]?=ε (.lst xs))(c:xs.length<sizeLine):mN g l (.ref n,h)=ε (.non,h'.set n (.lst (xs++[d]))):=by simp![mN,e,a,Ss,b,dh c]
end
noncomputable def Pass(I:LI->HI->Prop):Rs->Prop
 | .nx l h=>I l h
 | .ct l h=>I l h
 | _=>False
theorem LX{m k:Type}{i:Nat}{body:RS}(D:m->Dt)(S:k->LI->HI->Prop)(f:k->m->k)(xs:Ms m)(H:∀x∈xs,∀b l h,S b l h->∃r,body (l.set i (ε (D x))) h=ε r/\Pass (S (f b x)) r) :
 ∀b l h,S b l h->∃a h',kC (CA i) body (xs.map D) l h=ε (.nx a h')/\S (xs.foldl f b) a h':=by
 induction xs with
 | nil=>intro b l h i;exact⟨l,h,rfl,i⟩
 | cons x xs ih=>
  intro b l h i;obtain⟨r,e,p⟩:=H x ⋯ b l h i;cases r with
  | nx j g=>obtain⟨a,h',q,n⟩:=ih (fun y o=>H y (by simp[o])) _ j g p;exact⟨a,h',by simp[kC,e,q],n⟩
  | ct j g=>obtain⟨a,h',q,n⟩:=ih (fun y o=>H y (by simp[o])) _ j g p;exact⟨a,h',by simp[kC,e,q],n⟩
  | bk j g=>exact p.elim
  | rt d g=>exact p.elim
section
variable{l:LI}{h:HI}{f g:RE}
@[simp] theorem o1(bs:Ms Bool):oG (bs.map Dt.bl)=ε bs:=by
 induction bs with
 | nil=>rfl
 | cons n ns ih=>simp[oG,ih]
theorem P2(bs:Ms Bool):TH (.lst (bs.map Dt.bl)) h=ε (.bl (bs.all id),h):=by simp[TH,HA]
@[simp] theorem BU(i j:Nat)(a b:Dt):SD i j (.tup [a,b]) l=ε ((l.set i (ε a)).set j (ε b)):=by rfl
end
theorem zF{h:HI}{n:Nat}{xs:Ms Dt}(e:h[n]?=ε (.lst xs)):uH (.ref n,h)=ε (.rf n,h):=by
 have:0<qi.fuel (.rf n) h:=by simp![qi.fuel,e];omega
 simp![uH,dh this]
section
variable{l:LI}{h:HI}{f g fe fo p fa fb:RE}
def FQ(l:LI)(v o:Dt):Dt×HI->Ni Rs
 | (.int k,h)=>(match o with
  | .ref n=>(match h[n]? with
   | some (.lst xs)=>(GI xs.length k).bind fun j=>ε (.nx l (h.set n (.lst (xs.set j v))))
   | _=>none)
  | _=>none)
 | _=>none
@[simp] theorem mZ:mJ fe fo p l h=cB (fe l h) fun v=>cB (fo l v.2) fun o=>cB (p l o.2) (FQ l v.1 o.1):=by
 unfold cB mJ
 congr 1
 funext v
 congr 1
 funext o
 congr 1
 funext i
 obtain⟨d,h⟩:=o;obtain⟨k,h⟩:=i;cases k<;>cases d<;>rfl
theorem Wr{n k:Nat}(a:k<n):GI n (k:Int)=ε k:=by unfold GI;rw[dh nofun,dh nofun];simp
theorem XO{n k:Nat}{xs:Ms Dt}{v:Dt}(e:h[n]?=ε (.lst xs))(a:k<xs.length):FQ l v (.ref n) (.int (k:Int),h)=ε (.nx l (h.set n (.lst (xs.set k v)))):=by simp![FQ,e,Wr a,Ss]
def EQ(a:Dt):Dt×HI->Ni (Dt×HI)
 | (.int i,h)=>if -(2^62)<=i/\i<=1000000 then ε (.lst (tH a i),h)else none
 | _=>none
def GV(a:Dt):Dt×HI->Ni (Dt×HI)
 | (.int i,h)=>if -(2^62)<=i/\i<=1000000 then ε (.ref h.length,h++[.lst (tH a i)])else none
 | _=>none
@[simp] theorem Jj:SH fa fb l h=cB (fa l h) fun a=>cB (fb l a.2) (EQ a.1):=by
 unfold cB SH
 congr 1
 funext v
 congr 1
 funext o
 obtain⟨d,h⟩:=o;cases d<;>rfl
@[simp] theorem pa:EK fa fb l h=cB (fa l h) fun a=>cB (fb l a.2) (GV a.1):=by
 unfold cB EK
 congr 1
 funext v
 congr 1
 funext o
 obtain⟨d,h⟩:=o;cases d<;>rfl
theorem DT(a:Dt){k:Nat}(b:k<=1000000):EQ a (.int (k:Int),h)=ε (.lst (List.replicate k a),h):=by unfold EQ;simp only;rw[dh ⟨by omega,by omega⟩];simp[tH]
theorem DO(a:Dt){k:Nat}(b:k<=1000000):GV a (.int (k:Int),h)=ε (.ref h.length,h++[.lst (List.replicate k a)]):=by unfold GV;simp only;rw[dh ⟨by omega,by omega⟩];simp[tH]
theorem V8(bs:Ms Bool):qN (.lst (bs.map Dt.bl)) h=ε (.bl (bs.any id),h):=by simp[qN,HA]
def HV(r:Dt):Dt×HI->Ni (qi×HI):=fun q=>match HA q.2 r,HA q.2 q.1 with
 | some _,some _=>ε (.zp r q.1,q.2)
 | _,_=>none
@[simp] theorem J1:tQ fa fb l h=cB (fa l h) fun r=>cB (fb l r.2) (HV r.1):=by rfl
theorem Hy{r q:Dt}{xs ys:Ms Dt}(a:HA h r=ε xs)(e2:HA h q=ε ys):HV r (q,h)=ε (.zp r q,h):=by simp![HV,a,e2]
@[simp] theorem B6(i j:Int):gE (.int i) (.int j) h=ε (.bl (decide (i=j)),h):=by
 have r:∀k:Int,LA h 8 (.int k)=ε (.int k):=fun _=>by simp[LA]
 simp![gE,r,Ss,XF,Ro]
theorem V9(i j:Str):gE (.str i) (.str j) h=ε (.bl (decide (i=j)),h):=by
 have r:∀k:Str,LA h 8 (.str k)=ε (.str k):=fun _=>by simp[LA]
 simp![gE,r,Ss,JG,Ro]
theorem W9{a b:Dt}{xs ys:Ms Dt}(d:LA h 8 a=ε (.lst xs))(e2:LA h 8 b=ε (.lst ys))(c:uE xs ys=true):gE a b h=ε (.bl (qE xs ys),h):=by simp![gE,d,e2,Ss,Z9 c,Ro]
theorem sV{a b:Dt}{xs ys:Ms Dt}(d:LA h 8 a=ε (.lst xs))(e2:LA h 8 b=ε (.lst ys))(c:uE xs ys=true):RC a b h=ε (.bl (!qE xs ys),h):=by simp![RC,d,e2,Ss,aj c,Ro]
def Ml(go:RS)(body:RS)(l:LI):Bool×HI->Ni Rs:=fun c=>if c.1=true then(body l c.2).bind (dN go)else ε (.nx l c.2)
theorem iz(t:RT)(body:RS)(n:Nat):kG t body (n+1) l h=cB (t l h) (Ml (kG t body n) body l):=by
 unfold cB;rw[kG]
 congr 1
noncomputable def ZK(fa:RE)(l:LI):Dt×HI->Ni (Dt×HI)
 | (.ref n,h)=>(match h[n]? with
  | some (.lst _)=>(fa l h).bind fun q=>match q.1 with
   | .ref m=>(match q.2[n]?,q.2[m]? with
    | some (.lst xs),some (.lst ys)=>if xs.length+ys.length<=sizeLine then ε (.non,q.2.set n (.lst (xs++ys)))else none
    | _,_=>none)
   | _=>none
  | _=>none)
 | _=>none
@[simp] theorem WO:jJ fo fa l h=cB (fo l h) (ZK fa l):=by
 unfold cB jJ
 congr 1
 funext r
 obtain⟨d,h⟩:=r;cases d<;>(try rfl)
theorem wY{n m:Nat}{xs ys zs:Ms Dt}{h':HI}(e:h[n]?=ε (.lst zs))(a:fa l h=ε (.ref m,h'))(b:h'[n]?=ε (.lst xs))(e2:h'[m]?=ε (.lst ys))(c:xs.length+ys.length<=sizeLine):ZK fa l (.ref n,h)=ε (.non,h'.set n (.lst (xs++ys))):=by simp![ZK,e,a,Ss,b,e2,dh c]
@[simp] theorem DQ(F:Dt->Dt->Ni Dt):pQ F fa fb l h=cB (fa l h) fun r=>cB (fb l r.2) fun q=>(F r.1 q.1).map fun d=>(d,q.2):=by rfl
@[simp] theorem O7(i j:Int):IP (.int i) (.int j)=ε (.int (max i j)):=by
 unfold IP;simp only
 congr 2
 split<;>omega
@[simp] theorem pb(i j:Int):GK (.int i) (.int j)=ε (.int (min i j)):=by
 unfold GK;simp only
 congr 2
 split<;>omega
end
theorem kh{bd:RG}{tc:RT}{te:RE}{n:Nat}{xs:Ms Dt}(o:∀l h b a,tc l h=ε (b,a)->h[n]?=ε (.lst xs)->a[n]?=ε (.lst xs))(j:∀l h b a,te l h=ε (b,a)->h[n]?=ε (.lst xs)->a[n]?=ε (.lst xs)) :
 ∀(m k:Nat)(l:LI)(h:HI)(ys:Ms Dt),h[n]?=ε (.lst xs)->eE bd tc te (.rf n) m k l h ys=eE bd tc te (.vals xs) m k l h ys:=by
 intro m
 induction m with
 | zero=>intros;rfl
 | succ m ih=>
  intro k l h ys e;unfold eE;simp![qi.at,e];cases xs[k]? with
  | none=>rfl
  | some d=>
   simp only;cases bd d l with
   | none=>rfl
   | some f=>
    simp![Ss];cases q:tc f h with
    | none=>rfl
    | some b=>
     obtain⟨b,p⟩:=b;have g:=o _ _ _ _ q e;simp![Ss];split
     . cases i:te f p with
       | none=>rfl
       | some r=>
        obtain⟨r,s⟩:=r;have e2:=j _ _ _ _ i g;simp![Ss];split
        . exact ih _ _ _ _ e2
        . rfl
     . exact ih _ _ _ _ g
theorem bU{bd:RG}{tc:RT}{te:RE}{n:Nat}{xs:Ms Dt}{l:LI}{h:HI}(e:h[n]?=ε (.lst xs))(g:xs.length<sizeLine)(f:∀l h b a,tc l h=ε (b,a)->h[n]?=ε (.lst xs)->a[n]?=ε (.lst xs))(d:∀l h b a,te l h=ε (b,a)->h[n]?=ε (.lst xs)->a[n]?=ε (.lst xs)) :
 BE bd tc te l (.rf n,h)=DE bd tc te xs l h:=by
 rw[<- PF bd tc te g];unfold BE;have i:qi.fuel (.rf n) h=xs.length+1:=by simp![qi.fuel,e]
 have e2:qi.fuel (.vals xs) h=xs.length+1:=by simp![qi.fuel]
 simp![i,e2];exact kh f d _ _ _ _ _ e
theorem JS{b:Type}{te:RE}{i:Nat}(D:b->Dt)(O:b->Ob)(a:HI):∀(xs:Ms b)(l:LI)(e:HI),(∀x∈xs,∀e,te (l.set i (ε (D x))) (a++e)=ε (.ref (a++e).length,a++e++[O x]))->
 DE (CA i) uB te (xs.map D) l (a++e)=ε ((List.range xs.length).map (fun(k:Nat)=>Dt.ref ((a++e).length+k)),a++e++xs.map O)
 | [],_,e,_=>by simp[DE]
 | x::xs,l,e,H=>by
  have f:=H x ⋯ e;have ih:=JS D O a xs (l.set i (ε (D x))) (e++[O x]) (te:=te) (i:=i) (fun y d e=>by
   rw[set_set];exact H y (by simp[d]) e)
  simp![Qs,DE,gG,Ss,oM,f,eG];rw[<- nu]at ih;rw[ih];simp![Ss,Qu,Ji,Qs,map_map,nu,Ve,Ui]
  congr 2
  rw[Nat.add_zero]
  congr 1
  refine map_congr_left fun k _=>?_
  simp;omega
theorem qM{o:Type}{i:Nat}{body:RS}(D:o->Dt)(S:Nat->LI->HI->Prop):∀(xs:Ms o)(a:Nat)(_:∀(k:Nat) x,xs[k]?=ε x->∀l h,S (a+k) l h->∃r,body (l.set i (ε (D x))) h=ε r/\Pass (S (a+k+1)) r)(l:LI)(h:HI),S a l h->
 ∃b f,kC (CA i) body (xs.map D) l h=ε (.nx b f)/\S (a+xs.length) b f
 | [],a,_,l,h,s=>⟨l,h,rfl,s⟩
 | x::xs,a,H,l,h,s=>by
  obtain⟨r,e,p⟩:=H 0 x rfl l h s;have q:∀(k:Nat) y,xs[k]?=ε y->∀l h,S (a+1+k) l h->∃r,body (l.set i (ε (D y))) h=ε r/\Pass (S (a+1+k+1)) r:=by intro k y u l h s;have:=H (k+1) y (by simpa using u) l h (by rw[show a+(k+1)=a+1+k by omega];exact s);rw[show a+(k+1)+1=a+1+k+1 by omega]at this;exact this
  cases r with
  | nx j g=>obtain⟨b,f,n,m⟩:=qM D S xs (a+1) q j g p;exact⟨b,f,by simp[kC,e,n],by rw[Qu,show a+(xs.length+1)=a+1+xs.length by omega];exact m⟩
  | ct j g=>obtain⟨b,f,n,m⟩:=qM D S xs (a+1) q j g p;exact⟨b,f,by simp[kC,e,n],by rw[Qu,show a+(xs.length+1)=a+1+xs.length by omega];exact m⟩
  | bk j g=>exact p.elim
  | rt d g=>exact p.elim
theorem bK{i:Nat}{body:RS}(D:Nat->Dt)(S:Nat->LI->HI->Prop)(n:Nat)(H:∀k<n,∀l h,S k l h->∃r,body (l.set i (ε (D k))) h=ε r/\Pass (S (k+1)) r)(l:LI)(h:HI)(s:S 0 l h) :
 ∃a h',kC (CA i) body ((List.range n).map D) l h=ε (.nx a h')/\S n a h':=by
 obtain⟨a,h',e,f⟩:=qM (i:=i) (body:=body) D S (List.range n) 0 (fun k x g l h s=>by
  obtain⟨d,b⟩:=Uo g;simp at d b;subst b;rw[xu]at s ⊢;exact H k d l h s) l h s
 exact⟨a,h',e,by simpa using f⟩
noncomputable def o2(I:LI->HI->Prop):Rs->Prop
 | .nx l h=>I l h
 | .ct l h=>I l h
 | _=>True
theorem Dr{i:Nat}{body:RS}{n:Nat}{xs:Ms Dt}(I:LI->HI->Prop)(f:∀l h,I l h->h[n]?=ε (.lst xs))(H:∀x∈xs,∀l h r,I l h->body (l.set i (ε x)) h=ε r->o2 I r) :
 ∀(m k:Nat)(l:LI)(h:HI),I l h->DB (CA i) body (.rf n) m k l h=DB (CA i) body (.vals xs) m k l h:=by
 intro m
 induction m with
 | zero=>intros;rfl
 | succ m ih=>
  intro k l h e;unfold DB;simp![qi.at,f l h e];cases z:xs[k]? with
  | none=>rfl
  | some d=>
   simp![gG,Ss];cases q:body (l.set i (ε d)) h with
   | none=>rfl
   | some r=>
    have:=H d (jo z) _ _ _ e q;simp![Ss];cases r with
    | nx b a=>exact ih _ _ _ this
    | ct b a=>exact ih _ _ _ this
    | bk b a=>rfl
    | rt d a=>rfl
theorem Cr{i:Nat}{body:RS}{n:Nat}{xs:Ms Dt}{l:LI}{h:HI}(I:LI->HI->Prop)(b:∀l h,I l h->h[n]?=ε (.lst xs))(H:∀x∈xs,∀l h r,I l h->body (l.set i (ε x)) h=ε r->o2 I r)(a:I l h) :
 zD (CA i) body l (.rf n,h)=kC (CA i) body xs l h:=by
 rw[<- ZF];unfold zD;have d:qi.fuel (.rf n) h=xs.length+1:=by simp![qi.fuel,b l h a]
 have e2:qi.fuel (.vals xs) h=xs.length+1:=by simp![qi.fuel]
 simp![d,e2];exact Dr I b H _ _ _ _ a
theorem zP{o:Type}{i n:Nat}{body:RS}(D:o->Dt)(S:Nat->LI->HI->Prop)(xs:Ms o)(q:∀k l h,S k l h->h[n]?=ε (.lst (xs.map D)))(H:∀(k:Nat) x,xs[k]?=ε x->∀l h,S k l h->∃r,body (l.set i (ε (D x))) h=ε r/\Pass (S (k+1)) r)
 (l:LI) (h:HI) (s:S 0 l h):∃a h',zD (CA i) body l (.rf n,h)=ε (.nx a h')/\S xs.length a h':=by
 have go:∀(f k:Nat)(l:LI)(h:HI),S k l h->f=xs.length-k+1->k<=xs.length->∃a h',DB (CA i) body (.rf n) f k l h=ε (.nx a h')/\S xs.length a h':=by
  intro f
  induction f with
  | zero=>intro k l h _ e;omega
  | succ f ih=>
   intro k l h m e B;unfold DB;simp![qi.at,q k l h m,qu];by_cases p:k<xs.length
   . rw[iu p];obtain⟨r,y,g⟩:=H k xs[k] (iu p) l h m;simp![Ro,gG,Ss,y];cases r with
     | nx j b=>exact ih (k+1) j b g nofun nofun
     | ct j b=>exact ih (k+1) j b g nofun nofun
     | bk j b=>exact g.elim
     | rt d b=>exact g.elim
   . rw[jj nofun];have:k=xs.length:=by omega
     subst this;exact⟨l,h,rfl,m⟩
 have u:qi.fuel (.rf n) h=xs.length-0+1:=by simp![qi.fuel,q 0 l h s,lq];omega
 unfold zD;exact go _ 0 l h s u (mq _)
section
variable{l:LI}{h:HI}{fo fi fe f fa:RE}
noncomputable def CQ(fa:RE)(l:LI):Dt×HI->Ni (Dt×HI)
 | (.ref n,h)=>(match h[n]? with
  | some (.lst _)=>(fa l h).bind fun q=>match q.1 with
   | .int 0=>(match q.2[n]? with
    | some (.lst (x::xs))=>ε (x,q.2.set n (.lst xs))
    | _=>none)
   | _=>none
  | _=>none)
 | _=>none
@[simp] theorem Zn:uP fo fa l h=cB (fo l h) (CQ fa l):=by
 unfold cB uP
 congr 1
 funext r
 obtain⟨d,h⟩:=r;cases d<;>(try rfl)
theorem xg{n:Nat}{x:Dt}{xs:Ms Dt}(e:h[n]?=ε (.lst (x::xs)))(a:fa l h=ε (.int 0,h)):CQ fa l (.ref n,h)=ε (x,h.set n (.lst xs)):=by simp![CQ,e,a,Ss]
noncomputable def VV:Dt×HI->Ni (Dt×HI)
 | (.int b,h)=>ε (.int (Builtin.bitNot b),h)
 | _=>none
@[simp] theorem Gg(b:Int):VV (.int b,h)=ε (.int (Builtin.bitNot b),h):=by rfl
@[simp] theorem Ij:DN f l h=cB (f l h) VV:=by
 unfold cB DN
 congr 1
 funext r
 obtain⟨d,h⟩:=r;cases d<;>rfl
@[simp] theorem jm(n:Nat)(t:RT)(body:RS):sP n t body l h=kG t body n l h:=by rfl
end
noncomputable def rJ(I:LI->HI->Prop)(E:Dt->HI->Prop):Rs->Prop
 | .nx l h=>I l h
 | .rt d h=>E d h
 | _=>False
theorem MX{t:RT}{body:RS}(I:Nat->LI->HI->Prop)(N:LI->HI->Prop)(E:Dt->HI->Prop)
 (H:∀m l h,I m l h->∃b g,t l h=ε (b,g)/\if b=true then ∃r,body l g=ε r/\rJ (fun e a=>∃f,f<m/\I f e a) E r else N l g) :
 ∀(n m:Nat)(l:LI)(h:HI),I m l h->m<n->∃r,kG t body n l h=ε r/\rJ N E r:=by
 intro n
 induction n with
 | zero=>intro m l h _ k;omega
 | succ n ih=>
  intro m l h i k;obtain⟨b,g,o,q⟩:=H m l h i;rw[iz,o,fA];unfold Ml;cases b with
  | false=>rw[dG Va]at q ⊢;exact⟨_,rfl,q⟩
  | true=>
   rw[dh rfl]at q ⊢;obtain⟨r,e2,q⟩:=q;simp![e2,Ss];cases r with
   | nx e a=>obtain⟨f,p,j⟩:=q;exact ih f e a j nofun
   | rt d a=>exact⟨_,rfl,q⟩
   | bk e a=>exact q.elim
   | ct e a=>exact q.elim
theorem L0{m:Type}{i n:Nat}{body:RS}(D:m->Dt)(S:Nat->LI->HI->Prop)(E:Dt->HI->Prop)(xs:Ms m)(p:∀k l h,S k l h->h[n]?=ε (.lst (xs.map D)))(H:∀(k:Nat) x,xs[k]?=ε x->∀l h,S k l h->∃r,body (l.set i (ε (D x))) h=ε r/\rJ (S (k+1)) E r)
 (l:LI) (h:HI) (q:S 0 l h):∃r,zD (CA i) body l (.rf n,h)=ε r/\rJ (S xs.length) E r:=by
 have go:∀(f k:Nat)(l:LI)(h:HI),S k l h->f=xs.length-k+1->k<=xs.length->∃r,DB (CA i) body (.rf n) f k l h=ε r/\rJ (S xs.length) E r:=by
  intro f
  induction f with
  | zero=>intro k l h _ e;omega
  | succ f ih=>
   intro k l h j e y;unfold DB;simp![qi.at,p k l h j,qu];by_cases o:k<xs.length
   . rw[iu o];obtain⟨r,u,a⟩:=H k xs[k] (iu o) l h j;simp![Ro,gG,Ss,u];cases r with
     | nx g b=>exact ih (k+1) g b a nofun nofun
     | rt d b=>exact⟨_,rfl,a⟩
     | bk g b=>exact a.elim
     | ct g b=>exact a.elim
   . rw[jj nofun];have:k=xs.length:=by omega
     subst this;exact⟨_,rfl,j⟩
 have s:qi.fuel (.rf n) h=xs.length-0+1:=by simp![qi.fuel,p 0 l h q,lq];omega
 unfold zD;exact go _ 0 l h q s (mq _)
section
variable{l:LI}{h:HI}{f g fo fe:RE}{ga:RA}
noncomputable def K5(c:Nat):Dt->Dt×HI->Ni (qi×HI)
 | .int i,(.int j,h)=>if 0<=i/\i<2^61/\0<=j/\j<2^61/\0<c/\c<1000 then ε (.vals ((List.range ((j-i+(c:Int)-1)/(c:Int)).toNat).map fun(k:Nat)=>Dt.int (i+(k:Int)*(c:Int))),h)else none
 | _,_=>none
@[simp] theorem Hj(c:Nat):Z3 f g c l h=cB (f l h) fun r=>cB (g l r.2) (K5 c r.1):=by
 unfold cB;unfold Z3
 congr 1
 funext r
 obtain⟨d,h⟩:=r
 congr 1
 funext q
 obtain⟨a,b⟩:=q;cases d<;>cases a<;>rfl
def sQ(x f:Str):Dt×HI->Ni (Dt×HI)
 | (.ref n,h)=>(match h[n]? with
  | some (.ins y fs)=>if y=x then(JD f fs).bind fun d=>ε (d,h)else none
  | _=>none)
 | _=>none
@[simp] theorem ZP(x k:Str):tG x k fo l h=cB (fo l h) (sQ x k):=by
 unfold cB tG
 congr 1
 funext r
 obtain⟨d,h⟩:=r;cases d<;>(try rfl)
theorem SO{x k:Str}{n:Nat}{fs:Ms (Str×Dt)}{d:Dt}(e:h[n]?=ε (.ins x fs))(a:JD k fs=ε d):sQ x k (.ref n,h)=ε (d,h):=by simp![sQ,e,eG,a,Ss]
def uV(x f:Str)(v:Dt)(l:LI):Dt×HI->Ni Rs
 | (.ref n,h)=>(match h[n]? with
  | some (.ins y fs)=>if y=x/\fs.length<1000 then ε (.nx l (h.set n (.ins y (jF f v fs))))else none
  | _=>none)
 | _=>none
@[simp] theorem K1(x k:Str):qJ x k fo fe l h=cB (fe l h) fun r=>cB (fo l r.2) (uV x k r.1 l):=by
 unfold cB qJ
 congr 1
 funext r
 congr 1
 funext q
 obtain⟨d,h⟩:=q;cases d<;>(try rfl)
theorem FO{x k:Str}{n:Nat}{fs:Ms (Str×Dt)}{v:Dt}(e:h[n]?=ε (.ins x fs))(a:fs.length<1000):uV x k v l (.ref n,h)=ε (.nx l (h.set n (.ins x (jF k v fs)))):=by simp![uV,e,true_and,dh a]
noncomputable def Y2(n:Nat):Dt×HI->Ni (Dt×HI)
 | (.non,h)=>ε (.ref n,h)
 | _=>none
@[simp] theorem yw(n:Nat):Y2 n (.non,h)=ε (.ref n,h):=by rfl
@[simp] theorem o9(x:Str)(F:zB):GP x F ga l h=cB (ga l h) fun r=>cB (F (.ref r.2.length::r.1) (r.2++[.ins x []])) (Y2 r.2.length):=by
 unfold cB GP
 congr 1
 funext r
 congr 1
 funext q
 obtain⟨d,h⟩:=q;cases d<;>(try rfl)
def zV(x m:Str)(F:zB)(ga:RA)(l:LI):Dt×HI->Ni (Dt×HI)
 | (.ref n,h)=>(match h[n]? with
  | some (.ins y fs)=>if y=x/\JD m fs=none then(ga l h).bind fun q=>F (.ref n::q.1) q.2 else none
  | _=>none)
 | _=>none
@[simp] theorem fV(x m:Str)(F:zB):tJ x m F fo ga l h=cB (fo l h) (zV x m F ga l):=by
 unfold cB tJ
 congr 1
 funext r
 obtain⟨d,h⟩:=r;cases d<;>(try rfl)
theorem aT{x m:Str}{F:zB}{n:Nat}{fs:Ms (Str×Dt)}(e:h[n]?=ε (.ins x fs))(a:JD m fs=none):zV x m F ga l (.ref n,h)=cB (ga l h) fun q=>F (.ref n::q.1) q.2:=by simp![zV,e,true_and,dh a];rfl
def pV:Dt×HI->Ni (qi×HI)
 | (.lst xs,h)=>ε (.vals (uJ 0 xs),h)
 | (.ref n,h)=>(match h[n]? with
  | some (.lst _)=>ε (.en n,h)
  | _=>none)
 | _=>none
@[simp] theorem Xn:NP f l h=cB (f l h) pV:=by
 unfold cB NP
 congr 1
 funext r
 obtain⟨d,h⟩:=r;cases d<;>(try rfl)
theorem Gw{n:Nat}{xs:Ms Dt}(e:h[n]?=ε (.lst xs)):pV (.ref n,h)=ε (.en n,h):=by simp![pV,e]
end
theorem U8{p:Type}{i j n:Nat}{body:RS}(D:p->Dt)(S:Nat->LI->HI->Prop)(xs:Ms p)(s:∀k l h,S k l h->h[n]?=ε (.lst (xs.map D)))(H:∀(k:Nat) x,xs[k]?=ε x->∀l h,S k l h->∃r,body ((l.set i (ε (.int (k:Int)))).set j (ε (D x))) h=ε r/\Pass (S (k+1)) r)
 (l:LI) (h:HI) (u:S 0 l h):∃a h',zD (SD i j) body l (.en n,h)=ε (.nx a h')/\S xs.length a h':=by
 have go:∀(f k:Nat)(l:LI)(h:HI),S k l h->f=xs.length-k+1->k<=xs.length->∃a h',DB (SD i j) body (.en n) f k l h=ε (.nx a h')/\S xs.length a h':=by
  intro f
  induction f with
  | zero=>intro k l h _ e;omega
  | succ f ih=>
   intro k l h o e C;unfold DB;simp![qi.at,s k l h o,qu];by_cases q:k<xs.length
   . rw[iu q];obtain⟨r,B,g⟩:=H k xs[k] (iu q) l h o;simp![Ro,BU,Ss,B];cases r with
     | nx m b=>exact ih (k+1) m b g nofun nofun
     | ct m b=>exact ih (k+1) m b g nofun nofun
     | bk m b=>exact g.elim
     | rt d b=>exact g.elim
   . rw[jj nofun];have:k=xs.length:=by omega
     subst this;exact⟨l,h,rfl,o⟩
 have y:qi.fuel (.en n) h=xs.length-0+1:=by simp![qi.fuel,s 0 l h u,lq];omega
 unfold zD;exact go _ 0 l h u y (mq _)
end SM
namespace PySem
open PySem.Sem (wp)
section
variable{prog:Oo}{w:O4}{A:Pa}{E:Mu->Nu->Prop}{s:Nu}
theorem Vj{M:Model}{a:Oa}{o:Obj}{Q:Ni Obj->Nu->Prop}(h:s.heap.get? a=ε o)(q:Q (ε o) s):wpAny M A (loadIfAlive a) Q E s:=by intro Γ p hΓ;unfold loadIfAlive;simp![Sem.wp];rw[h];exact q
abbrev lG(h:Pu)(z TI TO:Oa)(b a:Mu):Prop:=
 h.get? z=ε { cls:=.type "zip",dict:=none,data:=.fields #[b,a,.bool false,.ref TI,.ref TO],slots:=#[] }
theorem XY{z TI TO T:Oa}{b:Bool}{Q:Bool->Nu->Prop}(hz:lG s.heap z TI TO (rawInt T) (.bool b))(h:∃o,s.heap.get? T=ε o)
 (f:∀a,lG a z TI TO (rawInt T) (.bool true)->Heap.SameBut z s.heap a->Q false { s with heap:=a }):wpAny (model prog w) A (Builtin.SmallTypes.ownedTupleIsFree (.ref z)) Q E s:=by
 obtain⟨o,g⟩:=h;unfold Builtin.SmallTypes.ownedTupleIsFree;refine ao (Fo hz rfl (x:=rawInt T) rfl ?_);show wpAny _ _ (loadIfAlive ((T:Int).toNat) >>=_) _ _ _;refine ao (Vj (o:=o) (by rw[m6];exact g) ?_);simp![Option.isNone_some,Vs,eH];refine ao (Fo hz rfl (x:=.bool b) rfl ?_);cases b with
 | true=>rw[dG (by decide)];exact ao (au (au (f s.heap hz (Heap.SameBut.refl _ _))))
 | false=>rw[dh (by decide)];exact ao (wpAny_setField_rec hz ⋯ fun a d e=>au (f a d e))
end
section
variable{prog:Oo}{w:O4}{A:Pa}{E:Mu->Nu->Prop}{s:Nu}
theorem Mq{z TI TO T j i u r:Oa}{Z:Bool}{C B:Nat}{xs ys:Pb Mu}{x y a b:Mu}{Q:Mu->Nu->Prop}(D:ZipApart z TI TO j i u r)
 (hz:lG s.heap z TI TO (rawInt T) (.bool Z)) (X:∃o,s.heap.get? T=ε o) (H:IsPair s.heap TI (.ref j) (.ref i))
 (h1:s.heap.IsListIter j u C) (h2:s.heap.IsListIter i r B) (G:s.heap.IsList u xs) (F:s.heap.IsList r ys) (U:xs[C]?=ε x) (S:ys[B]?=ε y)
 (Y:∀q,lG q z TI TO (rawInt T) (.bool true)->q.IsListIter j u (C+1)->q.IsListIter i r (B+1)->IsPair q s.heap.objs.size x y->q.objs.size=s.heap.objs.size+1->
  (∀c o,c≠z->c≠j->c≠i->s.heap.get? c=ε o->q.get? c=ε o)->Q (.ref s.heap.objs.size) { s with heap:=q }) :
 wpAny (model prog w) A (Builtin.«zip.__next__» ⟨[.ref z],[]⟩) (fun I R=>∃v,I=.done (.ret v)/\Q v R) E s:=by
 show wpAny _ _ (field (.ref z) 2 >>=_) _ _ _;refine ao (Fo hz rfl (x:=.bool false) rfl ?_);show wpAny _ _ (field (.ref z) 3 >>=_) _ _ _;refine ao (Fo hz rfl (x:=.ref TI) rfl ?_);refine ao (wpAny_seqItems H rfl ?_);show wpAny _ _ (Builtin.SmallTypes.ownedTupleIsFree (.ref z) >>=_) _ _ _;refine ao (XY hz X fun P m d=>?_);simp![Vs,eH];show wpAny _ _ (forIn #[Value.ref j,Value.ref i] _ _ >>=_) _ _ _;rw[<- Array.forIn_toList];refine ao ?_;simp![forIn_cons,forIn_nil];refine ao (ao (Ds ?_));show wpAny _ _ (Builtin.SmallTypes.nextOf (.ref j) >>=_) _ _ _;refine ao (wpAny_nextOf_list_item (h1.extBut d.extBut D.i1z) (G.extBut d.extBut D.l1z) U fun O p f=>au (au ?_));refine ao (ao (Ds ?_));show wpAny _ _ (Builtin.SmallTypes.nextOf (.ref i) >>=_) _ _ _;refine ao (wpAny_nextOf_list_item ((h2.extBut d.extBut D.i2z).extBut f.extBut D.i12.symm) ((F.extBut d.extBut D.l2z).extBut f.extBut D.l2i1) S fun h n g=>au (au (au ?_)));refine ao (wpAny_newTuple (hsz:=show 2<=sizeLine by rw[Ao];decide) ?_);have hsz:h.objs.size=s.heap.objs.size:=by rw[g.1,f.1,d.1]
 have k:lG h z TI TO (rawInt T) (.bool true):=g.extBut _ _ D.i2z.symm (f.extBut _ _ D.i1z.symm m);refine au ⟨_,rfl,?_⟩;show Q (.ref h.objs.size) _;rw[hsz];have W:∀c o,c≠z->c≠j->c≠i->s.heap.get? c=ε o->h.get? c=ε o:=fun c o M L J e=>g.extBut _ _ J (f.extBut _ _ L (d.extBut _ _ M e))
 refine Y _ (cu _ k) ((p.extBut g.extBut D.i12).at fun o e=>cu _ e) (n.at fun o e=>cu _ e) ?_ (by rw[Ko,hsz]) fun c o M L J e=>cu _ (W c o M L J e)
 rw[<- hsz];exact je _ rfl
end
section
variable{prog:Oo}{w:O4}{A:Pa}{E:Mu->Nu->Prop}{s:Nu}
theorem Yq{z TI TO T i g p n:Oa}{S:Bool}{r q:Nat}{xs ys:Pb Mu}{Q:Fin->Nu->Prop}(M:A.handled=none)(D:ZipApart z TI TO i g p n)
 (hz:lG s.heap z TI TO (rawInt T) (.bool S)) (R:∃o,s.heap.get? T=ε o) (F:IsPair s.heap TI (.ref i) (.ref g))
 (h1:s.heap.IsListIter i p r) (h2:s.heap.IsListIter g n q) (k:s.heap.IsList p xs) (B:s.heap.IsList n ys) (m:xs[r]?=none\/ys[q]?=none)
 (O:∀H e,(∀c o,c≠z->c≠i->c≠g->s.heap.get? c=ε o->H.get? c=ε o)->(∃o,H.get? e=ε o/\o.cls=.type "StopIteration")->E (.ref e) { s with heap:=H }) :
 wpAny (model prog w) A (Builtin.«zip.__next__» ⟨[.ref z],[]⟩) Q E s:=by
 show wpAny _ _ (field (.ref z) 2 >>=_) _ _ _;refine ao (Fo hz rfl (x:=.bool false) rfl ?_);show wpAny _ _ (field (.ref z) 3 >>=_) _ _ _;refine ao (Fo hz rfl (x:=.ref TI) rfl ?_);refine ao (wpAny_seqItems F rfl ?_);show wpAny _ _ (Builtin.SmallTypes.ownedTupleIsFree (.ref z) >>=_) _ _ _;refine ao (XY hz R fun L u a=>?_);simp![Vs,eH];show wpAny _ _ (forIn #[Value.ref i,Value.ref g] _ _ >>=_) _ _ _;rw[<- Array.forIn_toList];refine ao ?_;simp![forIn_cons,forIn_nil];refine ao (ao (Ds ?_));show wpAny _ _ (Builtin.SmallTypes.nextOf (.ref i) >>=_) _ _ _;cases y:xs[r]? with
 | none=>exact ao (wpAny_nextOf_list_end M (h1.extBut a.extBut D.i1z) (k.extBut a.extBut D.l1z) y fun d e b C=>O d e (fun c o J I _ x=>b _ _ I (a.extBut _ _ J x)) C)
 | some x=>
  have P:ys[q]?=none:=by rcases m with h | h;rw[y]at h;cases h;exact h
  refine ao (wpAny_nextOf_list_item (h1.extBut a.extBut D.i1z) (k.extBut a.extBut D.l1z) y fun d G b=>au (au ?_));refine ao (ao (Ds ?_));show wpAny _ _ (Builtin.SmallTypes.nextOf (.ref g) >>=_) _ _ _;exact ao (wpAny_nextOf_list_end M ((h2.extBut a.extBut D.i2z).extBut b.extBut D.i12.symm) ((B.extBut a.extBut D.l2z).extBut b.extBut D.l2i1) P fun j e f C=>O j e (fun c o J I U x=>f _ _ U (b.extBut _ _ I (a.extBut _ _ J x))) C)
theorem Yj{z TI TO T f e i h:Oa}{C:Bool}{k j:Nat}{xs ys:Pb Mu}{x y:Mu}{Q:Ni Mu->Nu->Prop}(D:ZipApart z TI TO f e i h)
 (hz:lG s.heap z TI TO (rawInt T) (.bool C)) (u:∃o,s.heap.get? T=ε o) (p:IsPair s.heap TI (.ref f) (.ref e))
 (h1:s.heap.IsListIter f i k) (h2:s.heap.IsListIter e h j) (n:s.heap.IsList i xs) (m:s.heap.IsList h ys) (r:xs[k]?=ε x) (q:ys[j]?=ε y)
 (B:∀d,lG d z TI TO (rawInt T) (.bool true)->d.IsListIter f i (k+1)->d.IsListIter e h (j+1)->IsPair d s.heap.objs.size x y->d.objs.size=s.heap.objs.size+1->
  (∀c o,c≠z->c≠f->c≠e->s.heap.get? c=ε o->d.get? c=ε o)->Q (ε (.ref s.heap.objs.size)) { s with heap:=d }) :
 wpAny (model prog w) A (pyNext (.ref z)) Q E s:=by
 have g:s.TypeIs (.ref z) "zip" :=⟨_,hz,rfl⟩;unfold pyNext;exact ao (wpAny_attempt (wpAny_callSpecial?_slot (name:=Str.ofString "__next__") g F.slot_zip_next
  (wpAny_call_entry F.slot_zip_next g F.entry_zip_next
   (Mq (a:=.none) (b:=.none) D hz u p h1 h2 n m r q fun d M L J I H G=>au (B d M L J I H G)) (F.args_zip_next_1 _))))
theorem Fq{z TI TO T g f i h:Oa}{H:Bool}{q p:Nat}{xs ys:Pb Mu}{Q:Ni Mu->Nu->Prop}(x:A.handled=none)(D:ZipApart z TI TO g f i h)
 (hz:lG s.heap z TI TO (rawInt T) (.bool H)) (C:∃o,s.heap.get? T=ε o) (m:IsPair s.heap TI (.ref g) (.ref f))
 (h1:s.heap.IsListIter g i q) (h2:s.heap.IsListIter f h p) (k:s.heap.IsList i xs) (j:s.heap.IsList h ys) (a:xs[q]?=none\/ys[p]?=none)
 (G:∀n,(∀c o,c≠z->c≠g->c≠f->s.heap.get? c=ε o->n.get? c=ε o)->Q none { s with heap:=n }) :
 wpAny (model prog w) A (pyNext (.ref z)) Q E s:=by
 have d:s.TypeIs (.ref z) "zip" :=⟨_,hz,rfl⟩;unfold pyNext;refine ao (wpAny_attempt (wpAny_callSpecial?_slot (name:=Str.ofString "__next__") d F.slot_zip_next (wpAny_call_entry F.slot_zip_next d F.entry_zip_next (Yq x D hz C m h1 h2 k j a fun n e u y=>?_) (F.args_zip_next_1 _))));obtain⟨o,r,B⟩:=y;refine ao (wpAny_isInstance (T := "StopIteration") (b:=true) ⟨o,r,B⟩ isSubtype_stop ?_);exact au (G _ u)
end
section
variable{prog:Oo}{w:O4}{A:Pa}{R:Result->Nu->Prop}
def du(h:Pu)(z TI TO g f e d:Oa)(xs ys:Pb Mu)(i:Nat):Prop:=
 ((IsZip h z TI TO .none/\∃a b,IsPair h TO a b)\/∃(T:Oa)(j:Bool),lG h z TI TO (rawInt T) (.bool j)/\∃o,h.get? T=ε o)/\IsPair h TI (.ref g) (.ref f)/\h.IsListIter g e i/\h.IsListIter f d i/\h.IsList e xs/\h.IsList d ys
theorem du.keep {h h':Pu} {z TI TO D C u s:Oa} {xs ys:Pb Mu} {i:Nat} (x:du h z TI TO D C u s xs ys i) (k:∀b o,h.get? b=ε o->(∃j n,o.data=.seq j n/\o.cls=.type "list" /\ b≠u/\b≠s)\/h'.get? b=ε o) (L:∀b o,h.get? b=ε o->∃I,h'.get? b=ε I):du h' z TI TO D C u s xs ys i:=by
 obtain⟨a,b,c,d,e,f⟩:=x;have go:∀{b:Oa} {o:Obj},h.get? b=ε o->((∀j n,o.data≠.seq j n)\/o.cls≠.type "list" \/ b=u\/b=s)->h'.get? b=ε o:=fun {b o} e q=>by
  rcases k b o e with⟨j,n,H,G,F,E⟩ | y
  . rcases q with q | q | q | q
    . exact Ci H (q j n)
    . exact Ci G q
    . exact Ci q F
    . exact Ci q E
  . exact y
 refine⟨?_,go b (.inr (.inl (by intro z;simp at z))),?_,?_,?_,?_⟩
 . rcases a with⟨a,p,q,r⟩ | ⟨T,J,a,o,r⟩
   . exact .inl ⟨go a (.inl (by intro _ _ z;cases z)),p,q,go r (.inr (.inl (by intro z;simp at z)))⟩
   . exact .inr ⟨T,J,go a (.inl (by intro _ _ z;cases z)),L _ _ r⟩
 . obtain⟨o,g,B,m⟩:=c;exact⟨o,go g (.inl (by intro _ _ z;rw[m]at z;cases z)),B,m⟩
 . obtain⟨o,g,B,m⟩:=d;exact⟨o,go g (.inl (by intro _ _ z;rw[m]at z;cases z)),B,m⟩
 . obtain⟨o,g,r⟩:=e;exact⟨o,go g (.inr (.inr (.inl rfl))),r⟩
 . obtain⟨o,g,r⟩:=f;exact⟨o,go g (.inr (.inr (.inr rfl))),r⟩
def dP(h:Pu)(n0:Nat)(xs ys:Pb Mu)(b:Ms Oa):Prop:=(∀(j:Nat) a,b[j]?=ε a->∃x y,xs[j]?=ε x/\ys[j]?=ε y/\IsPair h a x y)/\b.Nodup/\∀a∈b,n0<=a/\a<h.objs.size
theorem Pj(hh:A.in1.handled=none){S z TI TO u r l1 l2 n0 n:Nat}{xs ys:Pb Mu}(res:Mu)(D:ZipApart z TI TO u r l1 l2)(hn:n<=sizeLine)(a5:S≠z/\S≠TI/\S≠TO/\S≠u/\S≠r/\S≠l1/\S≠l2)(a8:S<n0)
 (a7:z<n0/\TO<n0/\u<n0/\r<n0) (hx:∀i,i<n->∃x y,xs[i]?=ε x/\ys[i]?=ε y) (he:xs[n]?=none\/ys[n]?=none) :
 ∀(k i:Nat) (s:Nu) (J:Ms Oa) (q:Pb Mu) (c:Nat),n-i=k->i<=n->du s.heap z TI TO u r l1 l2 xs ys i->n0<=s.heap.objs.size->s.heap.get? S=ε { cls:=.type "list",dict:=none,data:=.seq q c,slots:=#[] }->
 q=(J.map Value.ref).toArray->J.length=i->dP s.heap n0 xs ys J->
 (∀d B c',(∀b o,b≠S->b≠z->b≠TO->b≠u->b≠r->s.heap.get? b=ε o->d.get? b=ε o)->d.get? S=ε { cls:=.type "list",dict:=none,data:=.seq (B.map Value.ref).toArray c',slots:=#[] }->B.length=n->dP d n0 xs ys B->R (.ok (.ret res)) { s with heap:=d })->
 codeAny (model prog w) A (.builtin "list.extend.loop" ⟨[.ref S,.ref z,res],[]⟩) R s:=by
 obtain⟨q1,q2,q3,q4,q5,q6,q7⟩:=a5;intro k
 induction k with
 | zero=>
  intro i s J q c hk hi st a1 hS g hl P hR;have a4:i=n:=by omega
  subst a4;obtain⟨M,m,s1,s2,s3,s4⟩:=st;refine Ho F.entry_extend_loop ?_;rw[Gi F.plain_extend_loop _];show wpAny _ A.in1 (pyNext (.ref z) >>=_) _ _ s;have h:∀d,(∀b o,b≠z->b≠TO->b≠u->b≠r->s.heap.get? b=ε o->d.get? b=ε o)->R (.ok (.ret res)) { s with heap:=d }:=fun d kp=>by
   refine hR d J c (fun b o b0 I b2 H G e=>kp b o I b2 H G e) (by rw[<- g];exact kp _ _ q1 q3 q4 q5 hS) hl ⟨fun j a ha=>?_,P.2.1,fun a ha=>?_⟩
   . obtain⟨x,y,e1,e2,e3⟩:=P.1 j a ha;have:=(P.2.2 a (jo ha)).1;exact⟨x,y,e1,e2,kp _ _ nofun nofun nofun nofun e3⟩
   . obtain⟨p1,p2⟩:=P.2.2 a ha;obtain⟨j,hj⟩:=getElem?_of_mem ha;obtain⟨x,y,_,_,e3⟩:=P.1 j a hj;exact⟨p1,fu (kp _ _ nofun nofun nofun nofun e3)⟩
  rcases M with⟨sz,a,b,O⟩ | ⟨T,f1,sz,sT⟩
  . exact ao (wpAny_pyNext_zip_end hh D sz m O s1 s2 s3 s4 he fun d kp=>au (h d kp))
  . exact ao (Fq hh D sz sT m s1 s2 s3 s4 he fun d kp=>au (h d fun b o I _ H G e=>kp b o I H G e))
 | succ k ih=>
  intro i s J q c hk hi st a1 hS g hl P hR;obtain⟨x,y,U,Q⟩:=hx i nofun;obtain⟨M,m,s1,s2,s3,s4⟩:=st;refine Ho F.entry_extend_loop ?_;rw[Gi F.plain_extend_loop _];show wpAny _ A.in1 (pyNext (.ref z) >>=_) _ _ s;have h:∀d,((IsZip d z TI TO .none/\∃a b,IsPair d TO a b)\/∃(T:Oa)(f1:Bool),lG d z TI TO (rawInt T) (.bool f1)/\∃o,d.get? T=ε o)->d.IsListIter u l1 (i+1)->d.IsListIter r l2 (i+1)->IsPair d s.heap.objs.size x y->d.objs.size=s.heap.objs.size+1->(∀b o,b≠z->b≠TO->b≠u->b≠r->s.heap.get? b=ε o->d.get? b=ε o)->
   wpAny (model prog w) A.in1 (updateSeq S (·.push (.ref s.heap.objs.size)) >>=fun _=>again (.builtin "list.extend.loop" ⟨[.ref S,.ref z,res],[]⟩)) (fun h s'=>match h with | .done f=>R (.ok f) s' | .again c'=>c'.quiet=true/\codeAny (model prog w) A c' R s') (fun e s'=>R (.error e) s') { s with heap:=d }:=by
   intro d Z z2 Y X z5 kp;have W:=kp _ _ q1 q3 q4 q5 hS;refine ao (Mi W rfl (au ⟨plainId_quiet F.plain_extend_loop _,?_⟩) (by rw[g];simp![cG,lq,hl];omega) (by show(q.push _).size<=sizeLine+1;rw[Array.size_push,g];simp![cG,lq,hl];omega));have a2:=Fd (Obj.mapSeq (·.push (Value.ref s.heap.objs.size))) W rfl;have ot:∀b,b≠S->(d.update S (Obj.mapSeq (·.push (Value.ref s.heap.objs.size)))).get? b=d.get? b:=fun b E=>tu _ _ (m5 E)
   have a0:(d.update S (Obj.mapSeq (·.push (Value.ref s.heap.objs.size)))).objs.size=d.objs.size:=(Heap.SameBut.update ..).1;refine ih (i+1) _ (J++[s.heap.objs.size]) (q.push (.ref s.heap.objs.size)) _ nofun nofun ?_ (by show n0<=Array.size _;rw[a0,z5];omega) a2 (by rw[g];simp) (by simp[hl]) ⟨fun j a ha=>?_,?_,fun a ha=>?_⟩ fun a6 B c' k2 k3 k4 k5=>hR a6 B c' (fun b o b0 I b2 H G e=>k2 b o b0 I b2 H G (by rw[ot b b0];exact kp b o I b2 H G e)) k3 k4 k5
   . have zs:du d z TI TO u r l1 l2 xs ys (i+1):=⟨Z,kp _ _ D.TIz D.TITO D.TIi1 D.TIi2 m,z2,Y,s3.at fun o e=>kp _ o D.l1z D.l1TO D.l1i1 D.l1i2 e,s4.at fun o e=>kp _ o D.l2z D.l2TO D.l2i1 D.l2i2 e⟩;refine zs.keep (fun b o e=>?_) fun b o e=>?_
     . by_cases E:b=S
       . subst E;rw[W]at e;cases e;exact .inl ⟨_,_,rfl,rfl,q6,q7⟩
       . exact .inr (by rw[ot b E];exact e)
     . by_cases E:b=S
       . subst E;exact⟨_,a2⟩
       . exact⟨o,by rw[ot b E];exact e⟩
   . by_cases hj:j<J.length
     . rw[Vo hj]at ha;obtain⟨x',y',e1,e2,e3⟩:=P.1 j a ha;have p:=P.2.2 a (jo ha);refine⟨x',y',e1,e2,?_⟩;show Heap.get? _ a=_;rw[ot a nofun];exact kp _ _ nofun nofun nofun nofun e3
     . rw[Ye nofun]at ha;have a3:j=i:=by have:=(Uo ha).1;simp at this;omega
       subst a3;rw[hl]at ha;simp at ha;subst ha;refine⟨x,y,U,Q,?_⟩;show Heap.get? _ s.heap.objs.size=_;rw[ot _ nofun];exact X
   . rw[nodup_append];refine⟨P.2.1,by simp,fun a ha b E e=>?_⟩;rw[zc.mp E]at e;exact Du _ (e ▸ (P.2.2 a ha).2)
   . show n0<=a/\a<Array.size _;rw[a0,z5];rcases Aa.mp ha with ha | ha
     . exact⟨(P.2.2 a ha).1,Gs (P.2.2 a ha).2⟩
     . rw[zc.mp ha];exact⟨a1,vm _⟩
  rcases M with⟨sz,a,b,O⟩ | ⟨T,f1,sz,o,sT⟩
  . exact ao (wpAny_pyNext_zip_item D sz m O s1 s2 s3 s4 U Q fun d Z z2 Y X C L kp=>h d (.inr ⟨_,false,Z,_,C⟩) Y X C L kp)
  . have hT:∀d:Pu,(∀b o,b≠z->b≠u->b≠r->s.heap.get? b=ε o->d.get? b=ε o)->lG d z TI TO (rawInt T) (.bool true)->d.IsListIter u l1 (i+1)->d.IsListIter r l2 (i+1)->∃o,d.get? T=ε o:=fun d kp zz y1 y2=>by
     by_cases t1:T=z
     . subst t1;exact⟨_,zz⟩
     . by_cases t2:T=u
       . subst t2;obtain⟨o,e,_⟩:=y1;exact⟨o,e⟩
       . by_cases t3:T=r
         . subst t3;obtain⟨o,e,_⟩:=y2;exact⟨o,e⟩
         . exact⟨o,kp _ _ t1 t2 t3 sT⟩
    exact ao (Yj D sz ⟨o,sT⟩ m s1 s2 s3 s4 U Q fun d Z Y X C L kp=>h d (.inr ⟨T,true,Z,hT d kp Z Y X⟩) Y X C L fun b o I _ H G e=>kp b o I H G e)
end
theorem Pz:typeLookup (.type "zip") "__len__" =pure none:=by rw[typeLookup_type,builtinLookup_eq_fast];kernel_rfl
theorem Hx:typeLookup (.type "zip") "__length_hint__" =pure none:=by rw[typeLookup_type,builtinLookup_eq_fast];kernel_rfl
section
variable{prog:Oo}{w:O4}{A:Pa}{E:Mu->Nu->Prop}{s:Nu}{R:Result->Nu->Prop}
theorem Wj(hh:A.in1.handled=none){S z TI TO q p I H n0 n:Nat}{xs ys:Pb Mu}(res:Mu)(D:ZipApart z TI TO q p I H)(hn:n<=sizeLine)(B:S≠z/\S≠TI/\S≠TO/\S≠q/\S≠p/\S≠I/\S≠H)(Q:S<n0)
 (M:z<n0/\TO<n0/\q<n0/\p<n0) (hx:∀i,i<n->∃x y,xs[i]?=ε x/\ys[i]?=ε y) (he:xs[n]?=none\/ys[n]?=none) {C:Nat}
 (sz:IsZip s.heap z TI TO .none) (k:∃a b,IsPair s.heap TO a b) (L:IsPair s.heap TI (.ref q) (.ref p)) (s1:s.heap.IsListIter q I 0) (s2:s.heap.IsListIter p H 0) (s3:s.heap.IsList I xs) (s4:s.heap.IsList H ys) (hsz:n0<=s.heap.objs.size)
 (hS:s.heap.get? S=ε { cls:=.type "list",data:=.seq #[] C })
 (hR:∀r h u,(∀b o,b≠S->b≠z->b≠TO->b≠q->b≠p->s.heap.get? b=ε o->r.get? b=ε o)->r.get? S=ε { cls:=.type "list",dict:=none,data:=.seq (h.map Value.ref).toArray u,slots:=#[] }->h.length=n->dP r n0 xs ys h->R (.ok (.ret res)) { s with heap:=r }) :
 wpAny (model prog w) A.in1 (Builtin.List.listExtendWith (.ref S) (.ref z) res)
  (fun T G=>match T with | .done f=>R (.ok f) G | .again u=>u.quiet=true/\codeAny (model prog w) A u R G) (fun e G=>R (.error e) G) s:=by
 have P:s.TypeIs (.ref z) "zip" :=⟨_,sz,rfl⟩;unfold Builtin.List.listExtendWith;refine ao (wpAny_typeOf P ?_);have h1:Builtin.List.listSameRef (.ref S) (.ref z)=false:=by simp[Builtin.List.listSameRef,B.1]
 have h2:(Value.type "zip" ==Value.type "list")=false:=by decide
 have h3:(Value.type "zip" ==Value.type "tuple")=false:=by decide
 simp![h1,h2,h3,Bool.or_false,Vs,eH];refine ao (wpAny_pyIter_zip sz ?_);refine ao (Ds ?_);unfold Builtin.List.listLengthHint;refine ao (wpAny_specialOf P Pz ?_);show wpAny _ A.in1 (specialOf (Value.ref z) (Str.ofString "__length_hint__") >>=_) _ _ _;refine ao (wpAny_specialOf P Hx ?_);refine au ?_;show wpAny _ A.in1 (rule "list.extend.makes-room" >>=fun _=>Builtin.List.listTouch (.ref S) >>=fun _=>
  again (.builtin "list.extend.loop" ⟨[.ref S,.ref z,res],[]⟩)) _ _ _
 refine ao (wpAny_rule ?_);refine ao ?_;show wpAny _ A.in1 (updateSeq S (·.push .none) >>=fun _=>updateSeq S (·.pop)) _ _ _;refine ao (Mi hS rfl ?_);have g:=Fd (Obj.mapSeq (·.push Value.none)) hS rfl;refine Mi (hz:=by seq_fits) g rfl ?_;have m:=Fd (Obj.mapSeq (·.pop)) g rfl;have d:∀b,b≠S->((s.heap.update S (Obj.mapSeq (·.push Value.none))).update S (Obj.mapSeq (·.pop))).get? b=s.heap.get? b:=
  fun b hb=>(tu _ _ (m5 hb)).trans (tu _ _ (m5 hb))
 have J:((s.heap.update S (Obj.mapSeq (·.push Value.none))).update S (Obj.mapSeq (·.pop))).objs.size=s.heap.objs.size:=(Heap.SameBut.update ..).1.trans (Heap.SameBut.update ..).1;obtain⟨q1,q2,Z,Y,X,W,U⟩:=B;obtain⟨a,b,k⟩:=k;refine au ⟨plainId_quiet F.plain_extend_loop _,Pj hh res D hn ⟨q1,q2,Z,Y,X,W,U⟩ Q M hx he n 0 _ [] #[] _ nofun (mq _) ⟨.inl ⟨(d _ (m5 q1)).trans sz,a,b,(d _ (m5 Z)).trans k⟩,(d _ (m5 q2)).trans L,s1.at fun o e=>(d _ (m5 Y)).trans e,s2.at fun o e=>(d _ (m5 X)).trans e,s3.at fun o e=>(d _ (m5 W)).trans e,s4.at fun o e=>(d _ (m5 U)).trans e⟩ (by show n0<=Array.size _;rw[J];exact hsz) m rfl rfl ⟨fun j a O=>by simp at O,by simp,fun a O=>by simp at O⟩ fun r h u k2 k3 k4 k5=>hR r h u (fun b o b0 b1 b2 b3 b4 e=>k2 b o b0 b1 b2 b3 b4 ((d b b0).trans e)) k3 k4 k5⟩
theorem Tq{Q:Mu->Nu->Prop}(hh:A.in1.in1.handled=none){z TI TO q p C B n:Nat}{xs ys:Pb Mu}(D:ZipApart z TI TO q p C B)(hn:n<=sizeLine)
 (S:z<s.heap.objs.size/\TI<s.heap.objs.size/\TO<s.heap.objs.size/\q<s.heap.objs.size/\p<s.heap.objs.size) (hx:∀i,i<n->∃x y,xs[i]?=ε x/\ys[i]?=ε y) (he:xs[n]?=none\/ys[n]?=none)
 (sz:IsZip s.heap z TI TO .none) (j:∃a b,IsPair s.heap TO a b) (M:IsPair s.heap TI (.ref q) (.ref p)) (s1:s.heap.IsListIter q C 0) (s2:s.heap.IsListIter p B 0) (Z:s.heap.IsList C xs) (Y:s.heap.IsList B ys)
 (hQ:∀m d T,(∀b o,b≠z->b≠TO->b≠q->b≠p->s.heap.get? b=ε o->m.get? b=ε o)->m.get? s.heap.objs.size=ε { cls:=.type "list",dict:=none,data:=.seq (d.map Value.ref).toArray T,slots:=#[] }->d.length=n->dP m (s.heap.objs.size+1) xs ys d->Q (.ref s.heap.objs.size) { s with heap:=m }) :
 wpAny (model prog w) A (call (.type "list") [.ref z]) Q E s:=by
 refine callType_codes (Q₁:=fun obj f=>obj=.ref s.heap.objs.size/\f={ s with heap:=s.heap.push { cls:=.type "list",data:=.seq #[] } }) F.called_list (F.typeCall_list_1 _) F.entry_list_init
  (code_list_new _ ⟨rfl,rfl⟩) fun obj f r=>?_
 obtain⟨rfl,rfl⟩:=r;have u:(s.heap.push { cls:=.type "list",data:=.seq #[] }).get? s.heap.objs.size=ε { cls:=.type "list",data:=.seq #[] }:=je _ rfl;refine⟨⟨_,u,rfl⟩,F.args_list_init_2 _ _,?_⟩;obtain⟨J,X,I,H,G⟩:=S;have W:C<s.heap.objs.size:=by obtain⟨_,e,_⟩:=Z;exact fu e
 have U:B<s.heap.objs.size:=by obtain⟨_,e,_⟩:=Y;exact fu e
 have up:∀{b:Oa} {o:Obj},s.heap.get? b=ε o->(s.heap.push { cls:=.type "list",data:=.seq #[] }).get? b=ε o:=fun e=>cu _ e
 generalize hp:s.heap.push { cls:=.type "list",data:=.seq #[] }=hp1 at u up;have P:hp1.objs.size=s.heap.objs.size+1:=by rw[<- hp];exact Ko ..
 show wpAny _ A.in1.in1 (do let old <- Builtin.List.listItems (.ref s.heap.objs.size);Builtin.List.listUpdate (.ref s.heap.objs.size) (fun _=>#[]);letGo old.toList.reverse;Builtin.List.listExtendWith (.ref s.heap.objs.size) (.ref z) .none) _ _ _;refine ao ?_;unfold Builtin.List.listItems;refine ao (wpAny_seqItems u rfl (au ?_));show wpAny _ A.in1.in1 (updateSeq s.heap.objs.size (fun _=>#[]) >>=fun _=>letGo (#[]:Pb Mu).toList.reverse >>=fun _=>Builtin.List.listExtendWith (.ref s.heap.objs.size) (.ref z) .none) _ _ _;refine ao (Mi u rfl ?_);have k:=Fd (Obj.mapSeq (fun _=>(#[]:Pb Mu))) u rfl;have O:∀b,b≠s.heap.objs.size->(hp1.update s.heap.objs.size (Obj.mapSeq (fun _=>(#[]:Pb Mu)))).get? b=hp1.get? b:=fun b hb=>tu _ _ (m5 hb)
 have L:(hp1.update s.heap.objs.size (Obj.mapSeq (fun _=>(#[]:Pb Mu)))).objs.size=s.heap.objs.size+1:=(Heap.SameBut.update ..).1.trans P;refine ao (wpAny_letGo ?_);have ne:∀{b:Nat},b<s.heap.objs.size->b≠s.heap.objs.size:=fun h=>ni h
 have g:∀{b:Oa}{o:Obj},b<s.heap.objs.size->s.heap.get? b=ε o->(hp1.update s.heap.objs.size (Obj.mapSeq (fun _=>(#[]:Pb Mu)))).get? b=ε o:=fun h e=>(O _ (ne h)).trans (up e)
 obtain⟨a,b,j⟩:=j;refine Wj (A:=A.in1) hh .none D hn ⟨(ne J).symm,(ne X).symm,(ne I).symm,(ne H).symm,(ne G).symm,(ne W).symm,(ne U).symm⟩ (n0:=s.heap.objs.size+1) (vm _) ⟨Gs J,Gs I,Gs H,Gs G⟩ hx he (g J sz) ⟨a,b,g I j⟩ (g X M) (s1.at fun o e=>g H e) (s2.at fun o e=>g G e) (Z.at fun o e=>g W e) (Y.at fun o e=>g U e) (by show _<=Array.size _;rw[L];exact Ra _) k fun m d T k2 k3 k4 k5=>?_
 exact⟨rfl,hQ m d T (fun b o b1 b2 b3 b4 e=>k2 b o (ne (fu e)) b1 b2 b3 b4 (g (fu e) e)) k3 k4 k5⟩
end
end PySem
namespace L2
def yF(H:Hp):Ms (Oa×HO)->Hp
 | []=>H
 | (a,o)::r=>xB (yF H r) a o
theorem aK{H:Hp}{b:Oa}:∀{news:Ms (Oa×HO)},b∉news.map (·.1)->yF H news b=H b
 | [],_=>rfl
 | (a,o)::r,h=>by simp![Qs,zu,not_or]at h;show xB (yF H r) a o b=H b;rw[WA h.1];exact aK h.2
theorem VY{H:Hp}{b:Oa}{u:HO}:∀{news:Ms (Oa×HO)},(news.map (·.1)).Nodup->(b,u)∈news->yF H news b=ε u
 | (a,o)::r,nd,h=>by
  simp![Qs,La]at nd;rcases zu.mp h with e | h
  . cases e;exact AC
  . have:b≠a:=fun e=>nd.1 (e ▸ mem_map_of_mem (f:=(·.1)) h)
    show xB (yF H r) a o b=_;rw[WA this];exact VY nd.2 h
section
variable{X:Cx}{a:Ms (Oa×Obj)}{d:Ms (Ni V)}{H:Hp}{s:Nu}{h':Pu}
theorem py.nz{t':Nat}{news:Ms (Oa×HO)}(I:py X a d H s)(k:∀b u,s.heap.get? b=ε u->h'.get? b=ε u)(B:∀p∈news,s.heap.objs.size<=p.1)(nd:(news.map (·.1)).Nodup)(ok:∀p∈news,Xa X.prog X.w (yF H news) h' p.1 p.2) :
 py X a d (yF H news) { s with heap:=h',toks:=t' }:=by
 have j:∀b,b<s.heap.objs.size->b∉news.map (·.1):=fun b f i=>by obtain⟨p,q,e⟩:=Ae.mp i;have:=B p q;rw[e]at this;exact Ci f (Ie.mpr this)
 have g:∀b u,H b=ε u->yF H news b=ε u:=fun b u e=>by rw[aK (j b (Nat.lt_of_not_le fun z=>by rw[I.hok.fresh z]at e;cases e))];exact e
 refine I.step (g':=s.gens) (d':=s.drawn) (ch:=[]) (fun b f=>Ci f ⋯) (fun b o _ _ _ q _=>k b o q) (fun b o _ _ _ q _=>⟨o.slots,k b o q⟩)
  (fun b o _ q n=>by rw[aK (j b (fu q))];exact n) (fun b o _ q=>⟨o,k b o q⟩) (fun b x q=>g b _ q) (fun b o u q=>g b _ q)
  (fun b F q=>⟨#[],by rw[g b _ q];simp⟩) (fun m i=>?_) (fun b u q=>?_) I.bare
 . obtain⟨o,D,E,C,r⟩:=i;exact⟨o,D,E,k _ o C,r⟩
 . by_cases f:b∈news.map (·.1)
   . obtain⟨p,h,e⟩:=Ae.mp f;have:=VY (H:=H) nd (b:=p.1) (u:=p.2) h;rw[e,q]at this;cases this;rw[<- e];exact ok p h
   . rw[aK f]at q;exact(I.hok b u q).stay (fun c v _ y=>k c v y) (fun c q=>g c _ q) fun c x q=>g c _ q
end
def Np(K:Oi)(j:TA):TE:=fun h H Q=>j h H fun i e=>∃a b g f,i=[.ref a,.ref b]/\qq K e a g/\qq K e b f/\
 ∀(d:Ms Oa)(l:Oa),d.length=min g.length f.length->(l::d).Nodup->(∀p∈l::d,e p=none)->Q (.ref l) (yF e ((l,.lst (d.map V.ref))::d.zip ((g.zip f).map fun p=>HO.tup [p.1,p.2])))
section
variable{X:Cx}
theorem Vv {a b:Oe} {ta:TA} {p1 p2 pos f:Pos} (hc:X.calm=true) (hg:Gl X "list") (hm:X.mg "list" =none) (a1:Gl X "zip") (a0:X.mg "zip" =none) (ha:PA X [a,b] ta) (hs:autoParam (starEach [a,b] X.env=(false,eval a X.env)::starEach [b] X.env) Æ) (hpl:autoParam ((backTo f (starEach [b] X.env)).any (·.1)=false) Æ) :
 PE X (.Call (.Name "list" p1) [.Call (.Name "zip" p2) [a,b] [] f] [] pos) (Np X.K ta):=by
 intro B s σ H Q I h;refine wpAny_Call_Name_kw (EG I hg hm boot_list ?_);refine PyProof.Rows.callWith_type1 ?_ rfl rfl;show wpAny _ _ (spliced ((false,eval (.Call (.Name "zip" p2) [a,b] [] f) X.env)::backTo pos (starEach [] X.env))) _ _ s;refine Calls.spliced_cons ?_;refine Call_ (EG I a1 a0 boot_zip (PyProof.Rows.callWith_type1 (vB (ha f B s σ H _ I h) fun us E zz=>?_) hs hpl));obtain⟨vs,H1,G,r1,q1⟩:=zz;obtain⟨c,d,P,O,e,hq,Z,q⟩:=q1;subst e;obtain⟨u,u',rfl,r,r'⟩:=VM r1;cases r;cases r';obtain⟨m,rv,pl,hz⟩:=G.list hq;obtain⟨g,J,F,a2⟩:=G.list Z;refine call_zip_2 pl.isList F.isList fun h' z1 z2 z3 z4 z5 a3 k=>?_
 refine Calls.spliced_nil ?_;have D:=pT (x:=.none) (y:=.none) rfl rfl rfl rfl rfl z1 z3 z4 z5 (pl.isList.at fun o e=>k _ o e) (F.isList.at fun o e=>k _ o e);have hl:=rv.length;have a4:=J.length;have hh:X.A.in1.in1.handled=none:=G.ok.hd hc;have I2:py X B σ H1 { E with heap:=h' }:=G.kept (t':=E.toks) k;refine Tq (s:={ E with heap:=h' }) hh (n:=min m.length g.length) D nofun ⟨by show _<h'.objs.size;omega,by show _<h'.objs.size;omega,by show _<h'.objs.size;omega,by show _<h'.objs.size;omega,by show _<h'.objs.size;omega⟩ (fun i hi=>⟨m[i],g[i],by simp[show i<m.length by omega],by simp[show i<g.length by omega]⟩) (by
  by_cases z:m.length<=g.length
  . exact .inl (by simp;omega)
  . exact .inr (by simp;omega)) z1 ⟨_,_,z3⟩ z2 z4 z5 (pl.isList.at fun o e=>k _ o e) (F.isList.at fun o e=>k _ o e) fun L as c' k2 k3 T M=>?_
 have kk:∀b o,E.heap.get? b=ε o->L.get? b=ε o:=fun b o e=>by
  have hb:=fu e;have ne:∀i:Nat,b≠E.heap.objs.size+i:=fun i=>ni (ji hb (Ku _ _))
  exact k2 b o (ne 4) (ne 3) (ne 0) (ne 1) (k b o e)
 have nd:(h'.objs.size::as).Nodup:=La.mpr ⟨fun hm=>Nat.not_succ_le_self _ (M.2.2 _ hm).1,M.2.1⟩;have ge:∀p∈h'.objs.size::as,E.heap.objs.size<=p:=fun p hp=>by
  rcases zu.mp hp with rfl | hp
  . omega
  . have:h'.objs.size+1<=p:=(M.2.2 p hp).1;omega
 have lz:((P.zip O).map fun p=>HO.tup [p.1,p.2]).length=as.length:=by rw[lq,length_zip,T];omega
 have C:((h'.objs.size,HO.lst (as.map V.ref))::as.zip ((P.zip O).map fun p=>HO.tup [p.1,p.2])).map (·.1)=h'.objs.size::as:=by rw[Qs,map_fst_zip nofun]
 have vr:∀l:Ms Oa,p3 (l.map V.ref) (l.map Value.ref):=fun l=>by
  induction l with
  | nil=>exact .nil
  | cons x l ih=>exact .cons rfl ih
 have I3:=G.nz (h':=L) (t':=E.toks) (news:=(h'.objs.size,.lst (as.map V.ref))::as.zip ((P.zip O).map fun p=>HO.tup [p.1,p.2])) kk (fun p hp=>by
  have:p.1∈h'.objs.size::as:=by rw[<- C];exact mem_map_of_mem hp
  exact ge _ this) (by rw[C];exact nd) (fun p hp=>by
  rcases zu.mp hp with rfl | hp
  . exact⟨by rw[lq,T];omega,as.map Value.ref,c',vr as,k3⟩
  . obtain⟨j,hj⟩:=getElem?_of_mem hp;rw[getElem?_zip_eq_some]at hj;obtain⟨j1,j2⟩:=hj;rw[qu,Eu]at j2;obtain⟨w,U,j4⟩:=j2;rw[getElem?_zip_eq_some]at U;obtain⟨x,y,e1,e2,e3⟩:=M.1 j p.1 j1;obtain⟨ux,Y,S⟩:=rv.get U.1;obtain⟨uy,W,R⟩:=J.get U.2;have ex:x=ux:=by simpa using (e1.symm.trans (by simpa using Y):ε x=ε ux)
    have ey:y=uy:=by simpa using (e2.symm.trans (by simpa using W):ε y=ε uy)
    subst ex ey;rw[<- j4];exact⟨by simp![Qu,Ru];rw[Ao];decide,[x,y],.cons S (.cons R .nil),⟨_,e3,rfl,_,rfl⟩⟩)
 exact⟨.ref h'.objs.size,_,I3,rfl,q as h'.objs.size (by rw[T];omega) nd fun p hp=>G.hok.fresh (ge p hp)⟩
end
end L2
namespace SM
def OO(fa fb:RE):RE:=fun l h=>(fa l h).bind fun r=>(fb l r.2).bind fun q=>match HA q.2 r.1,HA q.2 q.1 with
 | some xs,some ys=>(match pD xs,pD ys with
  | some is,some js=>ε (.lst ((is.zip js).map fun p=>.ntp [p.1,p.2]),q.2)
  | _,_=>none)
 | _,_=>none
theorem UX{K:Oi}{ρ:Rg}{h:HI}:∀(d:Ms Oa)(f:Ms (Int×Int))(H:Hp),Rr K ρ h H->d.length=f.length->d.Nodup->(∀a∈d,H a=none)->
 Rr K ρ h (yF H (d.zip (f.map fun p=>HO.tup [.int p.1,.int p.2])))/\qc ρ ρ H (yF H (d.zip (f.map fun p=>HO.tup [.int p.1,.int p.2])))/\Qe K (yF H (d.zip (f.map fun p=>HO.tup [.int p.1,.int p.2]))) ρ (f.map fun p=>Dt.ntp [p.1,p.2]) (d.map V.ref)
 | [],[],H,S,_,_,_=>⟨S,qc.refl _ _,by simp[Qe]⟩
 | [],p::f,_,_,e,_,_=>by simp at e
 | a::d,[],_,_,e,_,_=>by simp at e
 | a::d,p::f,H,S,e,nd,no=>by
  obtain⟨k,j⟩:=La.mp nd;obtain⟨i,s,r⟩:=UX d f H S (by simpa using e) j (fun b o=>no b (by simp[o]));have g:yF H (d.zip (f.map fun p=>HO.tup [.int p.1,.int p.2])) a=none:=by
   rw[aK (fun n=>k (by
    obtain⟨q,m,e⟩:=Ae.mp n;rw[<- e];exact(of_mem_zip (a:=q.1) (b:=q.2) m).1))]
   exact no a ⋯
  refine⟨i.fresh g,s.trans (qc.fresh g),?_⟩;show Qe K (xB _ a (.tup [.int p.1,.int p.2])) ρ (.ntp [p.1,p.2]::_) (.ref a::_);simp![Qe];exact⟨_,_,rfl,bc.mpr ⟨a,rfl,i.out g,AC⟩,r.ext (qc.fresh g)⟩
theorem Hz {X:Cx} {a b:Oe} {fa fb:RE} {p1 p2 pos f:Pos} (hc:X.calm=true) (hg:Gl X "list") (s:X.mg "list" =none) (x:Gl X "zip") (r:X.mg "zip" =none) (ha:EM X a fa) (y:EM X b fb) (hs:autoParam (nB a=true) Æ) (j:autoParam (nB b=true) Æ) :
 EM X (.Call (.Name "list" p1) [.Call (.Name "zip" p2) [a,b] [] f] [] pos) (OO fa fb):=by
 unhygienic
  refine PE.imp (Vv hc hg s x r (wC ha (wC y MD (aB j _ _)) (aB hs _ _)) (aB hs _ _) (iI (by rw[Js,j];rfl))) fun σ H Q U=>?_
  obtain⟨T,l,h,d,h',S,L,e,k⟩:=U;obtain⟨⟨d1,J⟩,e1,e⟩:=oA e;obtain⟨⟨d2,h2⟩,e2,e⟩:=oA e;refine⟨T,l,h,d1,J,S,L,e1,fun n v H1 R1 S1 R=>⟨n,l,J,d2,h2,S1,L.ext R,e2,fun m u O R2 C P=>?_⟩⟩;dsimp only at e;split at e
  . rename_i xs ys q1 q2;split at e
    . rename_i i g w1 Z;cases e;have D:=Qi.ext P _ R1;obtain⟨c,vs,Y,F,I⟩:=FD C D q1;obtain⟨dd,ws,W,E,G⟩:=FD C R2 q2;rw[ZG w1]at I;rw[ZG Z]at G;rw[I.bi]at F;rw[G.bi]at E;refine⟨c,dd,_,_,by rw[Y,W],F,E,fun B p hl nd no=>?_⟩;obtain⟨n1,n2⟩:=La.mp nd;have lz:B.length=(i.zip g).length:=by rw[hl,lq,lq,length_zip]
      obtain⟨M,E3,R3⟩:=UX B (i.zip g) O C lz n2 (fun b y=>no b (by simp[y]));have ez:((i.map V.int).zip (g.map V.int)).map (fun p=>HO.tup [p.1,p.2])=(i.zip g).map fun p=>HO.tup [.int p.1,.int p.2]:=by rw[zip_map,map_map];rfl
      rw[ez];have o:yF O (B.zip ((i.zip g).map fun p=>HO.tup [.int p.1,.int p.2])) p=none:=by
       rw[aK (fun s=>n1 (by
        obtain⟨q,hq,e⟩:=Ae.mp s;rw[<- e];exact(of_mem_zip (a:=q.1) (b:=q.2) hq).1))]
       exact no p ⋯
      exact k m _ _ (DM M R3 o) (M.fresh o) ((R.trans P).trans (E3.trans (qc.fresh o)))
    . cases e
  . cases e
noncomputable def CJ(h:HI):Dt->Ni (Ms (Ms Int×Dt))
 | .ref n=>match h[n]? with
  | some (.dt kvs)=>ε kvs
  | _=>none
 | _=>none
noncomputable def PM:Dt->Ni (Ms Int)
 | .ntp a=>ε a
 | _=>none
def oV(fo fy:RE):RE:=fun l h=>(fo l h).bind fun r=>(fy l r.2).bind fun q=>(PM q.1).bind fun b=>(CJ q.2 r.1).bind fun a=>(ZD a b).map fun d=>(d,q.2)
def qQ(fy fo:RE):RE:=fun l h=>(fy l h).bind fun r=>(fo l r.2).bind fun q=>(PM r.1).bind fun b=>(CJ q.2 q.1).map fun a=>(.bl (ZD a b).isSome,q.2)
section
variable{K:Oi}{ρ:Rg}{H:Hp}
theorem J2{h:HI}(S:Rr K ρ h H){d:Dt}{v:V}{kvs:Ms (Ms Int×Dt)}(e:CJ h d=ε kvs)(r:Qi K H ρ d v):∃a vs,v=.ref a/\H a=ε (.dT vs)/\KD K H ρ kvs vs:=by
 cases d with
 | ref n=>
  simp![CJ]at e;split at e
  . rename_i b q;cases e;obtain⟨f,z,g⟩:=Xu.mp r;obtain⟨vs,j,i⟩:=S.ob n f _ g q;exact⟨f,vs,z,j,i⟩
  . cases e
 | _=>cases e
theorem V0{d:Dt}{ks:Ms Int}(e:PM d=ε ks):d=.ntp ks:=by
 cases d with
 | ntp x=>cases e;rfl
 | _=>cases e
end
section
variable{X:Cx}{o i:Oe}{fo fy:RE}{pos:Pos}
theorem Kd(hu:X.A.units+64<cLine)(E:EM X o fo)(D:EM X i fy)(hs:jQ i:=by intro _ _;rfl):EM X (.Subscript o i pos) (oV fo fy):=by unhygienic exact PE.imp (Rb nofun E D hs) fun Y H Q q=>by obtain⟨p,l,h,dd,h',S,L,e,k⟩:=q;obtain⟨⟨R,g⟩,P,e⟩:=oA e;obtain⟨⟨d2,h2⟩,e2,e⟩:=oA e;obtain⟨f,O,e⟩:=oA e;obtain⟨C,M,e⟩:=oA e;obtain⟨d4,c,e⟩:=Eu.mp e;cases e;cases V0 O;refine⟨p,l,h,R,g,S,L,P,fun d x H1 U T n=>⟨d,l,g,.ntp f,_,T,L.ext n,e2,fun b y W R2 j m=>?_⟩⟩;obtain⟨a,Z,z,I,G⟩:=J2 j M (Qi.ext m _ U);obtain⟨kb,r,nk,F⟩:=bc.mp R2;obtain⟨u,v2⟩:=KD.val (K:=X.K) f G;obtain⟨s,J,B⟩:=u _ c;exact⟨a,s,z,by rw[r,<- J];exact az.t I (by rw[vM];exact F),k b _ W B j (n.trans m)⟩
theorem J7(hu:X.A.units+64<cLine)(D:EM X i fy)(E:EM X o fo)(F:autoParam (behindInMarks .In o=false) Æ):EM X (.Compare i [.In] [o] pos) (qQ fy fo):=by
 unhygienic
  exact PE.imp (D6 (C7 nofun D E) F) fun σ H Q r=>by
   obtain⟨q,l,h,dd,h',S,L,e,k⟩:=r;obtain⟨⟨d1,j⟩,R,e⟩:=oA e;obtain⟨⟨U,h2⟩,e2,e⟩:=oA e;obtain⟨b,P,e⟩:=oA e;obtain⟨g,O,e⟩:=Eu.mp e;cases e;cases V0 P;refine⟨q,l,h,.ntp b,j,S,L,R,fun f x H1 Y W p=>⟨f,l,j,U,_,W,L.ext p,e2,fun d y Z R2 m n=>?_⟩⟩;obtain⟨a,u,z,J,I⟩:=J2 m O R2;obtain⟨kb,s,nk,G⟩:=bc.mp (Qi.ext n _ Y);obtain⟨C,B⟩:=KD.val (K:=X.K) b I;refine⟨a,nF u (b.map Sum.inl),z,by rw[s];exact az.t J (by rw[vM];exact G),k d _ Z (Vi.mpr ?_) m (p.trans n)⟩;cases c:ZD g b with
   | none=>rw[B c];rfl
   | some T=>obtain⟨v4,M,_⟩:=C T c;rw[M];rfl
end
end SM
namespace PySem
noncomputable def aN (a:Bool):Obj:={ cls:=.type "set",dict:=none,data:=.set #[] 0 (.fresh 0 0 a) }
section
variable{prog:Oo}{w:O4}{A:Pa}{E:Mu->Nu->Prop}{s:Nu}
set_option maxHeartbeats 3200000 in
theorem nS{l:Oa}{items:Pb Mu}{ns:Ms Int}{Q:Mu->Nu->Prop}(hh:A.handled=none)(hl:s.heap.IsTuple l items)(hi:IntsAre items.toList ns)(C:items.size+1<scanBound)
 (h:∀(h':Pu)(y:Nat),h'.SetOf (intKind prog w) s.heap.objs.size (fun H=>(firstMet (fun i=>ns.getD i 0) items.size).any (· ==H)) (firstMet (fun i=>ns.getD i 0) items.size).length->(∀b o,b<s.heap.objs.size->s.heap.get? b=ε o->h'.get? b=ε o)->Q (.ref s.heap.objs.size) { s with heap:=h',toks:=y }) :
 wpAny (model prog w) A (call (.type "set") [.ref l]) Q E s:=by
 obtain⟨c,tl,X⟩:=PySem.F.called_set.mro;have J:=PySem.F.called_set.made;have W:=PySem.F.called_set.sub;refine wpAny_call (codeAny_of_tree ?_);show wpAny _ _ (callAny (.type "set") _) _ _ _;refine au ⟨Code.quiet_builtin _ (by decide +kernel),Ho PySem.F.entry_type_call ?_⟩;rw[Around.under_plain (weight_type_call_type "set" [.ref l] []) rfl];have k1:=PySem.F.called_set.notType;have k2:=PySem.F.called_set.canCreate;have k3:=PySem.F.typeCall_set_1 (.ref l)
 repeat (any_goals (first | assumption | wp_step))
 refine codeAny_mono (code_set_new_1 (.ref l) (E:=E) (Q₁:=fun ob j=>∃a:Bool,ob=.ref s.heap.objs.size/\j={ s with heap:=s.heap.push (aN a) }) fun a=>⟨a,rfl,rfl⟩) fun r j I=>?_
 cases r with
 | error e=>exact I
 | ok fl=>
  cases fl with
  | ret ob=>
   obtain⟨a,rfl,rfl⟩:=I;have Y:(s.heap.push (aN a)).get? s.heap.objs.size=ε (aN a):=je _ rfl;have gT:Shared.TypeIs { s with heap:=s.heap.push (aN a) } (.ref s.heap.objs.size) "set" :=⟨_,Y,rfl⟩;have k4:=PySem.F.called_set.init.lookup;have k5:=PySem.F.called_set.init.bind (.ref s.heap.objs.size)
   repeat (any_goals (first | assumption | wp_step))
   refine codeAny_mono (codeAny_call_builtin (R:=wants (fun r g=>r=.none/\∃h' y,g={ s with heap:=h',toks:=y }/\h'.SetOf (intKind prog w) s.heap.objs.size (fun H=>(firstMet (fun i=>ns.getD i 0) items.size).any (· ==H)) (firstMet (fun i=>ns.getD i 0) items.size).length/\(∀b o,b<s.heap.objs.size->s.heap.get? b=ε o->h'.get? b=ε o)) E)
    PySem.F.called_set.init.plain PySem.F.entry_set_init (check_set_init_1 gT ?_)) fun p g d=>?_
   . obtain⟨ol,q,x,T,u⟩:=hl;obtain⟨P,k,G,f⟩:=ol;dsimp only at x u;subst x u;have g2:(s.heap.push (aN a)).get? l=ε { cls:=.type "tuple",dict:=k,data:=.seq items T,slots:=f }:=cu _ q;have k6:=PySem.F.sub_tuple_set;have k7:=PySem.F.sub_tuple_frozenset;have k8:(Value.type "tuple" ==Value.type "dict")=false:=by decide
     have Z:(s.heap.push (aN a)).IsTuple l items:=⟨_,g2,rfl,T,rfl⟩;unfold Builtin.«set.__init__» noKeywords Builtin.Frozenset.updateFrom;generalize O:pyIter=PI
     wp_walk
     subst O;refine wpAny_pyIter_tuple Z ?_;refine ao (wpAny_runValue ?_);have U:l<s.heap.objs.size:=fu q;have fN:(s.heap.push (aN a)).objs.size=s.heap.objs.size+1:=Ko _ _;have k9:l≠(s.heap.push (aN a)).objs.size:=by rw[fN];exact ni (Gs U)
     have hf:s.heap.objs.size ∉ [(s.heap.push (aN a)).objs.size,l]:=by rw[fN];simp![zu,not_mem_nil,or_false,not_or];exact⟨ni (vm _),Ce U⟩
     refine codeAny_set_update_loopS ((Walks.tuple (by simp[hh]) _ l k9 items).toS) s.heap.objs.size hf (fun i=>ns.getD i 0) (fun i v hv=>IntsAre.int_at hi i v (by rw[Array.getElem?_toList];exact hv)) C (items.size-0) 0 _ nofun (mq _) ⟨⟨_,je _ rfl,rfl,rfl⟩,(Z.push _)⟩ ?hS0 ?hR
     case hS0=>refine SetOf_congr (Obj.SetObjOf.setOf (knd:=intKind prog w) (o:=(aN a)) (S:=fun _=>false) (n:=0) (setObjOf_fresh a) (cu _ Y) (by unfold scanBound;omega)) (fun _=>rfl) rfl
     case hR=>intro s' B hS;obtain⟨h',g',d',D,F⟩:=s';have eg:g'=s.gens:=B.gens;have ed:d'=s.drawn:=B.drawn;have eo:F=s.os:=B.os;subst eg ed eo;show wpAny _ _ _ _ _ _;refine au ?_;show wpAny _ _ (ret Value.none) _ _ _;refine au ⟨rfl,h',D,rfl,hS,fun b o C e=>B.heap b o ?_ (cu _ (cu _ e))⟩;rw[fN];simp![zu,not_mem_nil,or_false,not_or];exact⟨ni C,ni (Gs C)⟩
   . cases p with
     | error e=>exact d
     | ok m=>
      cases m with
      | ret r=>
       obtain⟨rfl,h',y,rfl,M,L⟩:=d
       repeat (any_goals (first | assumption | wp_step))
       exact h _ _ M L
      | _=>exact d.elim
  | _=>exact I.elim
end
end PySem
namespace L2
section
variable{X:Cx}
theorem wk (E:X.calm=true):Ze X (.type "set") (fun i H Q=>∃(q:Oa) (ns:Ms Int),i=[.ref q]/\nH X.K H q (ns.map V.int)/\ns.length+1<4096/\
 ∀p,H p=none->Q (.ref p) (xB H p (.set (fun k=>(WB ns).any (· ==k)) (WB ns).length))):=by
 intro j s F H i G Q I r h;obtain⟨q,ns,rfl,C,L,f⟩:=h;obtain⟨u,rfl,y⟩:=HF r;cases y;obtain⟨d,B,pl,J⟩:=I.tuple C;have m:=ZJ B;have D:d.length=ns.length:=IntsAre.length m;have e:d.toArray.size=ns.length:=by rw[cG,D]
 refine PySem.nS (items:=d.toArray) (ns:=ns) (I.ok.hd E) pl (by simpa using m) (by rw[e];unfold scanBound;omega) fun M x n kp=>?_
 rw[UY ns _ e]at n;exact⟨.ref s.heap.objs.size,_,I.laid (a:=s.heap.objs.size) (o:=.set (fun k=>(WB ns).any (· ==k)) (WB ns).length) (t':=x) (fun b u g=>kp b u (fu g) g) (Ra _) n,rfl,f _ (I.hok.fresh (Ra _))⟩
end
end L2
namespace SM
def QO:Dt->HI->Ni (Dt×HI):=fun d h=>match d with
 | .tup a=>(pD a).bind fun ns=>if ns.length+1<4096 then ε (.int (WB ns).length,h)else none
 | _=>none
section
variable{X:Cx}{e:Oe}{f:RE}{p p' pos pos':Pos}
theorem Gz (u:X.calm=true) (s:Gl X "len") (o:X.mg "len" =none) (i:Gl X "set") (g:X.mg "set" =none) (x:EM X e f) (hs:autoParam (nB e=true) Æ) :
 EM X (.Call (.Name "len" p) [.Call (.Name "set" p') [e] [] pos'] [] pos) (YB QO f):=by
 unhygienic
  exact PE.imp (eK EX s o PySem.boot_len (wC (bT (wk u) i g boot_set (wC x MD (aB hs _ _)) (he:=aB hs _ _)) MD rfl)) fun F H Q m=>by
   obtain⟨j,l,h,d,M,S,L,e,k⟩:=m;obtain⟨⟨B,J⟩,y,e⟩:=oA e;cases B with
   | tup G=>obtain⟨ns,q,e⟩:=oA e;obtain⟨n,e⟩:=JE e;cases e;refine⟨j,l,h,_,_,S,L,y,fun b v O D C E=>?_⟩;obtain⟨a,I,z,sq,r⟩:=Wo.mp D;rw[ZG q]at r;rw[r.bi]at sq;exact⟨a,ns,by rw[z],sq.sq,n,fun w hw=>⟨w,_,_,rfl,AC,k b _ _ (Ti.mpr rfl) (C.fresh hw) (E.trans (qc.fresh hw))⟩⟩
   | _=>cases e
end
noncomputable def T1:Dt->Ni (Ms Dt)
 | .tup a=>ε a
 | _=>none
def DI(f:RE)(lo b:RO):RE:=fun l h=>(f l h).bind fun r=>(lo l r.2).bind fun o=>(b l o.2).bind fun u=>(T1 r.1).bind fun a=>if ¬(HT.sIx a.length 0 o.1=0/\HT.sIx a.length a.length u.1=a.length)then ε (.tup (UE a o.1 u.1),u.2)else none
section
variable{X:Cx}{a:Oe}{fa:RE}{pos p2:Pos}
theorem Ew{lo n:Ni Oe}{y B:RO}(P:EM X a fa)(M:JV X lo y)(O:JV X n B):EM X (.Subscript a (.Slice lo n none p2) pos) (DI fa y B):=by
 unhygienic
  exact PE.imp (bZ v9 P M O) fun Z H Q I=>by
   obtain⟨G,l,h,d,h',S,L,e,k⟩:=I;obtain⟨⟨D,s⟩,T,e⟩:=oA e;obtain⟨⟨o,q⟩,e2,e⟩:=oA e;obtain⟨⟨u,h3⟩,R,e⟩:=oA e;obtain⟨xs,C,e⟩:=oA e;obtain⟨c,e⟩:=uQ e;cases e;refine⟨G,l,h,D,s,S,L,T,fun g v H1 Y W m=>⟨g,l,s,o,q,W,L.ext m,e2,fun f H2 U j=>⟨f,l,q,u,_,U,L.ext (m.trans j),R,fun b H3 E F=>?_⟩⟩⟩;cases D with
   | tup ys=>cases C;obtain⟨x,J,z,sq,r⟩:=Wo.mp (Qi.ext (j.trans F) _ Y);exact⟨x,J,z,sq.sq,by rw[r.length];exact c,fun p i=>k b _ _ (oJ E (PY r o u) i) (E.fresh i) (m.trans (j.trans (F.trans (qc.fresh i))))⟩
   | _=>cases C
end
end SM
namespace G
def top(i:Nat):Ou:=PySem.Challenge.pw_spanways_k21_whole_no_tree_where_a_plan.main.body.getD i (.Pass ⟨0,0,0,0⟩)
noncomputable abbrev MM:Dt:=(.int 8191)
noncomputable def Gf:Ms Dt:=[(.tup [(.int 0),(.int 0)]),(.tup [(.int 0),(.int 1)]),(.tup [(.int 0),(.int 2)]),(.tup [(.int 0),(.int 3)]),(.tup [(.int 0),(.int 4)]),(.tup [(.int 1),(.int 2)]),(.tup [(.int 1),(.int 3)]),(.tup [(.int 1),(.int 4)]),(.tup [(.int 2),(.int 2)]),(.tup [(.int 2),(.int 3)]),(.tup [(.int 2),(.int 4)]),(.tup [(.int 3),(.int 4)]),(.tup [(.int 4),(.int 4)])]
abbrev iU:Dt:=.tup Gf
noncomputable def bq:Ms Dt:=[(.tup [(.int 1),(.int 1),(.int 1),(.int 1),(.int 1),(.int 1),(.int 1),(.int 1),(.int 295),(.int 295),(.int 295),(.int 295),(.int 8191)]),(.tup [(.int 1),(.int 1),(.int 1),(.int 1),(.int 1),(.int 2),(.int 2),(.int 2),(.int 292),(.int 292),(.int 292),(.int 584),(.int 7312)]),(.tup [(.int 1),(.int 1),(.int 7),(.int 7),(.int 31),(.int 4),(.int 4),(.int 28),(.int 292),(.int 292),(.int 2044),(.int 1168),(.int 7312)]),(.tup [(.int 1),(.int 2),(.int 4),(.int 8),(.int 16),(.int 4),(.int 8),(.int 16),(.int 292),(.int 584),(.int 1168),(.int 1168),(.int 7312)]),(.tup [(.int 31),(.int 28),(.int 28),(.int 16),(.int 16),(.int 28),(.int 16),(.int 16),(.int 2044),(.int 1168),(.int 1168),(.int 1168),(.int 7312)]),(.tup [(.int 1),(.int 1),(.int 7),(.int 7),(.int 31),(.int 32),(.int 32),(.int 224),(.int 256),(.int 256),(.int 1792),(.int 2048),(.int 4096)]),(.tup [(.int 1),(.int 2),(.int 4),(.int 8),(.int 16),(.int 32),(.int 64),(.int 128),(.int 256),(.int 512),(.int 1024),(.int 2048),(.int 4096)]),(.tup [(.int 31),(.int 28),(.int 28),(.int 16),(.int 16),(.int 224),(.int 128),(.int 128),(.int 1792),(.int 1024),(.int 1024),(.int 2048),(.int 4096)]),(.tup [(.int 1),(.int 1),(.int 295),(.int 295),(.int 8191),(.int 256),(.int 256),(.int 7936),(.int 256),(.int 256),(.int 7936),(.int 4096),(.int 4096)]),(.tup [(.int 1),(.int 2),(.int 292),(.int 584),(.int 7312),(.int 256),(.int 512),(.int 7168),(.int 256),(.int 512),(.int 7168),(.int 4096),(.int 4096)]),(.tup [(.int 31),(.int 28),(.int 2044),(.int 1168),(.int 7312),(.int 1792),(.int 1024),(.int 7168),(.int 1792),(.int 1024),(.int 7168),(.int 4096),(.int 4096)]),(.tup [(.int 31),(.int 224),(.int 1792),(.int 2048),(.int 4096),(.int 1792),(.int 2048),(.int 4096),(.int 1792),(.int 2048),(.int 4096),(.int 4096),(.int 4096)]),(.tup [(.int 8191),(.int 7936),(.int 7936),(.int 4096),(.int 4096),(.int 7936),(.int 4096),(.int 4096),(.int 7936),(.int 4096),(.int 4096),(.int 4096),(.int 4096)])]
abbrev WS:Dt:=.tup bq
noncomputable abbrev TU:Dt:=(.int 64)
abbrev lU:Ou:=top 3
def JY:RS:=AA (e2 rA (eC iU) (eV 0))
def jU:zB:=UB 1 1 JY
abbrev lT:Ou:=top 4
def UR:RE:=eV 0
def VR:RT:=qh (e2 RB (e2 LH (e2 uN (eV 1) (eV 0)) (ro 1)) (ro 1))
def VS:RS:=AA (RD (zJ (ro 13)) (CA 0) VR UR [none,ε 0])
def zH:zB:=UB 1 1 VS
abbrev JT:Ou:=top 5
def AS:RE:=e2 WF (ro 1) (eV 0)
def UT:RS:=AA (YB EJ (RD (hC (eV 0)) (CA 0) uB AS [none]))
def KO:zB:=UB 1 1 UT
abbrev MT:Ou:=top 6
def BS:RE:=e2 MF (ro 12) (eV 0)
def VT:RS:=AA (qA KO [] (bA (RD (hC (qA zH [] (bA (eV 0) eA))) (CA 0) uB BS [none]) eA))
def LO:zB:=UB 1 1 VT
abbrev bR:Ou:=top 9
def SQ:RS:=DA 3 (e2 FJ (eV 3) (e2 rA (e2 rA (eC WS) (eV 4)) (eV 5)))
def MN:RS:=CC (hC (eV 2)) (CA 5) SQ
def lR:RS:=lA (DA 2 (qA zH [] (bA (eV 1) eA))) (lA (DA 3 (ro 0)) (lA (CC (hC (qA zH [] (bA (eV 0) eA))) (CA 4) MN) (AA (eV 3))))
def XN:zB:=UB 2 6 lR
abbrev qS:Ou:=top 12
def zS:RS:=AA (e2 wJ (e2 JI (SH (eC MM) (eV 1)) (oC (bA (eC TU) eA))) (SH (eC MM) (e2 MF (e2 MF (eV 0) (eV 1)) (ro 1))))
def oO:zB:=UB 2 2 zS
abbrev lV:Ou:=top 13
def WT:RE:=qA oO [] (bA (eV 1) (bA (eV 0) eA))
def HU:RS:=AA (mG (zJ (eV 0)) (CA 0) uB WT [none,ε 0])
def pP:zB:=UB 1 1 HU
abbrev oS:Ou:=top 14
def AR:RS:=bD (CD (eV 1) (UA (bA (eV 2) (bA (eV 3) eA))))
def BR:RS:=CC (Y3 (e2 MB (eV 2) (ro 1)) (eV 0)) (CA 3) AR
def yS:RS:=lA (DA 1 (gF eA)) (lA (CC (zJ (eV 0)) (CA 2) BR) (AA (eV 1)))
def fI:zB:=UB 1 4 yS
abbrev mS:Ou:=top 15
def wW:RE:=YB vE (eV 0)
def xS:RS:=lA (DA 4 (mG (hC (eV 0)) (CA 0) uB wW [none])) (lA (mJ (e2 LH (e2 rA (e2 rA (eV 0) (eV 1)) (eV 3)) (eV 2)) (e2 rA (eV 4) (eV 1)) (eV 3)) (lA (mJ (qA LO [] (bA (e2 rA (e2 rA (eV 4) (eV 1)) (eV 3)) eA)) (e2 rA (eV 4) (eV 3)) (eV 1)) (AA (eV 4))))
def dJ:zB:=UB 4 5 xS
abbrev fT:Ou:=top 16
def NS:RS:=lA (DA 2 (e2 rA (e2 rA (eV 0) (e2 rA (eV 1) (ro 0))) (e2 rA (eV 1) (ro 1)))) (lA (DA 3 (e2 rA (e2 rA (eV 0) (e2 rA (eV 1) (ro 1))) (e2 rA (eV 1) (ro 2)))) (AA (e2 LH (e2 rA (e2 rA (eV 0) (e2 rA (eV 1) (ro 0))) (e2 rA (eV 1) (ro 2))) (qA XN [] (bA (eV 2) (bA (eV 3) eA))))))
def PL:zB:=UB 2 4 NS
abbrev jT:Ou:=top 17
def QS:RS:=AA (e2 QC (qA PL [] (bA (eV 0) (bA (eV 1) eA))) (e2 rA (e2 rA (eV 0) (e2 rA (eV 1) (ro 0))) (e2 rA (eV 1) (ro 2))))
def IL:zB:=UB 2 2 QS
abbrev iT:Ou:=top 18
def OS:RS:=AA (qA dJ [] (bA (eV 0) (bA (e2 rA (eV 1) (ro 0)) (bA (qA PL [] (bA (eV 0) (bA (eV 1) eA))) (bA (e2 rA (eV 1) (ro 2)) eA)))))
def QL:zB:=UB 2 2 OS
abbrev kS:Ou:=top 19
def vW:RE:=e2 (kH false) (ro 0) (eV 0)
def vS:RS:=AA (YB qN (RD (hC (eV 0)) (CA 0) uB vW [none]))
def xG:zB:=UB 1 1 vS
abbrev gR:Ou:=top 20
def TQ:RS:=SC (qh (e2 (kH true) (eV 3) (eV 0))) (lA (bD (CD (eV 2) (UA (bA (e2 rA (eV 0) (ro 0)) (bA (e2 rA (eV 0) (ro 1)) (bA (eV 3) eA)))))) (bD (CD (eV 2) (UA (bA (e2 rA (eV 0) (ro 1)) (bA (e2 rA (eV 0) (ro 0)) (bA (eV 3) eA))))))) jB
def oR:RS:=lA (DA 2 (gF eA)) (lA (CC (zJ (eV 1)) (CA 3) TQ) (AA (eV 2)))
def ZN:zB:=UB 2 4 oR
abbrev eR:Ou:=top 21
def RQ:RE:=YB vE (eV 0)
def MJ:RS:=SC (qh (qA IL [] (bA (eV 3) (bA (eV 6) eA)))) (lA (DA 3 (qA QL [] (bA (eV 3) (bA (eV 6) eA)))) (lA (bD (CD (eV 2) (eV 6))) (lA (SC (qh (e2 gE (e2 rA (e2 rA (eV 3) (e2 rA (eV 6) (ro 0))) (e2 rA (eV 6) (ro 2))) (ro 0))) (AA (UA (bA (eC .non) (bA (eV 2) eA)))) jB) (bD (CD (eV 4) (UA (bA (e2 rA (eV 6) (ro 0)) (bA (e2 rA (eV 6) (ro 2)) eA)))))))) jB
def ON:RS:=lA (DA 5 (uP (eV 4) (ro 0))) (CC (hC (qA ZN [] (bA (eV 5) (bA (YB QB (eV 0)) eA)))) (CA 6) MJ)
def LN:RT:=qh (e2 RC (eV 4) (oC eA))
def VN:RS:=lA (DA 2 (gF eA)) (lA (SC (qh (qA xG [] (bA (eV 0) eA))) (AA (UA (bA (eC .non) (bA (eV 2) eA)))) jB) (lA (DA 3 (mG (hC (eV 0)) (CA 0) uB RQ [none])) (lA (DA 4 (YB vE (eV 1))) (lA (sP 1000000 LN ON) (AA (UA (bA (eV 3) (bA (eV 2) eA))))))))
def SI:zB:=UB 2 7 VN
abbrev kT:Ou:=top 22
def US:RS:=AA (qA SI [] (bA (eV 0) (bA (qA fI [] (bA (YB QB (eV 0)) eA)) eA)))
def TJ:zB:=UB 1 1 US
abbrev dS:Ou:=top 24
def BL:RS:=SC (qh (e2 RB (e2 rA (eV 3) (ro 0)) (eC (.str "ways")))) (DA 2 (qA dJ [] (bA (eV 2) (bA (e2 rA (eV 3) (ro 1)) (bA (e2 rA (eV 3) (ro 2)) (bA (e2 rA (eV 3) (ro 3)) eA)))))) jB
def QR:RS:=lA (DA 2 (qA pP [] (bA (eV 0) eA))) (lA (CC (hC (eV 1)) (CA 3) BL) (AA (eV 2)))
def PJ:zB:=UB 2 4 QR
abbrev uR:Ou:=top 25
def rW:RE:=UA (bA (e2 rA (eV 0) (ro 1)) (bA (e2 rA (eV 0) (ro 2)) (bA (e2 rA (eV 0) (ro 3)) eA)))
def pR:RT:=qh (e2 RB (e2 rA (eV 0) (ro 0)) (eC (.str "long")))
def yR:RS:=AA (RD (hC (eV 0)) (CA 0) pR rW [none])
def xL:zB:=UB 1 1 yR
abbrev eS:Ou:=top 26
def BW:RE:=e2 rA (eV 0) (ro 1)
def ER:RT:=qh (e2 RB (e2 rA (eV 0) (ro 0)) (eC (.str "one")))
def SR:RS:=AA (RD (hC (eV 0)) (CA 0) ER BW [none])
def QJ:zB:=UB 1 1 SR
abbrev IR:Ou:=top 27
def JN:RS:=lA (DA 5 (kL (qh (e2 RB (eV 3) (eV 2))) (e2 rA (eV 4) (ro 2)) (e2 LH (eC MM) (DN (e2 rA (eV 4) (ro 2)))))) (DA 0 (qA dJ [] (bA (eV 0) (bA (e2 rA (eV 4) (ro 1)) (bA (eV 5) (bA (e2 rA (eV 4) (ro 3)) eA))))))
def YQ:RS:=lA (CC (NP (eV 1)) (SD 3 4) JN) (AA (eV 0))
def aO:zB:=UB 3 6 YQ
abbrev MQ:Ou:=top 28
def IN:RS:=SC (qh (e2 dL (YB QB (qA zH [] (bA (e2 rA (e2 rA (eV 0) (e2 rA (eV 1) (ro 0))) (e2 rA (eV 1) (ro 1))) eA))) (ro 1))) (AA (eV 1)) jB
def HN:RS:=lA (CC (hC (qA fI [] (bA (YB QB (eV 0)) eA))) (CA 1) IN) (AA (eC .non))
def mL:zB:=UB 1 2 HN
abbrev pS:Ou:=top 29
def QN:RE:=qA aO [] (bA (eV 1) (bA (eV 2) (bA (eV 0) eA)))
def xW:RE:=UA (bA (e2 rA (eV 0) (ro 1)) (bA (e2 rA (eV 0) (ro 3)) eA))
def RN:RE:=qA dJ [] (bA (eV 1) (bA (e2 rA (eV 2) (ro 0)) (bA (e2 WF (ro 1) (eV 0)) (bA (e2 rA (eV 2) (ro 1)) eA))))
def mO:RS:=lA (SC (qh (e2 RC (eV 1) (oC eA))) (lA (DA 2 (e2 rA (eV 1) (ro 0))) (lA (DA 3 (RD (zJ (YB QB (eV 2))) (CA 0) uB QN [none,ε 0,ε 2])) (AA (UA (bA (eC (.str "one")) (bA (UA eA) (bA (eV 3) (bA (RD (hC (eV 2)) (CA 0) uB xW [none]) eA)))))))) jB) (lA (DA 4 (qA mL [] (bA (eV 0) eA))) (lA (SC (qh (e2 iF (eV 4) (eC .non))) (AA (eC .non)) jB) (lA (DA 5 (e2 rA (e2 rA (eV 0) (e2 rA (eV 4) (ro 0))) (e2 rA (eV 4) (ro 1)))) (lA (DA 3 (RD (hC (qA zH [] (bA (eV 5) eA))) (CA 0) uB RN [none,ε 0,ε 4])) (AA (UA (bA (eC (.str "split")) (bA (eV 4) (bA (eV 3) (bA (oC (bA (eV 4) eA)) eA))))))))))
def OF:zB:=UB 2 6 mO
abbrev EU:Ou:=top 31
def gU:RS:=AA (e2 MB (e2 JC (ro 2) (eV 0)) (ro 1))
def aM:zB:=UB 1 1 gU
abbrev jR:Ou:=top 32
def VQ:RS:=lA (DA 2 (e2 JC (ro 2) (e2 rA (eV 0) (ro 0)))) (AA (gF (bA (UA (bA (eV 2) (bA (e2 MB (eV 2) (ro 1)) (bA (e2 JC (TC (e2 rA (eV 0) (ro 1))) (eV 1)) eA)))) (bA (UA (bA (e2 MB (eV 2) (ro 1)) (bA (eV 2) (bA (e2 JC (e2 rA (eV 0) (ro 2)) (eV 1)) eA)))) eA))))
def qL:zB:=UB 2 3 VQ
abbrev dR:Ou:=top 33
def mR:RS:=lA (DA 4 (gF eA)) (lA (SC (qh (e2 ZV (YB UH (eV 3)) (eV 2))) (bD (CD (eV 4) (UA (bA (eV 0) (bA (eV 1) (bA (kL (qh (e2 GJ (YB UH (eV 3)) (eV 2))) (TC (ro 1)) (ro 0)) eA)))))) jB) (lA (SC (qh (e2 AQ (YB VH (eV 3)) (eV 2))) (bD (CD (eV 4) (UA (bA (eV 1) (bA (eV 0) (bA (kL (qh (e2 dL (YB VH (eV 3)) (eV 2))) (TC (ro 1)) (ro 0)) eA)))))) jB) (AA (eV 4))))
def QI:zB:=UB 4 5 mR
abbrev vR:Ou:=top 34
def yL:RE:=e2 rA (qA jU [] (bA (eV 0) eA)) (eV 1)
def zL:RS:=lA (DA 5 (RD (hC (qA zH [] (bA (eV 1) eA))) (CA 0) uB yL [none,ε 4])) (lA (bD (jJ (eV 3) (qA QI [] (bA (e2 MB (e2 JC (ro 2) (eV 0)) (eV 4)) (bA (e2 JC (ro 2) (eV 2)) (bA (ro 1) (bA (eV 5) eA))))))) (bD (jJ (eV 3) (qA QI [] (bA (e2 MB (e2 JC (ro 2) (eV 0)) (eV 4)) (bA (e2 MB (e2 JC (ro 2) (eV 2)) (ro 1)) (bA (ro 3) (bA (eV 5) eA))))))))
def zR:RS:=lA (DA 3 (gF eA)) (lA (CC (zJ (ro 2)) (CA 4) zL) (AA (eV 3)))
def SJ:zB:=UB 3 6 zR
abbrev IT:Ou:=top 35
def nO:RE:=UA (bA (e2 JC (ro 2) (eV 0)) (bA (e2 MB (e2 JC (ro 2) (eV 0)) (ro 1)) (bA (TC (ro 1)) eA)))
def pO:RS:=bD (jJ (eV 2) (qA qL [] (bA (eV 3) (bA (qA aM [] (bA (YB QB (eV 0)) eA)) eA))))
def eJ:RS:=bD (jJ (eV 2) (qA SJ [] (bA (e2 rA (eV 4) (ro 0)) (bA (e2 rA (e2 rA (eV 0) (e2 rA (eV 4) (ro 0))) (e2 rA (eV 4) (ro 1))) (bA (e2 rA (eV 4) (ro 1)) eA)))))
def ST:RS:=lA (DA 2 (mG (zJ (YB QB (eV 0))) (CA 0) uB nO [none])) (lA (CC (hC (eV 1)) (CA 3) pO) (lA (CC (hC (qA fI [] (bA (YB QB (eV 0)) eA))) (CA 4) eJ) (AA (eV 2))))
def jI:zB:=UB 2 5 ST
abbrev cR:Ou:=top 36
def pL:RS:=lA (DA 3 (rQ (bA (e2 rA (eV 2) (ro 0)) (bA (e2 rA (eV 2) (ro 1)) eA)))) (BP (pQ GK (nI (eV 1) (eV 3) (e2 rA (eV 2) (ro 2))) (e2 rA (eV 2) (ro 2))) (eV 1) (eV 3))
def UN:RS:=lA (DA 1 rV) (lA (CC (hC (eV 0)) (CA 2) pL) (AA (eV 1)))
def dI:zB:=UB 1 4 UN
abbrev FU:Ou:=top 37
def YI:RS:=SC (qh (e2 dL (e2 rA (eV 1) (e2 rA (eV 4) (ro 0))) (e2 MB (e2 rA (eV 1) (e2 rA (eV 4) (ro 1))) (eV 5)))) (lA (mJ (e2 MB (e2 rA (eV 1) (e2 rA (eV 4) (ro 1))) (eV 5)) (eV 1) (e2 rA (eV 4) (ro 0))) (lA (mJ (e2 rA (eV 4) (ro 1)) (eV 2) (e2 rA (eV 4) (ro 0))) (DA 3 (e2 rA (eV 4) (ro 0))))) jB
def hU:RS:=lA (DA 3 (eC .non)) (lA (CC (nJ (eV 0)) (SD 4 5) YI) (AA (eV 3)))
def lK:zB:=UB 3 6 hU
abbrev JR:Ou:=top 38
def OQ:RS:=DA 0 (e2 rA (eV 1) (eV 0))
def PQ:RS:=bD (CD (eV 3) (e2 rA (eV 1) (e2 rA (eV 3) (TC (ro 1)))))
def NQ:RT:=qh (e2 QC (e2 rA (eV 3) (TC (ro 1))) (eV 0))
def DR:RS:=lA (CC (zJ (YB QB (eV 1))) (CA 2) OQ) (lA (DA 3 (gF (bA (eV 0) (bA (e2 rA (eV 1) (eV 0)) eA)))) (lA (sP 100 NQ PQ) (AA (eV 3))))
def bO:zB:=UB 2 4 DR
abbrev kU:Ou:=top 39
def OL:RE:=e2 MF (eV 0) (eV 1)
def UJ:RS:=lA (DA 6 (qA lK [] (bA (eV 2) (bA (eV 3) (bA (eV 4) eA))))) (SC (qh (e2 iF (eV 6) (eC .non))) (lA (DA 7 (nV (eV 3) (ro 0))) (AA (UA (bA (eC (.str "times")) (bA (RD (hC (eV 3)) (CA 0) uB OL [none,ε 7]) eA))))) jB)
def jK:RS:=lA (DA 2 (qA dI [] (bA (eV 1) eA))) (lA (DA 3 (EK (ro 0) (eV 0))) (lA (DA 4 (EK (eC .non) (eV 0))) (lA (CC (zJ (e2 MB (eV 0) (ro 1))) (CA 5) UJ) (AA (UA (bA (eC (.str "ring")) (bA (qA bO [] (bA (eV 6) (bA (eV 4) eA))) eA)))))))
def aG:zB:=UB 2 8 jK
abbrev lS:Ou:=top 41
def PN:RE:=zM ZV GJ (ro 0) (eV 0) (eV 1)
def lO:RS:=AA (KJ (e2 RB (YB QO (eV 0)) (ro 3)) (YB TH (RD (OP (eV 0)) (CA 0) uB PN [none,ε 1])))
def DL:zB:=UB 2 2 lO
abbrev aR:Ou:=top 42
def wG:RS:=lA (SC (WE (qh (qA xG [] (bA (eV 0) eA))) (WE (NH (qh (qA DL [] (bA (eV 2) (bA (YB QB (eV 0)) eA))))) (NH (qh (qA IL [] (bA (eV 0) (bA (eV 2) eA))))))) (AA (eC .non)) jB) (DA 0 (qA QL [] (bA (eV 0) (bA (eV 2) eA))))
def TN:RS:=lA (CC (hC (eV 1)) (CA 2) wG) (AA (eV 0))
def NJ:zB:=UB 2 3 TN
abbrev eT:Ou:=top 43
def dO:RE:=qQ (eV 0) (eV 1)
def TR:RE:=oV (eV 1) (eV 0)
def vO:RS:=lA (SC (WE (qh (e2 GJ (YB QB (eV 0)) (ro 3))) (WE (qh (e2 QC (e2 rA (eV 0) (ro 0)) (e2 rA (eV 0) (TC (ro 1))))) (qh (e2 QC (YB nM (eV 0)) (e2 MF (YB QB (eV 0)) (ro 1)))))) (AA (eC (.bl false))) jB) (lA (DA 2 (qA dI [] (bA (eV 1) eA))) (lA (DA 3 (OO (eV 0) (DJ (eV 0) (JF (ro 1)) gL))) (lA (SC (NH (qh (YB TH (RD (hC (eV 3)) (CA 0) uB dO [none,ε 2])))) (AA (eC (.bl false))) jB) (AA (e2 GJ (YB EJ (RD (hC (eV 3)) (CA 0) uB TR [none,ε 2])) (ro 0))))))
def bJ:zB:=UB 2 4 vO
abbrev jS:Ou:=top 45
def yH(R:zB):RS:=SC (NH (qh (qA R [] (bA (eV 4) (bA (eV 1) (bA (eV 2) (bA (eV 5) eA))))))) (AA (eC (.bl false))) jB
def EL(R:zB):RS:=lA (SC (qh (e2 QC (YB QB (eV 0)) (YB QB (eV 3)))) (AA (eC (.bl false))) jB) (lA (CC (tQ (eV 0) (eV 3)) (SD 4 5) (yH R)) (AA (eC (.bl true))))
def cI(R:zB):zB:=UB 4 6 (EL R)
abbrev GU:Ou:=top 44
def oK (R:zB):RS:=lA (DA 4 (qA NJ [] (bA (eV 0) (bA (e2 rA (eV 3) (ro 1)) eA)))) (lA (SC (qh (e2 iF (eV 4) (eC .non))) (AA (eC (.bl false))) jB) (lA (SC (qh (e2 gE (e2 rA (eV 3) (ro 0)) (eC (.str "threes")))) (AA (qA xG [] (bA (eV 4) eA))) jB) (lA (SC (WE (qh (qA xG [] (bA (eV 4) eA))) (qh (e2 RC (e2 rA (qA TJ [] (bA (eV 4) eA)) (ro 1)) (oC eA)))) (AA (eC (.bl false))) jB) (lA (SC (qh (e2 gE (e2 rA (eV 3) (ro 0)) (eC (.str "ring")))) (AA (qA bJ [] (bA (e2 rA (eV 3) (ro 2)) (bA (qA jI [] (bA (eV 4) (bA (eV 2) eA))) eA)))) jB) (lA (DA 5 (qA OF [] (bA (eV 4) (bA (eV 1) eA)))) (lA (SC (WE (qh (e2 iF (eV 5) (eC .non))) (WE (qh (e2 RC (e2 rA (eV 5) (ro 0)) (e2 rA (eV 3) (ro 0)))) (qh (e2 RC (e2 rA (eV 5) (ro 1)) (DI (eV 3) (JF (ro 2)) (JF (TC (ro 1)))))))) (AA (eC (.bl false))) jB) (AA (qA (cI R) [] (bA (e2 rA (eV 5) (ro 2)) (bA (DJ (eV 1) (JF (ro 1)) gL) (bA (eV 2) (bA (e2 rA (eV 3) (TC (ro 1))) eA))))))))))))
def kI(n:Nat):zB:=Nat.rec (fun _ _=>none) (fun _ R=>UB 4 6 (oK R)) n
abbrev cT:Ou:=top 46
def MS:RS:=AA (qA (kI 12) [] (bA (qA PJ [] (bA (eV 0) (bA (eV 1) eA))) (bA (qA QJ [] (bA (eV 1) eA)) (bA (qA xL [] (bA (eV 1) eA)) (bA (eV 2) eA)))))
def wO:zB:=UB 3 3 MS
abbrev XQ:Ou:=tU (top 48) 0
def WQ:RS:=lA (qJ "Search" "lengths" (eV 0) (eV 1)) (lA (qJ "Search" "most" (eV 0) (eV 2)) (qJ "Search" "made" (eV 0) (ro 0)))
def rL:zB:=UB 3 3 WQ
abbrev fR:Ou:=top 49
def KN:RE:=UA (bA (e2 rA (eV 1) (eV 0)) (bA (e2 rA (eV 1) (e2 MB (eV 0) (ro 1))) eA))
def nR:RS:=AA (RD (Z3 (ro 0) (YB QB (eV 0)) 2) (CA 0) uB KN [none,ε 0])
def YN:zB:=UB 1 1 nR
abbrev KQ:Ou:=tU (top 48) 2
def OI (R:zB):RS:=lA (DA 6 (tJ "Search" "look" R (eV 0) (bA (eV 5) (bA (e2 rA (eV 1) (ro 3)) (bA (eV 3) eA))))) (lA (SC (qh (e2 QC (e2 rA (eV 6) (ro 0)) (eC (.str "clash")))) (AA (eV 6)) jB) (bD (CD (eV 4) (e2 rA (eV 6) (ro 1)))))
def lL (R:zB):RS:=lA (DA 4 (gF eA)) (lA (CC (hC (e2 rA (eV 1) (ro 2))) (CA 5) (OI R)) (AA (UA (bA (eC (.str "clash")) (bA (e2 xJ (e2 xJ (UA (bA (e2 rA (eV 1) (ro 0)) (bA (eV 2) eA))) (e2 rA (eV 1) (ro 1))) (UA (bA (eV 4) eA))) eA)))))
def bI(R:zB):zB:=UB 4 7 (lL R)
abbrev HR:Ou:=tU (top 48) 1
def OJ (R:zB):RS:=lA (DA 4 (qA SI [] (bA (eV 1) (bA (eV 2) eA)))) (lA (DA 5 (e2 rA (eV 4) (ro 0))) (lA (DA 6 (e2 rA (eV 4) (ro 1))) (lA (SC (qh (e2 iF (eV 5) (eC .non))) (AA (UA (bA (eC (.str "clash")) (bA (UA (bA (eC (.str "threes")) (bA (eV 6) eA))) eA)))) jB) (lA (DA 7 (qA aG [] (bA (e2 JC (ro 2) (YB QB (eV 5))) (bA (qA jI [] (bA (eV 5) (bA (tG "Search" "lengths" (eV 0)) eA))) eA)))) (lA (SC (qh (e2 RB (e2 rA (eV 7) (ro 0)) (eC (.str "ring")))) (AA (UA (bA (eC (.str "clash")) (bA (UA (bA (eC (.str "ring")) (bA (eV 6) (bA (e2 rA (eV 7) (ro 1)) eA)))) eA)))) jB) (lA (DA 8 (qA OF [] (bA (eV 5) (bA (eV 3) eA)))) (lA (SC (qh (e2 iF (eV 8) (eC .non))) (AA (UA (bA (eC (.str "laid")) (bA (qA YN [] (bA (e2 rA (eV 7) (ro 1)) eA)) eA)))) jB) (lA (SC (qh (e2 AQ (tG "Search" "made" (eV 0)) (tG "Search" "most" (eV 0)))) (AA (UA (bA (eC (.str "open")) (bA (eC .non) eA)))) jB) (lA (qJ "Search" "made" (eV 0) (e2 MB (tG "Search" "made" (eV 0)) (ro 1))) (AA (tJ "Search" "look_at_branches" (bI R) (eV 0) (bA (eV 8) (bA (eV 6) (bA (DJ (eV 3) (JF (ro 1)) gL) eA))))))))))))))
def sE(n:Nat):zB:=Nat.rec (fun _ _=>none) (fun _ R=>UB 4 9 (OJ R)) n
abbrev EO:Ou:=top 50
def SS:RS:=lA (DA 3 (GP "Search" rL (bA (qA xL [] (bA (eV 1) eA)) (bA (eV 2) eA)))) (lA (DA 4 (tJ "Search" "look" (sE 12) (eV 3) (bA (qA PJ [] (bA (eV 0) (bA (eV 1) eA))) (bA (qA fI [] (bA (eV 0) eA)) (bA (qA QJ [] (bA (eV 1) eA)) eA))))) (AA (UA (bA (e2 rA (eV 4) (ro 0)) (bA (e2 rA (eV 4) (ro 1)) (bA (tG "Search" "made" (eV 3)) eA))))))
def XI:zB:=UB 3 5 SS
abbrev WR:Ou:=top 52
def KR:RS:=lA (SC (qh (e2 GJ (eV 1) (YB QB (eV 0)))) (AA (e2 rA (eV 0) (eV 1))) jB) (AA (ro 0))
def VG:zB:=UB 2 2 KR
abbrev iS:Ou:=top 53
def uS:RS:=AA (e2 aC (e2 JC (e2 MB (e2 aC (eV 0) (ro 1000000007)) (ro 1)) (eV 1)) (eV 2))
def cJ:zB:=UB 3 3 uS
abbrev cS:Ou:=top 54
def VI:RS:=lA (SC (qh (e2 GJ (eV 0) (e2 rA (eV 1) (ro 0)))) (AA (ro 0)) jB) (lA (SC (qh (e2 RB (eV 0) (e2 rA (eV 1) (ro 0)))) (AA (ro 1)) jB) (AA (e2 MB (e2 MB (ro 2) (YB aL (e2 AQ (eV 0) (e2 rA (eV 1) (ro 1))))) (YB aL (e2 dL (eV 0) (e2 rA (eV 1) (ro 1)))))))
def wH:zB:=UB 2 2 VI
abbrev ZQ:Ou:=top 55
def kR:RS:=AA (e2 MB (e2 rA (oC (bA (ro 0) (bA (ro 3) (bA (ro 6) (bA (ro 7) (bA (ro 8) eA)))))) (qA wH [] (bA (e2 rA (eV 0) (ro 0)) (bA (eV 1) eA)))) (qA wH [] (bA (e2 rA (eV 0) (ro 1)) (bA (eV 1) eA))))
def WN:zB:=UB 2 2 kR
abbrev YR:Ou:=top 56
def MR:RS:=lA (DA 1 (e2 aC (eV 0) (ro 8192))) (lA (DA 2 (e2 aC (e2 VE (eV 0) (ro 8192)) (ro 8192))) (lA (DA 3 (e2 aC (e2 VE (eV 0) (ro 67108864)) (ro 4))) (lA (SC (qh (e2 RB (eV 3) (ro 0))) (AA (e2 WF (ro 1) (e2 aC (eV 1) (ro 13)))) jB) (lA (SC (qh (e2 RB (eV 3) (ro 1))) (AA (e2 FJ (e2 WF (ro 1) (e2 aC (eV 1) (ro 13))) (e2 WF (ro 1) (e2 aC (eV 2) (ro 13))))) jB) (lA (SC (qh (e2 RB (eV 3) (ro 2))) (AA (e2 LH (eV 1) (eV 2))) jB) (AA (eV 1)))))))
def HL:zB:=UB 1 4 MR
abbrev aS:Ou:=top 57
def PR:RS:=lA (DA 2 (qA cJ [] (bA (eV 0) (bA (ro 950706376) (bA (ro 2147483399) eA))))) (lA (DA 3 (e2 aC (eV 2) (eV 1))) (lA (DA 4 (e2 aC (e2 MB (e2 MB (eV 3) (ro 1)) (e2 aC (e2 VE (eV 2) (ro 8)) (e2 MF (eV 1) (ro 1)))) (eV 1))) (AA (UA (bA (eC (.str "ways")) (bA (eV 3) (bA (qA HL [] (bA (qA cJ [] (bA (eV 0) (bA (ro 742938285) (bA (ro 2147483647) eA)))) eA)) (bA (eV 4) eA))))))))
def gI:zB:=UB 2 5 PR
abbrev UQ:Ou:=top 58
def LQ:RS:=lA (DA 5 (qA cJ [] (bA (e2 MB (qA VG [] (bA (eV 0) (bA (e2 MB (ro 1) (eV 4)) eA))) (e2 JC (eV 4) (eV 4))) (bA (ro 742938285) (bA (ro 2147483647) eA))))) (lA (DA 6 (e2 JC (e2 MF (e2 aC (eV 5) (ro 8)) (ro 3)) (eV 2))) (bD (CD (eV 3) (UA (bA (eV 6) (bA (e2 MB (eV 6) (e2 JC (e2 MB (ro 1) (e2 aC (e2 VE (eV 5) (ro 8)) (ro 5))) (eV 2))) eA))))))
def QQ:RS:=lA (DA 2 (e2 rA (oC (bA (ro 1) (bA (ro 3) (bA (e2 MB (e2 tN (ro 10) (ro 15)) (ro 7)) eA)))) (e2 aC (e2 VE (qA VG [] (bA (eV 0) (bA (ro 0) eA))) (ro 3)) (ro 3)))) (lA (DA 3 (gF eA)) (lA (CC (zJ (eV 1)) (CA 4) LQ) (AA (eV 3))))
def nL:zB:=UB 2 7 QQ
abbrev bS:Ou:=top 59
def cO:RS:=lA (DA 3 (e2 WF (ro 1) (qA WN [] (bA (e2 rA (eV 1) (e2 rA (eV 0) (ro 1))) (bA (e2 rA (eV 1) (e2 rA (eV 0) (ro 3))) eA))))) (lA (SC (qh (eV 2)) (AA (UA (bA (eC (.str "ways")) (bA (e2 rA (eV 0) (ro 1)) (bA (e2 FJ (e2 rA (eV 0) (ro 2)) (eV 3)) (bA (e2 rA (eV 0) (ro 3)) eA)))))) jB) (AA (UA (bA (eC (.str "ways")) (bA (e2 rA (eV 0) (ro 1)) (bA (e2 BQ (e2 rA (eV 0) (ro 2)) (e2 LH (e2 rA (eV 0) (ro 2)) (eV 3))) (bA (e2 rA (eV 0) (ro 3)) eA)))))))
def yG:zB:=UB 3 4 cO
abbrev sR:Ou:=top 60
def qR:RS:=lA (DA 6 (qA gI [] (bA (e2 MB (eV 0) (e2 JC (e2 JC (ro 1009) (eV 5)) (eV 5))) (bA (YB QB (eV 2)) eA)))) (bD (CD (eV 4) (qA yG [] (bA (eV 6) (bA (eV 2) (bA (e2 RB (eV 5) (e2 aC (e2 VE (eV 1) (ro 18)) (eV 3))) eA))))))
def xR:RS:=lA (DA 3 (e2 MB (ro 1) (e2 aC (e2 VE (eV 1) (ro 6)) (ro 3)))) (lA (DA 4 (gF eA)) (lA (CC (zJ (eV 3)) (CA 5) qR) (AA (UA (bA (eC (.str "one")) (bA (eV 4) eA))))))
def vL:zB:=UB 3 7 xR
abbrev XR:Ou:=top 61
def LR:RS:=lA (DA 2 (e2 aC (e2 VE (eV 0) (ro 6)) (YB QB (eV 1)))) (lA (DA 3 (e2 MB (e2 JC (ro 2) (YB QB (eV 1))) (ro 1))) (lA (DA 4 (e2 VE (e2 MF (e2 rA (e2 rA (eV 1) (eV 2)) (ro 1)) (e2 rA (e2 rA (eV 1) (eV 2)) (ro 0))) (eV 3))) (AA (UA (bA (eC (.str "long")) (bA (eV 2) (bA (pQ IP (ro 0) (e2 MF (eV 4) (e2 aC (e2 VE (eV 0) (ro 24)) (ro 2)))) (bA (e2 MB (e2 MB (eV 4) (ro 1)) (e2 aC (e2 VE (eV 0) (ro 48)) (ro 2))) eA))))))))
def GL:zB:=UB 2 5 LR
abbrev rR:Ou:=top 62
def UI:RS:=lA (DA 5 (qA cJ [] (bA (eV 4) (bA (ro 62089911) (bA (ro 2147483587) eA))))) (SC (CP (qh (e2 RB (e2 aC (eV 5) (ro 6)) (ro 0))) (qh (e2 GJ (eV 3) (ro 2)))) (lA (DA 3 (e2 MB (eV 3) (ro 1))) (bD (CD (eV 2) (qA vL [] (bA (eV 4) (bA (eV 5) (bA (eV 1) eA))))))) (SC (qh (e2 RB (e2 aC (eV 5) (ro 6)) (ro 1))) (bD (CD (eV 2) (qA GL [] (bA (eV 5) (bA (eV 1) eA))))) (bD (CD (eV 2) (qA yG [] (bA (qA gI [] (bA (eV 4) (bA (YB QB (eV 1)) eA))) (bA (eV 1) (bA (eC (.bl true)) eA))))))))
def wR:RS:=lA (DA 2 (gF eA)) (lA (DA 3 (ro 0)) (lA (CC (hC (DJ (eV 0) (JF (ro 9)) (JF (ro 29)))) (CA 4) UI) (AA (eV 2))))
def uL:zB:=UB 2 6 wR
abbrev ZR:Ou:=top 63
def AL:RE:=kL (qh (e2 gE (e2 rA (eV 0) (ro 0)) (eC (.str "one")))) (UA (bA (eC (.str "one")) (bA (YB vE (e2 rA (eV 0) (ro 1))) eA))) (eV 0)
def NR:RS:=lA (DA 4 (mG (hC (eV 1)) (CA 0) uB AL [none])) (lA (DA 5 (qA wO [] (bA (eV 0) (bA (eV 4) (bA (eV 2) eA))))) (AA (KJ (nN "bool" (eV 5)) (KJ (e2 gE (eV 5) (eV 3)) (e2 gE (eV 4) (eV 1))))))
def WI:zB:=UB 4 6 NR
abbrev tR:Ou:=top 64
def tL:RS:=lA (DA 1 (gF (bA (UA (bA (eC (.str "threes")) (bA (oC eA) eA))) (bA (UA (bA (eC (.str "threes")) (bA (oC (bA (UA (bA (ro 0) (bA (ro 1) (bA (ro 2) eA)))) (bA (UA (bA (ro 1) (bA (ro 0) (bA (ro 2) eA)))) eA))) eA))) (bA (UA (bA (eC (.str "ring")) (bA (oC eA) (bA (oC (bA (ro 0) (bA (ro 1) (bA (ro 0) eA)))) eA)))) (bA (UA (bA (eC (.str "one")) (bA (oC eA) (bA (oC (bA (UA (bA (eC (.str "threes")) (bA (oC eA) eA))) eA)) eA)))) eA)))))) (lA (bD (CD (eV 1) (UA (bA (eC (.str "split")) (bA (oC eA) (bA (ro 0) (bA (ro 1) (bA (SH (UA (bA (eC (.str "threes")) (bA (oC eA) eA))) (ro 13)) eA)))))))) (lA (SC (qh (e2 RB (e2 rA (eV 0) (ro 0)) (eC (.str "clash")))) (lA (bD (CD (eV 1) (e2 rA (eV 0) (ro 1)))) (SC (qh (e2 (kH false) (e2 rA (e2 rA (eV 0) (ro 1)) (ro 0)) (UA (bA (eC (.str "one")) (bA (eC (.str "split")) eA))))) (DA 1 (e2 wJ (eV 1) (DJ (e2 rA (e2 rA (eV 0) (ro 1)) (TC (ro 1))) gL (JF (ro 3))))) jB)) jB) (AA (eV 1))))
def wL:zB:=UB 1 2 tL
abbrev tV:Ou:=top 65
def kK:RE:=kL (qh (e2 RB (e2 rA (eV 0) (ro 0)) (eC (.str "one")))) (UA (bA (eC (.str "one")) (bA (YB vE (e2 rA (eV 0) (ro 1))) eA))) (eV 0)
def bM:RS:=SC (NH (qh (qA WI [] (bA (eV 1) (bA (eV 3) (bA (eV 7) (bA (eC (.bl false)) eA))))))) (AA (eC (.bl false))) jB
def LM:RS:=lA (DA 1 (e2 MB (ro 2) (e2 aC (qA VG [] (bA (eV 0) (bA (ro 0) eA))) (ro 3)))) (lA (DA 2 (qA nL [] (bA (eV 0) (bA (eV 1) eA)))) (lA (DA 3 (qA uL [] (bA (eV 0) (bA (eV 2) eA)))) (lA (DA 4 (qA gI [] (bA (qA VG [] (bA (eV 0) (bA (ro 7) eA))) (bA (eV 1) eA)))) (lA (SC (qh (e2 dL (e2 aC (qA VG [] (bA (eV 0) (bA (ro 8) eA))) (ro 4)) (ro 0))) (DA 4 (qA yG [] (bA (eV 4) (bA (eV 2) (bA (eC (.bl false)) eA))))) jB) (lA (DA 5 (e2 JI (eV 3) (oC (bA (eV 4) eA)))) (lA (DA 6 (qA XI [] (bA (eV 1) (bA (mG (hC (eV 5)) (CA 0) uB kK [none]) (bA (ro 2) eA))))) (lA (SC (WE (NH (qh (nN "tuple" (eV 6)))) (qh (e2 QC (YB QB (eV 6)) (ro 3)))) (AA (eC (.bl false))) jB) (lA (CC (hC (qA wL [] (bA (eV 6) eA))) (CA 7) bM) (AA (PV (e2 QC (e2 rA (eV 6) (ro 0)) (eC (.str "clash"))) (qA WI [] (bA (eV 1) (bA (eV 5) (bA (e2 rA (eV 6) (ro 1)) (bA (eC (.bl true)) eA)))))))))))))))
def uI:zB:=UB 1 8 LM
structure Im(K:Frag)(mg:Str->Option Value):Prop where
 hO:dB K mg "zones" lU ["way"]
 hX:dB K mg "ways_in" lT ["mask"]
 hY:dB K mg "set_of" JT ["ways"]
 hZ:dB K mg "turned" MT ["mask"]
 ia:dB K mg "chained_sets" bR ["one", "other"]
 ib:dB K mg "wide_row" qS ["count", "i"]
 ie:dB K mg "wide" lV ["count"]
 ii:dB K mg "pairs_of" oS ["count"]
 ij:dB K mg "narrowed" mS ["net", "i", "mask", "j"]
 ik:dB K mg "left_by" fT ["net", "three"]
 im:dB K mg "narrows" jT ["net", "three"]
 io:dB K mg "made_of" iT ["net", "three"]
 ip:dB K mg "is_empty" kS ["net"]
 iq:dB K mg "threes_along" gR ["pair", "count"]
 ir:dB K mg "rounded_from" eR ["net", "pairs"]
 i3:dB K mg "rounded" kT ["net"]
 i4:dB K mg "first_net" dS ["count", "facts"]
 i5:dB K mg "lengths_in" uR ["facts"]
 ja:dB K mg "groups_in" eS ["facts"]
 zev:dB K mg "only_member" IR ["net", "group", "chosen"]
 jb:dB K mg "first_loose_pair" MQ ["net"]
 jn:dB K mg "split_of" pS ["net", "groups"]
 jp:dB K mg "grain" EU ["count"]
 jv:dB K mg "length_bounds" jR ["length", "one"]
 j0:dB K mg "point_bounds" dR ["p", "q", "at", "seen"]
 j3:dB K mg "set_bounds" vR ["i", "mask", "j"]
 ka:dB K mg "bounds" IT ["net", "lengths"]
 ke:dB K mg "least_bounds" cR ["found"]
 kg:dB K mg "moved" FU ["least", "times", "causes"]
 ki:dB K mg "ring_behind" JR ["point", "causes"]
 km:dB K mg "timed" kU ["points", "bounds"]
 ko:dB K mg "is_three" lS ["three", "count"]
 kq:dB K mg "behind_steps" aR ["net", "steps"]
 kr:dB K mg "is_ring" eT ["ring", "found"]
 gd:dB K mg "shows" GU ["net", "groups", "lengths", "tree"]
 kt:dB K mg "all_show" jS ["nets", "groups", "lengths", "branches"]
 ku:dB K mg "follows" cT ["count", "facts", "tree"]
 kv:VU K mg "Search" "Search.__init__" XQ ["self", "lengths", "most"]
 gf:xM K "Search" "look" "Search.look" HR ["self", "net", "pairs", "groups"]
 kw:xM K "Search" "look_at_branches" "Search.look_at_branches" KQ ["self", "split", "steps", "groups"]
 kx:dB K mg "stretches_at" fR ["times"]
 ky:jN K mg "planned" EO ["count", "facts", "most"] []
 kz:dB K mg "_law_cell" WR ["_law_script", "_law_k"]
 la:dB K mg "_law_mix" iS ["_law_cell_here", "_law_factor", "_law_prime"]
 lc:dB K mg "_law_zone" cS ["_law_time", "_law_one"]
 ld:dB K mg "_law_between" ZQ ["_law_one", "_law_other"]
 lf:dB K mg "_law_mask" YR ["_law_number"]
 lh:dB K mg "_law_ways" aS ["_law_cell_here", "_law_count"]
 li:dB K mg "_law_stretches" UQ ["_law_script", "_law_count"]
 lj:dB K mg "_law_with" bS ["_law_fact", "_law_stretches_here", "_law_so"]
 ln:dB K mg "_law_group" sR ["_law_cell_here", "_law_number", "_law_stretches_here"]
 lr:dB K mg "_law_long" XR ["_law_number", "_law_stretches_here"]
 lv:dB K mg "_law_facts" rR ["_law_script", "_law_stretches_here"]
 lx:dB K mg "_law_told" ZR ["_law_count", "_law_facts_here", "_law_tree", "_law_due"]
 ly:dB K mg "_law_trees" tR ["_law_told_here"]
 gg:qK K "Search" "lengths"
 gh:qK K "Search" "most"
 cz:qK K "Search" "made"
 gi:mg "all" =none
 l8:mg "any" =none
 ma:mg "bool" =none
 md:mg "enumerate" =none
 gm:mg "int" =none
 gr:mg "isinstance" =none
 Ys:mg "len" =none
 cv:mg "list" =none
 eL:mg "max" =none
 dv:mg "min" =none
 ar:mg "range" =none
 gu:mg "set" =none
 gv:mg "sum" =none
 me:mg "tuple" =none
 gx:mg "zip" =none
 eP:RK K mg "ALL" MM
 mf:RK K mg "ZONES" iU
 mh:RK K mg "CHAINED" WS
 mi:RK K mg "SAME" TU
section
variable{P:Oo}{w:O4}{K:Oi}{a:Str->Ni Mu}
theorem jt:SA ["way"] ["way"] (BA lU):=ZA
theorem Xz:SA ["mask"] ["mask"] (BA lT):=ZA
theorem iy:SA ["ways"] ["ways"] (BA JT):=ZA
theorem jy:SA ["mask"] ["mask"] (BA MT):=ZA
theorem CB:SA ["one", "other", "seconds", "reached", "first", "second"] ["one", "other"] (BA bR):=ZA
theorem dz:SA ["count", "i"] ["count", "i"] (BA qS):=ZA
theorem yc:SA ["count"] ["count"] (BA lV):=ZA
theorem ND:SA ["count", "found", "i", "j"] ["count"] (BA oS):=ZA
theorem VF:SA ["net", "i", "mask", "j", "made"] ["net", "i", "mask", "j"] (BA mS):=ZA
theorem lF:SA ["net", "three", "first", "second"] ["net", "three"] (BA fT):=ZA
theorem Vz:SA ["net", "three"] ["net", "three"] (BA jT):=ZA
theorem Uz:SA ["net", "three"] ["net", "three"] (BA iT):=ZA
theorem Yx:SA ["net"] ["net"] (BA kS):=ZA
theorem YC:SA ["pair", "count", "found", "other"] ["pair", "count"] (BA gR):=ZA
theorem kB:SA ["net", "pairs", "steps", "end", "waiting", "pair", "three"] ["net", "pairs"] (BA eR):=ZA
theorem Wz:SA ["net"] ["net"] (BA kT):=ZA
theorem jD:SA ["count", "facts", "net", "fact"] ["count", "facts"] (BA dS):=ZA
theorem Wq:SA ["facts"] ["facts"] (BA uR):=ZA
theorem wz:SA ["facts"] ["facts"] (BA eS):=ZA
theorem yC:SA ["net", "group", "chosen", "place", "member", "mask"] ["net", "group", "chosen"] (BA IR):=ZA
theorem cD:SA ["net", "pair"] ["net"] (BA MQ):=ZA
theorem uC:SA ["net", "groups", "group", "nets", "pair", "mask"] ["net", "groups"] (BA pS):=ZA
theorem Zh:SA ["count"] ["count"] (BA EU):=ZA
theorem aE:SA ["length", "one", "start"] ["length", "one"] (BA jR):=ZA
theorem pE:SA ["p", "q", "at", "seen", "found"] ["p", "q", "at", "seen"] (BA dR):=ZA
theorem OC:SA ["i", "mask", "j", "found", "side", "seen"] ["i", "mask", "j"] (BA vR):=ZA
theorem SE:SA ["net", "lengths", "found", "length", "pair"] ["net", "lengths"] (BA IT):=ZA
theorem mC:SA ["found", "least", "bound", "pair"] ["found"] (BA cR):=ZA
theorem xF:SA ["least", "times", "causes", "last", "pair", "most"] ["least", "times", "causes"] (BA FU):=ZA
theorem zC:SA ["point", "causes", "step", "ring"] ["point", "causes"] (BA JR):=ZA
theorem wD:SA ["points", "bounds", "least", "times", "causes", "turn", "last", "first"] ["points", "bounds"] (BA kU):=ZA
theorem Zx:SA ["three", "count"] ["three", "count"] (BA lS):=ZA
theorem XC:SA ["net", "steps", "three"] ["net", "steps"] (BA aR):=ZA
theorem kF:SA ["ring", "found", "least", "pairs"] ["ring", "found"] (BA eT):=ZA
theorem UF:SA ["nets", "groups", "lengths", "branches", "net", "branch"] ["nets", "groups", "lengths", "branches"] (BA jS):=ZA
theorem vG:SA ["net", "groups", "lengths", "tree", "end", "split"] ["net", "groups", "lengths", "tree"] (BA GU):=ZA
theorem Tz:SA ["count", "facts", "tree"] ["count", "facts", "tree"] (BA cT):=ZA
theorem Uj:SA ["self", "lengths", "most"] ["self", "lengths", "most"] (BA XQ):=ZA
theorem Hq:SA ["times"] ["times"] (BA fR):=ZA
theorem YA:SA ["self", "split", "steps", "groups", "branches", "net", "told"] ["self", "split", "steps", "groups"] (BA KQ):=ZA
theorem HB:SA ["self", "net", "pairs", "groups", "gone_round", "end", "steps", "laid", "split"] ["self", "net", "pairs", "groups"] (BA HR):=ZA
theorem mF:SA ["count", "facts", "most", "search", "told"] ["count", "facts", "most"] (BA EO):=ZA
theorem qz:SA ["_law_script", "_law_k"] ["_law_script", "_law_k"] (BA WR):=ZA
theorem Xx:SA ["_law_cell_here", "_law_factor", "_law_prime"] ["_law_cell_here", "_law_factor", "_law_prime"] (BA iS):=ZA
theorem uz:SA ["_law_time", "_law_one"] ["_law_time", "_law_one"] (BA cS):=ZA
theorem Gq:SA ["_law_one", "_law_other"] ["_law_one", "_law_other"] (BA ZQ):=ZA
theorem gD:SA ["_law_number", "_law_one", "_law_other", "_law_kind"] ["_law_number"] (BA YR):=ZA
theorem iD:SA ["_law_cell_here", "_law_count", "_law_number", "_law_i", "_law_j"] ["_law_cell_here", "_law_count"] (BA aS):=ZA
theorem iB:SA ["_law_script", "_law_count", "_law_large", "_law_made", "_law_k", "_law_number", "_law_start"] ["_law_script", "_law_count"] (BA UQ):=ZA
theorem wF:SA ["_law_fact", "_law_stretches_here", "_law_so", "_law_way"] ["_law_fact", "_law_stretches_here", "_law_so"] (BA bS):=ZA
theorem iC:SA ["_law_cell_here", "_law_number", "_law_stretches_here", "_law_size", "_law_members", "_law_k", "_law_fact"] ["_law_cell_here", "_law_number", "_law_stretches_here"] (BA sR):=ZA
theorem fD:SA ["_law_number", "_law_stretches_here", "_law_i", "_law_grains", "_law_low"] ["_law_number", "_law_stretches_here"] (BA XR):=ZA
theorem PB:SA ["_law_script", "_law_stretches_here", "_law_facts_here", "_law_groups", "_law_cell_here", "_law_number"] ["_law_script", "_law_stretches_here"] (BA rR):=ZA
theorem iE:SA ["_law_count", "_law_facts_here", "_law_tree", "_law_due", "_law_handed", "_law_found"] ["_law_count", "_law_facts_here", "_law_tree", "_law_due"] (BA ZR):=ZA
theorem PD:SA ["_law_told_here", "_law_trees_here"] ["_law_told_here"] (BA tR):=ZA
theorem jE:SA ["_law_script", "_law_count", "_law_stretches_here", "_law_facts_here", "_law_fact", "_law_more", "_law_told_here", "_law_tree"] ["_law_script"] (BA tV):=ZA
variable(T:Im K a)(b:Pu)
include T
theorem Tw:BC P w K a b 1 1 "zones" jU:=
 mB (k:=0) (body:=JY) T.hO jt rfl rfl fun _ _ _ _ _ _ _ d=>sA (FA (kA (rK rfl T.mf) (aA 0)))
theorem RJ:BC P w K a b 1 1 "ways_in" zH:=
 mB (k:=0) (body:=VS) T.hX Xz rfl rfl fun _ _ _ _ _ _ _ d=>sA (FA (bG (Nc:=["way", "mask"]) (BG rfl T.ar dA) (fun _ _ _ _=>IB 0 (show(["way", "mask"]:Ms Str).Nodup by decide +kernel)) (fun _ _ _ _=>aV (rB (OE d.units) (vA mK (vA h7 (aA 1) (aA 0)) dA) dA)) (fun _ _ _ _=>aA 0)))
theorem Jz:BC P w K a b 1 1 "set_of" KO:=
 mB (k:=0) (body:=UT) T.hY iy rfl rfl fun _ _ _ _ _ _ _ d=>sA (FA (ZZ rfl rfl T.gv (bG (Nc:=["way"]) (MC (aA 0)) (fun _ _ _ _=>IB 0 (show(["way"]:Ms Str).Nodup by decide +kernel)) (fun _ _ _ _=>tE) (fun _ _ _ _=>vA wK dA (aA 0)))))
theorem Kz:BC P w K a b 2 1 "turned" LO:=
 mB (k:=1) (body:=VT) T.hZ jy rfl rfl fun _ _ _ _ _ _ _ d=>sA (FA (JA (Jz T b) d (cA (bG (Nc:=["way"]) (MC (JA (RJ T b) d (cA (aA 0) jA))) (fun _ _ _ _=>IB 0 (show(["way"]:Ms Str).Nodup by decide +kernel)) (fun _ _ _ _=>tE) (fun _ _ _ _=>vA HH dA (aA 0))) jA)))
theorem jq:BC P w K a b 2 2 "chained_sets" XN:=
 mB (k:=1) (body:=lR) T.ia CB rfl rfl fun _ _ _ _ _ _ _ d=>pA (IA 2 CB.nd (JA (RJ T b) d (cA (aA 1) jA))) (pA (IA 3 CB.nd dA) (pA (yD lu rfl (MC (JA (RJ T b) d (cA (aA 0) jA))) (IB 4 CB.nd) (sA (yD lu rfl (MC (aA 2)) (IB 5 CB.nd) (sA (IA 3 CB.nd (vA KU (aA 3) (kA (kA (rK rfl T.mh) (aA 4)) (aA 5)))))))) (sA (FA (aA 3)))))
theorem yx:BC P w K a b 1 2 "wide_row" oO:=
 mB (k:=0) (body:=zS) T.ib dz rfl rfl fun _ _ _ _ _ _ _ d=>sA (FA (vA NZ (vA W0 (PU (rK rfl T.eP) (aA 1)) (NE (cA (rK rfl T.mi) jA))) (PU (rK rfl T.eP) (vA HH (vA HH (aA 0) (aA 1)) dA))))
theorem Uk:BC P w K a b 2 1 "wide" pP:=
 mB (k:=1) (body:=HU) T.ie yc rfl rfl fun _ _ _ _ _ _ _ d=>sA (FA (vY (Nc:=["i", "count"]) (BG rfl T.ar (aA 0)) (fun _ _ _ _=>IB 0 (show(["i", "count"]:Ms Str).Nodup by decide +kernel)) (fun _ _ _ _=>tE) (fun _ _ _ _=>JA (yx T b) d (cA (aA 1) (cA (aA 0) jA)))))
theorem jO:BC P w K a b 1 1 "pairs_of" fI:=
 mB (k:=0) (body:=yS) T.ii ND rfl rfl fun _ _ _ _ _ _ _ d=>pA (IA 1 ND.nd (nG jA)) (pA (yD lu rfl (BG rfl T.ar (aA 0)) (IB 2 ND.nd) (sA (yD lu rfl (Lw rfl T.ar (vA rC (aA 2) dA) (aA 0)) (IB 3 ND.nd) (sA (bE (YE (aA 1) (sB (cA (aA 2) (cA (aA 3) jA))))))))) (sA (FA (aA 1))))
theorem iO:BC P w K a b 3 4 "narrowed" dJ:=
 mB (k:=2) (body:=xS) T.ij VF rfl rfl fun _ _ _ _ _ _ _ d=>pA (fO (Nc:=["row"]) 4 VF.nd (MC (aA 0)) (fun _ _ _ _=>IB 0 (show(["row"]:Ms Str).Nodup by decide +kernel)) (fun _ _ _ _=>tE) (fun _ _ _ _=>KL rfl T.cv (aA 0))) (pA (cP (vA mK (kA (kA (aA 0) (aA 1)) (aA 3)) (aA 2)) (kA (aA 4) (aA 1)) (aA 3)) (pA (cP (JA (Kz T b) d (cA (kA (kA (aA 4) (aA 1)) (aA 3)) jA)) (kA (aA 4) (aA 3)) (aA 1)) (sA (FA (aA 4)))))
theorem IW:BC P w K a b 3 2 "left_by" PL:=
 mB (k:=2) (body:=NS) T.ik lF rfl rfl fun _ _ _ _ _ _ _ d=>pA (IA 2 lF.nd (kA (kA (aA 0) (kA (aA 1) dA)) (kA (aA 1) dA))) (pA (IA 3 lF.nd (kA (kA (aA 0) (kA (aA 1) dA)) (kA (aA 1) dA))) (sA (FA (vA mK (kA (kA (aA 0) (kA (aA 1) dA)) (kA (aA 1) dA)) (JA (jq T b) d (cA (aA 2) (cA (aA 3) jA)))))))
theorem KW:BC P w K a b 4 2 "narrows" IL:=
 mB (k:=3) (body:=QS) T.im Vz rfl rfl fun _ _ _ _ _ _ _ d=>sA (FA (fH (GH d.units) (JA (IW T b) d (cA (aA 0) (cA (aA 1) jA))) (kA (kA (aA 0) (kA (aA 1) dA)) (kA (aA 1) dA))))
theorem JW:BC P w K a b 4 2 "made_of" QL:=
 mB (k:=3) (body:=OS) T.io Uz rfl rfl fun _ _ _ _ _ _ _ d=>sA (FA (JA (iO T b) d (cA (aA 0) (cA (kA (aA 1) dA) (cA (JA (IW T b) d (cA (aA 0) (cA (aA 1) jA))) (cA (kA (aA 1) dA) jA))))))
theorem gO:BC P w K a b 1 1 "is_empty" xG:=
 mB (k:=0) (body:=vS) T.ip Yx rfl rfl fun _ _ _ _ _ _ _ d=>sA (FA (F7 rfl rfl T.l8 (bG (Nc:=["row"]) (MC (aA 0)) (fun _ _ _ _=>IB 0 (show(["row"]:Ms Str).Nodup by decide +kernel)) (fun _ _ _ _=>tE) (fun _ _ _ _=>fH C3 dA (aA 0)))))
theorem xq:BC P w K a b 1 2 "threes_along" ZN:=
 mB (k:=0) (body:=oR) T.iq YC rfl rfl fun _ _ _ _ _ _ _ d=>pA (IA 2 YC.nd (nG jA)) (pA (yD lu rfl (BG rfl T.ar (aA 1)) (IB 3 YC.nd) (sA (JB (rB Vg (aA 3) (aA 0)) (pA (bE (YE (aA 2) (sB (cA (kA (aA 0) dA) (cA (kA (aA 0) dA) (cA (aA 3) jA)))))) (sA (bE (YE (aA 2) (sB (cA (kA (aA 0) dA) (cA (kA (aA 0) dA) (cA (aA 3) jA)))))))) KB))) (sA (FA (aA 2))))
theorem oW:BC P w K a b 5 2 "rounded_from" SI:=
 mB (k:=4) (body:=VN) T.ir kB rfl rfl fun _ _ _ _ _ _ _ d=>pA (IA 2 kB.nd (nG jA)) (pA (JB (HG (JA (gO T b) d (cA (aA 0) jA))) (sA (FA (sB (cA AF (cA (aA 2) jA))))) KB) (pA (fO (Nc:=["row"]) 3 kB.nd (MC (aA 0)) (fun _ _ _ _=>IB 0 (show(["row"]:Ms Str).Nodup by decide +kernel)) (fun _ _ _ _=>tE) (fun _ _ _ _=>KL rfl T.cv (aA 0))) (pA (IA 4 kB.nd (KL rfl T.cv (aA 1))) (pA (YY lu (rB (HM d.units) (aA 4) (NE jA)) (pA (IA 5 kB.nd (Kh (aA 4) dA)) (sA (yD lu rfl (MC (JA (xq T b) d (cA (aA 5) (cA (LD rfl T.Ys (aA 0)) jA)))) (IB 6 kB.nd) (sA (JB (HG (JA (KW T b) d (cA (aA 3) (cA (aA 6) jA)))) (pA (IA 3 kB.nd (JA (JW T b) d (cA (aA 3) (cA (aA 6) jA)))) (pA (bE (YE (aA 2) (aA 6))) (pA (JB (rB (uK d.units) (kA (kA (aA 3) (kA (aA 6) dA)) (kA (aA 6) dA)) dA) (sA (FA (sB (cA AF (cA (aA 2) jA))))) KB) (sA (bE (YE (aA 4) (sB (cA (kA (aA 6) dA) (cA (kA (aA 6) dA) jA))))))))) KB)))))) (sA (FA (sB (cA (aA 3) (cA (aA 2) jA)))))))))
theorem Ox:BC P w K a b 6 1 "rounded" TJ:=
 mB (k:=5) (body:=US) T.i3 Wz rfl rfl fun _ _ _ _ _ _ _ d=>sA (FA (JA (oW T b) d (cA (aA 0) (cA (JA (jO T b) d (cA (LD rfl T.Ys (aA 0)) jA)) jA))))
theorem EW:BC P w K a b 4 2 "first_net" PJ:=
 mB (k:=3) (body:=QR) T.i4 jD rfl rfl fun _ _ _ _ _ _ _ d=>pA (IA 2 jD.nd (JA (Uk T b) d (cA (aA 0) jA))) (pA (yD lu rfl (MC (aA 1)) (IB 3 jD.nd) (sA (JB (rB (OE d.units) (kA (aA 3) dA) NB) (sA (IA 2 jD.nd (JA (iO T b) d (cA (aA 2) (cA (kA (aA 3) dA) (cA (kA (aA 3) dA) (cA (kA (aA 3) dA) jA))))))) KB))) (sA (FA (aA 2))))
theorem qW:BC P w K a b 1 1 "lengths_in" xL:=
 mB (k:=0) (body:=yR) T.i5 Wq rfl rfl fun _ _ _ _ _ _ _ d=>sA (FA (bG (Nc:=["fact"]) (MC (aA 0)) (fun _ _ _ _=>IB 0 (show(["fact"]:Ms Str).Nodup by decide +kernel)) (fun _ _ _ _=>aV (rB (OE d.units) (kA (aA 0) dA) NB)) (fun _ _ _ _=>sB (cA (kA (aA 0) dA) (cA (kA (aA 0) dA) (cA (kA (aA 0) dA) jA))))))
theorem FW:BC P w K a b 1 1 "groups_in" QJ:=
 mB (k:=0) (body:=SR) T.ja wz rfl rfl fun _ _ _ _ _ _ _ d=>sA (FA (bG (Nc:=["fact"]) (MC (aA 0)) (fun _ _ _ _=>IB 0 (show(["fact"]:Ms Str).Nodup by decide +kernel)) (fun _ _ _ _=>aV (rB (OE d.units) (kA (aA 0) dA) NB)) (fun _ _ _ _=>kA (aA 0) dA)))
theorem Xj:BC P w K a b 4 3 "only_member" aO:=
 mB (k:=3) (body:=YQ) T.zev yC rfl rfl fun _ _ _ _ _ _ _ d=>pA (yD lu rfl (Kr rfl T.md (aA 1)) (RU 3 4 rfl yC.nd) (pA (IA 5 yC.nd (XM (rB (OE d.units) (aA 3) (aA 2)) (kA (aA 4) dA) (vA mK (rK rfl T.eP) (G7 (kA (aA 4) dA))))) (sA (IA 0 yC.nd (JA (iO T b) d (cA (aA 0) (cA (kA (aA 4) dA) (cA (aA 5) (cA (kA (aA 4) dA) jA))))))))) (sA (FA (aA 0)))
theorem Nj:BC P w K a b 2 1 "first_loose_pair" mL:=
 mB (k:=1) (body:=HN) T.jb cD rfl rfl fun _ _ _ _ _ _ _ d=>pA (yD lu rfl (MC (JA (jO T b) d (cA (LD rfl T.Ys (aA 0)) jA))) (IB 1 cD.nd) (sA (JB (rB RM (LD rfl T.Ys (JA (RJ T b) d (cA (kA (kA (aA 0) (kA (aA 1) dA)) (kA (aA 1) dA)) jA))) dA) (sA (FA (aA 1))) KB))) (sA (FA AF))
theorem yW:BC P w K a b 5 2 "split_of" OF:=
 mB (k:=4) (body:=mO) T.jn uC rfl rfl fun _ _ _ _ _ _ _ d=>pA (JB (rB (HM d.units) (aA 1) (NE jA)) (pA (IA 2 uC.nd (kA (aA 1) dA)) (pA (LS (Nc:=["chosen", "net", "group"]) 3 uC.nd (BG rfl T.ar (LD rfl T.Ys (aA 2))) (fun _ _ _ _=>IB 0 (show(["chosen", "net", "group"]:Ms Str).Nodup by decide +kernel)) (fun _ _ _ _=>tE) (fun _ _ _ _=>JA (Xj T b) d (cA (aA 1) (cA (aA 2) (cA (aA 0) jA))))) (sA (FA (sB (cA NB (cA (sB jA) (cA (aA 3) (cA (bG (Nc:=["member"]) (MC (aA 2)) (fun _ _ _ _=>IB 0 (show(["member"]:Ms Str).Nodup by decide +kernel)) (fun _ _ _ _=>tE) (fun _ _ _ _=>sB (cA (kA (aA 0) dA) (cA (kA (aA 0) dA) jA)))) jA))))))))) KB) (pA (IA 4 uC.nd (JA (Nj T b) d (cA (aA 0) jA))) (pA (JB (rB vK (aA 4) AF) (sA (FA AF)) KB) (pA (IA 5 uC.nd (kA (kA (aA 0) (kA (aA 4) dA)) (kA (aA 4) dA))) (pA (LS (Nc:=["way", "net", "pair"]) 3 uC.nd (MC (JA (RJ T b) d (cA (aA 5) jA))) (fun _ _ _ _=>IB 0 (show(["way", "net", "pair"]:Ms Str).Nodup by decide +kernel)) (fun _ _ _ _=>tE) (fun _ _ _ _=>JA (iO T b) d (cA (aA 1) (cA (kA (aA 2) dA) (cA (vA wK dA (aA 0)) (cA (kA (aA 2) dA) jA)))))) (sA (FA (sB (cA NB (cA (aA 4) (cA (aA 3) (cA (NE (cA (aA 4) jA)) jA)))))))))))
theorem Qw:BC P w K a b 1 1 "grain" aM:=
 mB (k:=0) (body:=gU) T.jp Zh rfl rfl fun _ _ _ _ _ _ _ d=>sA (FA (vA rC (vA xE dA (aA 0)) dA))
theorem Qj:BC P w K a b 1 2 "length_bounds" qL:=
 mB (k:=0) (body:=VQ) T.jv aE rfl rfl fun _ _ _ _ _ _ _ d=>pA (IA 2 aE.nd (vA xE dA (kA (aA 0) dA))) (sA (FA (nG (cA (sB (cA (aA 2) (cA (vA rC (aA 2) dA) (cA (vA xE (gH (kA (aA 0) dA)) (aA 1)) jA)))) (cA (sB (cA (vA rC (aA 2) dA) (cA (aA 2) (cA (vA xE (kA (aA 0) dA) (aA 1)) jA)))) jA)))))
theorem mW:BC P w K a b 1 4 "point_bounds" QI:=
 mB (k:=0) (body:=mR) T.j0 pE rfl rfl fun _ _ _ _ _ _ _ d=>pA (IA 4 pE.nd (nG jA)) (pA (JB (rB D3 (XZ rfl rfl T.eL (aA 3)) (aA 2)) (sA (bE (YE (aA 4) (sB (cA (aA 0) (cA (aA 1) (cA (XM (rB yJ (XZ rfl rfl T.eL (aA 3)) (aA 2)) (gH dA) dA) jA))))))) KB) (pA (JB (rB CV (YZ rfl rfl T.dv (aA 3)) (aA 2)) (sA (bE (YE (aA 4) (sB (cA (aA 1) (cA (aA 0) (cA (XM (rB RM (YZ rfl rfl T.dv (aA 3)) (aA 2)) (gH dA) dA) jA))))))) KB) (sA (FA (aA 4)))))
theorem Bq:BC P w K a b 2 3 "set_bounds" SJ:=
 mB (k:=1) (body:=zR) T.j3 OC rfl rfl fun _ _ _ _ _ _ _ d=>pA (IA 3 OC.nd (nG jA)) (pA (yD lu rfl (BG rfl T.ar dA) (IB 4 OC.nd) (pA (LS (Nc:=["way", "side"]) 5 OC.nd (MC (JA (RJ T b) d (cA (aA 1) jA))) (fun _ _ _ _=>IB 0 (show(["way", "side"]:Ms Str).Nodup by decide +kernel)) (fun _ _ _ _=>tE) (fun _ _ _ _=>kA (JA (Tw T b) d (cA (aA 0) jA)) (aA 1))) (pA (bE (yO (aA 3) (JA (mW T b) d (cA (vA rC (vA xE dA (aA 0)) (aA 4)) (cA (vA xE dA (aA 2)) (cA dA (cA (aA 5) jA))))))) (sA (bE (yO (aA 3) (JA (mW T b) d (cA (vA rC (vA xE dA (aA 0)) (aA 4)) (cA (vA rC (vA xE dA (aA 2)) dA) (cA dA (cA (aA 5) jA))))))))))) (sA (FA (aA 3))))
theorem MW:BC P w K a b 3 2 "bounds" jI:=
 mB (k:=2) (body:=ST) T.ka SE rfl rfl fun _ _ _ _ _ _ _ d=>pA (fO (Nc:=["i"]) 2 SE.nd (BG rfl T.ar (LD rfl T.Ys (aA 0))) (fun _ _ _ _=>IB 0 (show(["i"]:Ms Str).Nodup by decide +kernel)) (fun _ _ _ _=>tE) (fun _ _ _ _=>sB (cA (vA xE dA (aA 0)) (cA (vA rC (vA xE dA (aA 0)) dA) (cA (gH dA) jA))))) (pA (yD lu rfl (MC (aA 1)) (IB 3 SE.nd) (sA (bE (yO (aA 2) (JA (Qj T b) d (cA (aA 3) (cA (JA (Qw T b) d (cA (LD rfl T.Ys (aA 0)) jA)) jA))))))) (pA (yD lu rfl (MC (JA (jO T b) d (cA (LD rfl T.Ys (aA 0)) jA))) (IB 4 SE.nd) (sA (bE (yO (aA 2) (JA (Bq T b) d (cA (kA (aA 4) dA) (cA (kA (kA (aA 0) (kA (aA 4) dA)) (kA (aA 4) dA)) (cA (kA (aA 4) dA) jA)))))))) (sA (FA (aA 2)))))
theorem kW:BC P w K a b 1 1 "least_bounds" dI:=
 mB (k:=0) (body:=UN) T.ke mC rfl rfl fun _ _ _ _ _ _ _ d=>pA (IA 1 mC.nd yd) (pA (yD lu rfl (MC (aA 0)) (IB 2 mC.nd) (pA (IA 3 mC.nd (K7 (cA (kA (aA 2) dA) (cA (kA (aA 2) dA) jA)))) (sA (Eb d.units (Gd rfl rfl T.dv (Jh d.units (aA 1) (aA 3) (kA (aA 2) dA)) (kA (aA 2) dA)) (aA 1) (aA 3))))) (sA (FA (aA 1))))
theorem Rw:BC P w K a b 1 3 "moved" lK:=
 mB (k:=0) (body:=hU) T.kg xF rfl rfl fun _ _ _ _ _ _ _ d=>pA (IA 3 xF.nd AF) (pA (yD lu rfl (Bg (aA 0)) (RU 4 5 rfl xF.nd) (sA (JB (rB RM (kA (aA 1) (kA (aA 4) dA)) (vA rC (kA (aA 1) (kA (aA 4) dA)) (aA 5))) (pA (cP (vA rC (kA (aA 1) (kA (aA 4) dA)) (aA 5)) (aA 1) (kA (aA 4) dA)) (pA (cP (kA (aA 4) dA) (aA 2) (kA (aA 4) dA)) (sA (IA 3 xF.nd (kA (aA 4) dA))))) KB))) (sA (FA (aA 3))))
theorem Jq:BC P w K a b 1 2 "ring_behind" bO:=
 mB (k:=0) (body:=DR) T.ki zC rfl rfl fun _ _ _ _ _ _ _ d=>pA (yD lu rfl (BG rfl T.ar (LD rfl T.Ys (aA 1))) (IB 2 zC.nd) (sA (IA 0 zC.nd (kA (aA 1) (aA 0))))) (pA (IA 3 zC.nd (nG (cA (aA 0) (cA (kA (aA 1) (aA 0)) jA)))) (pA (YY lu (rB (GH d.units) (kA (aA 3) (gH dA)) (aA 0)) (sA (bE (YE (aA 3) (kA (aA 1) (kA (aA 3) (gH dA))))))) (sA (FA (aA 3)))))
theorem Sw:BC P w K a b 2 2 "timed" aG:=
 mB (k:=1) (body:=jK) T.km wD rfl rfl fun _ _ _ _ _ _ _ d=>pA (IA 2 wD.nd (JA (kW T b) d (cA (aA 1) jA))) (pA (IA 3 wD.nd (CZ dA (aA 0))) (pA (IA 4 wD.nd (CZ AF (aA 0))) (pA (yD lu rfl (BG rfl T.ar (vA rC (aA 0) dA)) (IB 5 wD.nd) (pA (IA 6 wD.nd (JA (Rw T b) d (cA (aA 2) (cA (aA 3) (cA (aA 4) jA))))) (sA (JB (rB vK (aA 6) AF) (pA (IA 7 wD.nd (Jd rfl rfl T.dv (aA 3) dA)) (sA (FA (sB (cA NB (cA (bG (Nc:=["time", "first"]) (MC (aA 3)) (fun _ _ _ _=>IB 0 (show(["time", "first"]:Ms Str).Nodup by decide +kernel)) (fun _ _ _ _=>tE) (fun _ _ _ _=>vA HH (aA 0) (aA 1))) jA)))))) KB)))) (sA (FA (sB (cA NB (cA (JA (Jq T b) d (cA (aA 6) (cA (aA 4) jA))) jA))))))))
theorem qx:BC P w K a b 1 2 "is_three" DL:=
 mB (k:=0) (body:=lO) T.ko Zx rfl rfl fun _ _ _ _ _ _ _ d=>sA (FA (NU (fH (OE d.units) (Gz rfl rfl T.Ys rfl T.gu (aA 0)) dA) (OU (VZ rfl rfl T.gi (bG (Nc:=["stretch", "count"]) (V7 (aA 0)) (fun _ _ _ _=>IB 0 (show(["stretch", "count"]:Ms Str).Nodup by decide +kernel)) (fun _ _ _ _=>tE) (fun _ _ _ _=>Ih D3 yJ dA (aA 0) (aA 1)))))))
theorem gq:BC P w K a b 5 2 "behind_steps" NJ:=
 mB (k:=4) (body:=TN) T.kq XC rfl rfl fun _ _ _ _ _ _ _ d=>pA (yD lu rfl (MC (aA 1)) (IB 2 XC.nd) (pA (JB (WM.tm (sI (HG (JA (gO T b) d (cA (aA 0) jA))) (sI (yK (HG (JA (qx T b) d (cA (aA 2) (cA (LD rfl T.Ys (aA 0)) jA))))) (KM (yK (HG (JA (KW T b) d (cA (aA 0) (cA (aA 2) jA))))))))) (sA (FA AF)) KB) (sA (IA 0 XC.nd (JA (JW T b) d (cA (aA 0) (cA (aA 2) jA))))))) (sA (FA (aA 0)))
theorem Nx:BC P w K a b 2 2 "is_ring" bJ:=
 mB (k:=1) (body:=vO) T.kr kF rfl rfl fun _ _ _ _ _ _ _ d=>pA (JB (WM.tm (sI (rB yJ (LD rfl T.Ys (aA 0)) dA) (sI (rB (GH d.units) (kA (aA 0) dA) (kA (aA 0) (gH dA))) (KM (rB (GH d.units) (Dw rfl rfl T.Ys rfl T.gu (aA 0)) (vA HH (LD rfl T.Ys (aA 0)) dA)))))) (sA (FA EF)) KB) (pA (IA 2 kF.nd (JA (kW T b) d (cA (aA 1) jA))) (pA (IA 3 kF.nd (Hz rfl rfl T.cv rfl T.gx (aA 0) (UL (aA 0) (lI dA) kP))) (pA (JB (yK (HG (VZ rfl rfl T.gi (bG (Nc:=["pair", "least"]) (MC (aA 3)) (fun _ _ _ _=>IB 0 (show(["pair", "least"]:Ms Str).Nodup by decide +kernel)) (fun _ _ _ _=>tE) (fun _ _ _ _=>J7 d.units (aA 0) (aA 1)))))) (sA (FA EF)) KB) (sA (FA (fH yJ (ZZ rfl rfl T.gv (bG (Nc:=["pair", "least"]) (MC (aA 3)) (fun _ _ _ _=>IB 0 (show(["pair", "least"]:Ms Str).Nodup by decide +kernel)) (fun _ _ _ _=>tE) (fun _ _ _ _=>Kd d.units (aA 1) (aA 0)))) dA))))))
theorem jx {R:zB} {k:Nat} (f:6<=k) (e:BC P w K a b k 4 "shows" R):BC P w K a b (k+1) 4 "all_show" (cI R):=
 by unfold cI;exact mB (k:=k) (body:=EL R) T.kt UF rfl rfl fun _ _ _ _ _ _ _ d=>pA (JB (rB (GH d.units) (LD rfl T.Ys (aA 0)) (LD rfl T.Ys (aA 3))) (sA (FA EF)) KB) (pA (yD lu rfl (W7 rfl T.gx (aA 0) (aA 3)) (RU 4 5 rfl UF.nd) (sA (JB (yK (HG (pF e d nofun rfl (cA (aA 4) (cA (aA 1) (cA (aA 2) (cA (aA 5) jA))))))) (sA (FA EF)) KB))) (sA (FA EF)))
theorem Px {R:zB} {k:Nat} (e:6<=k) (f:BC P w K a b k 4 "shows" R):BC P w K a b (k+2) 4 "shows" (UB 4 6 (oK R)):=
 mB (k:=k+1) (body:=oK R) T.gd vG rfl rfl fun _ _ _ _ _ _ _ d=>pA (IA 4 vG.nd (pF (gq T b) d nofun rfl (cA (aA 0) (cA (kA (aA 3) dA) jA)))) (pA (JB (rB vK (aA 4) AF) (sA (FA EF)) KB) (pA (JB (rB (uK d.units) (kA (aA 3) dA) NB) (sA (FA (pF (gO T b) d nofun rfl (cA (aA 4) jA)))) KB) (pA (JB (WM.tm (sI (HG (pF (gO T b) d nofun rfl (cA (aA 4) jA))) (KM (rB (HM d.units) (kA (pF (Ox T b) d nofun rfl (cA (aA 4) jA)) dA) (NE jA))))) (sA (FA EF)) KB) (pA (JB (rB (uK d.units) (kA (aA 3) dA) NB) (sA (FA (pF (Nx T b) d nofun rfl (cA (kA (aA 3) dA) (cA (pF (MW T b) d nofun rfl (cA (aA 4) (cA (aA 2) jA))) jA))))) KB) (pA (IA 5 vG.nd (pF (yW T b) d nofun rfl (cA (aA 4) (cA (aA 1) jA)))) (pA (JB (WM.tm (sI (rB vK (aA 5) AF) (sI (rB (HM d.units) (kA (aA 5) dA) (kA (aA 3) dA)) (KM (rB (HM d.units) (kA (aA 5) dA) (Ew (aA 3) (lI dA) (lI (gH dA)))))))) (sA (FA EF)) KB) (sA (FA (pF (jx T b e f) d nofun rfl (cA (kA (aA 5) dA) (cA (UL (aA 1) (lI dA) kP) (cA (aA 2) (cA (kA (aA 3) (gH dA)) jA)))))))))))))
theorem DX:∀n:Nat,BC P w K a b (6+2*n) 4 "shows" (kI n)
 | 0=>Nb T.gd
 | n+1=>Px T b (Ku _ _) (DX n)
theorem Mx:BC P w K a b 31 3 "follows" wO:=
 mB (k:=30) (body:=MS) T.ku Tz rfl rfl fun _ _ _ _ _ _ _ d=>sA (FA (JA (DX T b 12) d (cA (JA (EW T b) d (cA (aA 0) (cA (aA 1) jA))) (cA (JA (FW T b) d (cA (aA 1) jA)) (cA (JA (qW T b) d (cA (aA 1) jA)) (cA (aA 2) jA))))))
theorem Ux:gQ P w K a b 1 3 "Search" rL:=
 by unfold rL;exact Yr (k:=0) (body:=WQ) T.kv Uj rfl rfl fun _ _ _ _ _ _ _ d=>pA (tP T.gg (aA 0) (aA 1)) (pA (tP T.gh (aA 0) (aA 2)) (sA (tP T.cz (aA 0) dA)))
theorem vq:BC P w K a b 1 1 "stretches_at" YN:=
 mB (k:=0) (body:=nR) T.kx Hq rfl rfl fun _ _ _ _ _ _ _ d=>sA (FA (bG (Nc:=["start", "times"]) (Mw (c:=2) rfl T.ar dA (LD rfl T.Ys (aA 0)) dA) (fun _ _ _ _=>IB 0 (show(["start", "times"]:Ms Str).Nodup by decide +kernel)) (fun _ _ _ _=>tE) (fun _ _ _ _=>sB (cA (kA (aA 1) (aA 0)) (cA (kA (aA 1) (vA rC (aA 0) dA)) jA)))))
theorem Mj {R:zB} {k:Nat} (f:5<=k) (e:PH P w K a b k 4 "Search" "look" R):PH P w K a b (k+1) 4 "Search" "look_at_branches" (bI R):=
 by unfold bI;exact LZ (k:=k) (body:=lL R) T.kw YA rfl rfl fun _ _ _ _ _ _ _ d=>pA (IA 4 YA.nd (nG jA)) (pA (yD lu rfl (MC (kA (aA 1) dA)) (IB 5 YA.nd) (pA (IA 6 YA.nd (pU e d nofun (aA 0) (cA (aA 5) (cA (kA (aA 1) dA) (cA (aA 3) jA))))) (pA (JB (rB (GH d.units) (kA (aA 6) dA) NB) (sA (FA (aA 6))) KB) (sA (bE (YE (aA 4) (kA (aA 6) dA))))))) (sA (FA (sB (cA NB (cA (vA OZ (vA OZ (sB (cA (kA (aA 1) dA) (cA (aA 2) jA))) (kA (aA 1) dA)) (sB (cA (aA 4) jA))) jA))))))
theorem Tj {R:zB} {k:Nat} (e:5<=k) (f:PH P w K a b k 4 "Search" "look" R):PH P w K a b (k+2) 4 "Search" "look" (UB 4 9 (OJ R)):=
 LZ (k:=k+1) (body:=OJ R) T.gf HB rfl rfl fun _ _ _ _ _ _ _ d=>pA (IA 4 HB.nd (pF (oW T b) d nofun rfl (cA (aA 1) (cA (aA 2) jA)))) (pA (IA 5 HB.nd (kA (aA 4) dA)) (pA (IA 6 HB.nd (kA (aA 4) dA)) (pA (JB (rB vK (aA 5) AF) (sA (FA (sB (cA NB (cA (sB (cA NB (cA (aA 6) jA))) jA))))) KB) (pA (IA 7 HB.nd (pF (Sw T b) d nofun rfl (cA (vA xE dA (LD rfl T.Ys (aA 5))) (cA (pF (MW T b) d nofun rfl (cA (aA 5) (cA (uM T.gg (aA 0)) jA))) jA)))) (pA (JB (rB (OE d.units) (kA (aA 7) dA) NB) (sA (FA (sB (cA NB (cA (sB (cA NB (cA (aA 6) (cA (kA (aA 7) dA) jA)))) jA))))) KB) (pA (IA 8 HB.nd (pF (yW T b) d nofun rfl (cA (aA 5) (cA (aA 3) jA)))) (pA (JB (rB vK (aA 8) AF) (sA (FA (sB (cA NB (cA (pF (vq T b) d nofun rfl (cA (kA (aA 7) dA) jA)) jA))))) KB) (pA (JB (rB CV (uM T.cz (aA 0)) (uM T.gh (aA 0))) (sA (FA (sB (cA NB (cA AF jA))))) KB) (pA (tP T.cz (aA 0) (vA rC (uM T.cz (aA 0)) dA)) (sA (FA (pU (Mj T b e f) d nofun (aA 0) (cA (aA 8) (cA (aA 6) (cA (UL (aA 3) (lI dA) kP) jA)))))))))))))))
theorem pW:∀n:Nat,PH P w K a b (5+2*n) 4 "Search" "look" (sE n)
 | 0=>vf T.gf
 | n+1=>Tj T b (Ku _ _) (pW n)
theorem zx {dds:Ms Dt} (D:jN K a "planned" EO ["count", "facts", "most"] dds):gN P w K a b 30 3 "planned" XI dds:=
 by unfold XI;exact Kf (k:=29) (body:=SS) D mF rfl rfl fun _ _ _ _ _ _ _ d=>pA (IA 3 mF.nd (Cd (Ux T b) d (by decide) rfl (cA (JA (qW T b) d (cA (aA 1) jA)) (cA (aA 2) jA)))) (pA (IA 4 mF.nd (pU (pW T b 12) d (by decide) (aA 3) (cA (JA (EW T b) d (cA (aA 0) (cA (aA 1) jA))) (cA (JA (jO T b) d (cA (aA 0) jA)) (cA (JA (FW T b) d (cA (aA 1) jA)) jA))))) (sA (FA (sB (cA (kA (aA 4) dA) (cA (kA (aA 4) dA) (cA (uM T.cz (aA 3)) jA)))))))
theorem Cq:gN P w K a b 30 3 "planned" XI []:=zx T b T.ky
theorem CL:BC P w K a b 1 2 "_law_cell" VG:=
 mB (k:=0) (body:=KR) T.kz qz rfl rfl fun _ _ _ _ _ _ _ d=>pA (JB (rB yJ (aA 1) (LD rfl T.Ys (aA 0))) (sA (FA (kA (aA 0) (aA 1)))) KB) (sA (FA dA))
theorem SN:BC P w K a b 1 3 "_law_mix" cJ:=
 mB (k:=0) (body:=uS) T.la Xx rfl rfl fun _ _ _ _ _ _ _ d=>sA (FA (vA xD (vA xE (vA rC (vA xD (aA 0) dA) dA) (aA 1)) (aA 2)))
theorem DW:BC P w K a b 1 2 "_law_zone" wH:=
 mB (k:=0) (body:=VI) T.lc uz rfl rfl fun _ _ _ _ _ _ _ d=>pA (JB (rB yJ (aA 0) (kA (aA 1) dA)) (sA (FA dA)) KB) (pA (JB (rB (OE d.units) (aA 0) (kA (aA 1) dA)) (sA (FA dA)) KB) (sA (FA (vA rC (vA rC dA (BZ rfl T.gm (fH CV (aA 0) (kA (aA 1) dA)))) (BZ rfl T.gm (fH RM (aA 0) (kA (aA 1) dA)))))))
theorem aq:BC P w K a b 2 2 "_law_between" WN:=
 mB (k:=1) (body:=kR) T.ld Gq rfl rfl fun _ _ _ _ _ _ _ d=>sA (FA (vA rC (kA (NE (cA dA (cA dA (cA dA (cA dA (cA dA jA)))))) (JA (DW T b) d (cA (kA (aA 0) dA) (cA (aA 1) jA)))) (JA (DW T b) d (cA (kA (aA 0) dA) (cA (aA 1) jA)))))
theorem Sq:BC P w K a b 1 1 "_law_mask" HL:=
 mB (k:=0) (body:=MR) T.lf gD rfl rfl fun _ _ _ _ _ _ _ d=>pA (IA 1 gD.nd (vA xD (aA 0) dA)) (pA (IA 2 gD.nd (vA xD (vA FG (aA 0) dA) dA)) (pA (IA 3 gD.nd (vA xD (vA FG (aA 0) dA) dA)) (pA (JB (rB (OE d.units) (aA 3) dA) (sA (FA (vA wK dA (vA xD (aA 1) dA)))) KB) (pA (JB (rB (OE d.units) (aA 3) dA) (sA (FA (vA KU (vA wK dA (vA xD (aA 1) dA)) (vA wK dA (vA xD (aA 2) dA))))) KB) (pA (JB (rB (OE d.units) (aA 3) dA) (sA (FA (vA mK (aA 1) (aA 2)))) KB) (sA (FA (aA 1))))))))
theorem FR:BC P w K a b 2 2 "_law_ways" gI:=
 mB (k:=1) (body:=PR) T.lh iD rfl rfl fun _ _ _ _ _ _ _ d=>pA (IA 2 iD.nd (JA (SN T b) d (cA (aA 0) (cA dA (cA dA jA))))) (pA (IA 3 iD.nd (vA xD (aA 2) (aA 1))) (pA (IA 4 iD.nd (vA xD (vA rC (vA rC (aA 3) dA) (vA xD (vA FG (aA 2) dA) (vA HH (aA 1) dA))) (aA 1))) (sA (FA (sB (cA NB (cA (aA 3) (cA (JA (Sq T b) d (cA (JA (SN T b) d (cA (aA 0) (cA dA (cA dA jA)))) jA)) (cA (aA 4) jA)))))))))
theorem Oj:BC P w K a b 2 2 "_law_stretches" nL:=
 mB (k:=1) (body:=QQ) T.li iB rfl rfl fun _ _ _ _ _ _ _ d=>pA (IA 2 iB.nd (kA (NE (cA dA (cA dA (cA (vA rC (vA f7 dA dA) dA) jA)))) (vA xD (vA FG (JA (CL T b) d (cA (aA 0) (cA dA jA))) dA) dA))) (pA (IA 3 iB.nd (nG jA)) (pA (yD lu rfl (BG rfl T.ar (aA 1)) (IB 4 iB.nd) (pA (IA 5 iB.nd (JA (SN T b) d (cA (vA rC (JA (CL T b) d (cA (aA 0) (cA (vA rC dA (aA 4)) jA))) (vA xE (aA 4) (aA 4))) (cA dA (cA dA jA))))) (pA (IA 6 iB.nd (vA xE (vA HH (vA xD (aA 5) dA) dA) (aA 2))) (sA (bE (YE (aA 3) (sB (cA (aA 6) (cA (vA rC (aA 6) (vA xE (vA rC dA (vA xD (vA FG (aA 5) dA) dA)) (aA 2))) jA))))))))) (sA (FA (aA 3)))))
theorem GR:BC P w K a b 3 3 "_law_with" yG:=
 mB (k:=2) (body:=cO) T.lj wF rfl rfl fun _ _ _ _ _ _ _ d=>pA (IA 3 wF.nd (vA wK dA (JA (aq T b) d (cA (kA (aA 1) (kA (aA 0) dA)) (cA (kA (aA 1) (kA (aA 0) dA)) jA))))) (pA (JB (HG (aA 2)) (sA (FA (sB (cA NB (cA (kA (aA 0) dA) (cA (vA KU (kA (aA 0) dA) (aA 3)) (cA (kA (aA 0) dA) jA))))))) KB) (sA (FA (sB (cA NB (cA (kA (aA 0) dA) (cA (vA i7 (kA (aA 0) dA) (vA mK (kA (aA 0) dA) (aA 3))) (cA (kA (aA 0) dA) jA))))))))
theorem zq:BC P w K a b 4 3 "_law_group" vL:=
 mB (k:=3) (body:=xR) T.ln iC rfl rfl fun _ _ _ _ _ _ _ d=>pA (IA 3 iC.nd (vA rC dA (vA xD (vA FG (aA 1) dA) dA))) (pA (IA 4 iC.nd (nG jA)) (pA (yD lu rfl (BG rfl T.ar (aA 3)) (IB 5 iC.nd) (pA (IA 6 iC.nd (JA (FR T b) d (cA (vA rC (aA 0) (vA xE (vA xE dA (aA 5)) (aA 5))) (cA (LD rfl T.Ys (aA 2)) jA)))) (sA (bE (YE (aA 4) (JA (GR T b) d (cA (aA 6) (cA (aA 2) (cA (fH (OE d.units) (aA 5) (vA xD (vA FG (aA 1) dA) (aA 3))) jA))))))))) (sA (FA (sB (cA NB (cA (aA 4) jA)))))))
theorem Rq:BC P w K a b 1 2 "_law_long" GL:=
 mB (k:=0) (body:=LR) T.lr fD rfl rfl fun _ _ _ _ _ _ _ d=>pA (IA 2 fD.nd (vA xD (vA FG (aA 0) dA) (LD rfl T.Ys (aA 1)))) (pA (IA 3 fD.nd (vA rC (vA xE dA (LD rfl T.Ys (aA 1))) dA)) (pA (IA 4 fD.nd (vA FG (vA HH (kA (kA (aA 1) (aA 2)) dA) (kA (kA (aA 1) (aA 2)) dA)) (aA 3))) (sA (FA (sB (cA NB (cA (aA 2) (cA (Ed rfl rfl T.eL dA (vA HH (aA 4) (vA xD (vA FG (aA 0) dA) dA))) (cA (vA rC (vA rC (aA 4) dA) (vA xD (vA FG (aA 0) dA) dA)) jA)))))))))
theorem yq:BC P w K a b 5 2 "_law_facts" uL:=
 mB (k:=4) (body:=wR) T.lv PB rfl rfl fun _ _ _ _ _ _ _ d=>pA (IA 2 PB.nd (nG jA)) (pA (IA 3 PB.nd dA) (pA (yD lu rfl (MC (UL (aA 0) (lI dA) (lI dA))) (IB 4 PB.nd) (pA (IA 5 PB.nd (JA (SN T b) d (cA (aA 4) (cA dA (cA dA jA))))) (sA (JB (WM.tm (L8 (rB (OE d.units) (vA xD (aA 5) dA) dA) (Bb (rB yJ (aA 3) dA)))) (pA (IA 3 PB.nd (vA rC (aA 3) dA)) (sA (bE (YE (aA 2) (JA (zq T b) d (cA (aA 4) (cA (aA 5) (cA (aA 1) jA)))))))) (sA (JB (rB (OE d.units) (vA xD (aA 5) dA) dA) (sA (bE (YE (aA 2) (JA (Rq T b) d (cA (aA 5) (cA (aA 1) jA)))))) (sA (bE (YE (aA 2) (JA (GR T b) d (cA (JA (FR T b) d (cA (aA 4) (cA (LD rfl T.Ys (aA 1)) jA))) (cA (aA 1) (cA EF jA))))))))))))) (sA (FA (aA 2)))))
theorem CW:BC P w K a b 32 4 "_law_told" WI:=
 mB (k:=31) (body:=NR) T.lx iE rfl rfl fun _ _ _ _ _ _ _ d=>pA (fO (Nc:=["_law_fact"]) 4 iE.nd (MC (aA 1)) (fun _ _ _ _=>IB 0 (show(["_law_fact"]:Ms Str).Nodup by decide +kernel)) (fun _ _ _ _=>tE) (fun _ _ _ _=>XM (rB (uK d.units) (kA (aA 0) dA) NB) (sB (cA NB (cA (KL rfl T.cv (kA (aA 0) dA)) jA))) (aA 0))) (pA (IA 5 iE.nd (JA (Mx T b) d (cA (aA 0) (cA (aA 4) (cA (aA 2) jA))))) (sA (FA (NU (WZ rfl T.gr rfl T.ma PyProof.Rows.boot_bool (by decide) (aA 5)) (NU (fH (uK d.units) (aA 5) (aA 3)) (OU (fH (uK d.units) (aA 4) (aA 1))))))))
theorem Aq:BC P w K a b 1 1 "_law_trees" wL:=
 mB (k:=0) (body:=tL) T.ly PD rfl rfl fun _ _ _ _ _ _ _ d=>pA (IA 1 PD.nd (nG (cA (sB (cA NB (cA (NE jA) jA))) (cA (sB (cA NB (cA (NE (cA (sB (cA dA (cA dA (cA dA jA)))) (cA (sB (cA dA (cA dA (cA dA jA)))) jA))) jA))) (cA (sB (cA NB (cA (NE jA) (cA (NE (cA dA (cA dA (cA dA jA)))) jA)))) (cA (sB (cA NB (cA (NE jA) (cA (NE (cA (sB (cA NB (cA (NE jA) jA))) jA)) jA)))) jA)))))) (pA (bE (YE (aA 1) (sB (cA NB (cA (NE jA) (cA dA (cA dA (cA (PU (sB (cA NB (cA (NE jA) jA))) dA) jA)))))))) (pA (JB (rB (OE d.units) (kA (aA 0) dA) NB) (pA (bE (YE (aA 1) (kA (aA 0) dA))) (sA (JB (rB C3 (kA (kA (aA 0) dA) dA) (sB (cA NB (cA NB jA)))) (sA (IA 1 PD.nd (vA NZ (aA 1) (UL (kA (kA (aA 0) dA) (gH dA)) kP (lI dA))))) KB))) KB) (sA (FA (aA 1)))))
theorem R7 {f:Oa} {e:FuncData} (F:Fun K "law" "law" tV f e):YD P w K a b LG 33 f e ["_law_script"] (JJ K 1 uI):=by unfold uI;exact S7 (k:=32) (body:=LM) F jE rfl rfl fun g A outer s H E d=>by(unfold LM bM kK;exact pA (IA 1 jE.nd (vA rC dA (vA xD (JA (CL T b) d (cA (aA 0) (cA dA jA))) dA))) (pA (IA 2 jE.nd (JA (Oj T b) d (cA (aA 0) (cA (aA 1) jA)))) (pA (IA 3 jE.nd (JA (yq T b) d (cA (aA 0) (cA (aA 2) jA)))) (pA (IA 4 jE.nd (JA (FR T b) d (cA (JA (CL T b) d (cA (aA 0) (cA dA jA))) (cA (aA 1) jA)))) (pA (JB (rB RM (vA xD (JA (CL T b) d (cA (aA 0) (cA dA jA))) dA) dA) (sA (IA 4 jE.nd (JA (GR T b) d (cA (aA 4) (cA (aA 2) (cA EF jA)))))) KB) (pA (IA 5 jE.nd (vA W0 (aA 3) (NE (cA (aA 4) jA)))) (pA (IA 6 jE.nd (Hh (Cq T b) d (by decide) rfl (cA (aA 1) (cA (vY (Nc:=["_law_one"]) (MC (aA 5)) (fun _ _ _ _=>IB 0 (show(["_law_one"]:Ms Str).Nodup by decide +kernel)) (fun _ _ _ _=>tE) (fun _ _ _ _=>XM (rB (OE d.units) (kA (aA 0) dA) NB) (sB (cA NB (cA (KL rfl T.cv (kA (aA 0) dA)) jA))) (aA 0))) (cA dA jA))))) (pA (JB (WM.tm (sI (yK (HG (WZ rfl T.gr rfl T.me PyProof.Rows.boot_tuple (by decide) (aA 6)))) (KM (rB (GH d.units) (LD rfl T.Ys (aA 6)) dA)))) (sA (FA EF)) KB) (pA (yD lu rfl (MC (JA (Aq T b) d (cA (aA 6) jA))) (IB 7 jE.nd) (sA (JB (yK (HG (JA (CW T b) d (cA (aA 1) (cA (aA 3) (cA (aA 7) (cA EF jA))))))) (sA (FA EF)) KB))) (sA (FA (T8 (fH (GH d.units) (kA (aA 6) dA) NB) (OU (JA (CW T b) d (cA (aA 1) (cA (aA 5) (cA (kA (aA 6) dA) (cA EF jA))))))))))))))))))
end
end G
namespace BF
noncomputable def put{α:Type}(f:Nat->α)(i:Nat)(a:α):Nat->α:=fun j=>if j=i then a else f j
theorem zG{b:Type}(f:Nat->b)(i:Nat)(a:b):put f i a i=a:=dh rfl
theorem sF{b:Type}(f:Nat->b){i j:Nat}(a:b)(h:j≠i):put f i a j=f j:=dG h
noncomputable abbrev Bd:=Nat×Nat×Int
structure oH where
 t:Nat->Int
 c:Nat->Option Nat
 l:Option Nat
def step(s:oH)(e:Bd):oH:=if s.t e.1>s.t e.2.1+e.2.2 then⟨put s.t e.1 (s.t e.2.1+e.2.2),put s.c e.1 (ε e.2.1),ε e.1⟩else s
def turn(E:Ms Bd)(s:oH):oH:=E.foldl step ⟨s.t,s.c,none⟩
def mH(t:Nat->Int)(e:Bd):Prop:=t e.1<=t e.2.1+e.2.2
structure LV(n:Nat)(E:List Bd):Prop where
 lt:∀e∈E,e.1<n/\e.2.1<n/\e.1≠e.2.1
 un:∀e∈E,∀e'∈E,e.1=e'.1->e.2.1=e'.2.1->e.2.2=e'.2.2
def M4(w:Nat->Nat->Int)(c:Nat->Ni Nat):Prop:=
 ∀C:Ms Nat,C ≠ []->C.Nodup->(C.map c).Perm (C.map some)->(C.map fun x=>w x ((c x).getD 0)).sum<0
structure Ok(n:Nat)(E:List Bd)(w:Nat->Nat->Int)(r:Nat)(D:List Bd)(u:Nat->Nat)(s:oH):Prop where
 cau:∀x y,s.c x=ε y->(x,y,w x y)∈E/\s.t y+w x y<=s.t x/\1<=u x/\u x<=u y+1
 top:∀x,u x<=r+1
 has:∀x,1<=u x->∃y,s.c x=ε y
 old:∀e∈E,r<=u e.2.1\/mH s.t e
 new:∀e∈D,r+1<=u e.2.1\/mH s.t e
 neg:M4 w s.c
 lst:∀x,s.l=ε x->u x=r+1
theorem xK{f g:Nat->Int}:∀(D:Ms Nat),(∀x∈D,f x<=g x)->(D.map f).sum<=(D.map g).sum
 | [],_=>Int.le_refl _
 | x::D,h=>by
  simp![Qs,sum_cons];have d:=h x qd;have b:=xK D fun y a=>h y (m8 _ a)
  omega
theorem uZ{f g:Nat->Int}:∀(D:Ms Nat),(D.map fun x=>f x-g x).sum=(D.map f).sum-(D.map g).sum
 | []=>rfl
 | x::D=>by simp![Qs,sum_cons];have:=uZ (f:=f) (g:=g) D;omega
theorem cZ{l l':Ms Int}(h:l.Perm l'):l.sum=l'.sum:=by
 induction h with
 | nil=>rfl
 | cons x _ ih=>simp![sum_cons,ih]
 | swap x y l=>simp![sum_cons];omega
 | trans _ _ b a=>exact b.trans a
theorem map_none{C:Ms Nat}{c:Nat->Ni Nat}(h:(C.map c).Perm (C.map some)):∀x∈C,∃y,c x=ε y:=by intro x a;have:c x∈C.map some:=h.subset (mem_map_of_mem a);obtain⟨y,_,e⟩:=Ae.mp this;exact⟨y,e.symm⟩
theorem ML{a b:Type}{f g:a->b}{C:Ms a}(h:∀x∈C,f x=g x):C.map f=C.map g:=map_congr_left h
theorem Ef{w:Nat->Nat->Int}{c:Nat->Ni Nat}{t:Nat->Int}{p q:Nat}(u:M4 w c)(B:∀x y,c x=ε y->t y+w x y<=t x)(H:t p>t q+w p q):M4 w (put c p (ε q)):=by
 intro C G hd k;by_cases b:p∈C
 . obtain⟨d,D2,rfl⟩:=append_of_mem b;have h:(d++p::D2).Perm (p::(d++D2)):=perm_middle;have nd:(p::(d++D2)).Nodup:=h.nodup_iff.mp hd;have j:p∉d++D2:=(La.mp nd).1;generalize d++D2=D at h j;have n:D.map (put c p (ε q))=D.map c:=ML fun x a=>sF c _ (fun z=>j (z ▸ a))
   have m:((p::D).map (put c p (ε q))).Perm ((p::D).map some):=((h.map _).symm.trans k).trans (h.map _);rw[Qs,zG,n]at m;have i:∀x∈D,∃y,c x=ε y:=fun x a=>by have:c x∈(p::D).map some:=m.subset (m8 _ (mem_map_of_mem a));obtain⟨y,_,e⟩:=Ae.mp this;exact⟨y,e.symm⟩
   have r:=cZ (m.map fun o=>t (o.getD 0));simp![Qs,map_map,sum_cons,Function.comp_def,Option.getD_some]at r
   change t q+_=t p+(D.map t).sum at r
   have F:((d++p::D2).map fun x=>w x ((put c p (ε q) x).getD 0)).sum=w p q+(D.map fun x=>w x ((c x).getD 0)).sum:=by
    have:=cZ (h.map fun x=>w x ((put c p (ε q) x).getD 0));rw[this,Qs,sum_cons,zG]
    congr 1
    rw[ML (f:=fun x=>w x ((put c p (ε q) x).getD 0)) (g:=fun x=>w x ((c x).getD 0)) fun x a=>by rw[sF c _ (fun z:x=p=>j (z ▸ a))]]
   have E:(D.map fun x=>w x ((c x).getD 0)).sum<=(D.map fun x=>t x-t ((c x).getD 0)).sum:=xK D fun x a=>by obtain⟨y,s⟩:=i x a;have:=B x y s;rw[s];simp![Option.getD_some];omega
   rw[uZ]at E;rw[F];omega
 . have n:C.map (put c p (ε q))=C.map c:=ML fun x a=>sF c _ (fun z=>b (z ▸ a))
   rw[n]at k;have:=u C G hd k;rw[ML (f:=fun x=>w x ((put c p (ε q) x).getD 0)) (g:=fun x=>w x ((c x).getD 0)) fun x a=>by rw[sF c _ (fun z:x=p=>b (z ▸ a))]];exact this
theorem Zt{n:Nat}{E:Ms Bd}{w:Nat->Nat->Int}{r:Nat}{D:Ms Bd}{u:Nat->Nat}{s:oH}(T:LV n E)(hw:∀e∈E,w e.1 e.2.1=e.2.2)(I:Ok n E w r D u s){e:Bd}(he:e∈E) :
 ∃o,Ok n E w r (e::D) o (step s e):=by
 obtain⟨p,q,m⟩:=e;obtain⟨_,_,f⟩:=T.lt _ he;have j:w p q=m:=hw _ he;have b:q≠p:=fun z=>f z.symm
 by_cases g:s.t p>s.t q+m
 . have i:step s (p,q,m)=⟨put s.t p (s.t q+m),put s.c p (ε q),ε p⟩:=dh g;rw[i];have L:r<=u q:=by
    rcases I.old _ he with z | z
    . exact z
    . exact Ci z (by simp![mH];omega)
   have up:u p<=r+1:=I.top p;have d:∀x,put s.t p (s.t q+m) x<=s.t x:=fun x=>by
    by_cases a:x=p
    . rw[a,zG];omega
    . rw[sF _ _ a];exact Int.le_refl _
   have grow:∀x,u x<=put u p (r+1) x:=fun x=>by
    by_cases a:x=p
    . rw[a,zG];exact up
    . rw[sF _ _ a];exact Ra _
   have keep:∀k,∀e:Bd,k<=r+1->(k<=u e.2.1\/mH s.t e)->(k<=put u p (r+1) e.2.1\/mH (put s.t p (s.t q+m)) e):=fun k e C h=>by
    by_cases a:e.2.1=p
    . exact .inl (by rw[a,zG];exact C)
    . rcases h with h | h
      . exact .inl (n7 h (grow _))
      . refine .inr ?_;simp![mH]at h ⊢;rw[sF _ _ a];exact Int.le_trans (d _) h
   refine⟨put u p (r+1),⟨fun x y h=>?_,fun x=>?_,fun x h=>?_,fun e h=>keep r e (Nat.le_succ r) (I.old e h),fun e h=>?_,Ef I.neg (fun x y h=>(I.cau x y h).2.1) (by rw[j];exact g),fun x h=>?_⟩⟩
   . by_cases a:x=p
     . subst a;simp![zG]at h ⊢;cases h;rw[sF _ _ b,sF _ _ b,j];exact⟨he,Int.le_refl _,by omega,by omega⟩
     . simp![sF _ _ a]at h ⊢;obtain⟨J,H,G,F⟩:=I.cau x y h;exact⟨J,Int.le_trans (Int.add_le_add_right (d y) _) H,G,n7 F (Nat.add_le_add_right (grow y) 1)⟩
   . by_cases a:x=p
     . rw[a,zG];exact Ra _
     . rw[sF _ _ a];exact I.top x
   . by_cases a:x=p
     . subst a;exact⟨q,zG _ _ _⟩
     . rw[sF _ _ a]at h;obtain⟨y,B⟩:=I.has x h;exact⟨y,by simp![sF _ _ a];exact B⟩
   . rcases zu.mp h with z | z
     . subst z;refine .inr ?_;simp![mH,zG,sF _ _ b];exact Int.le_refl _
     . exact keep (r+1) e (Ra _) (I.new e z)
   . cases h;exact zG _ _ _
 . have i:step s (p,q,m)=s:=dG g;rw[i];refine⟨u,⟨I.cau,I.top,I.has,I.old,fun e h=>?_,I.neg,I.lst⟩⟩;rcases zu.mp h with z | z
   . subst z;exact .inr (by simp![mH];omega)
   . exact I.new e z
theorem yU{n:Nat}{E:Ms Bd}{w:Nat->Nat->Int}{r:Nat}(T:LV n E)(hw:∀e∈E,w e.1 e.2.1=e.2.2):∀(L D:Ms Bd)(u:Nat->Nat)(s:oH),(∀e∈L,e∈E)->Ok n E w r D u s->∃i b,Ok n E w r b i (L.foldl step s)/\(∀e∈L,e∈b)/\∀e∈D,e∈b
 | [],D,u,s,_,I=>⟨u,D,I,(fun _ h=>nomatch h),fun _ h=>h⟩
 | e::L,D,u,s,hs,I=>by
  obtain⟨g,m⟩:=Zt T hw I (hs e qd);obtain⟨f,o,k,j,d⟩:=yU T hw L (e::D) g (step s e) (fun x a=>hs x (m8 _ a)) m;refine⟨f,o,k,fun x a=>?_,fun x a=>d x (m8 _ a)⟩;rcases zu.mp a with z | z
  . rw[z];exact d e qd
  . exact j x z
def fE(E:Ms Bd):Nat->oH->oH
 | 0,s=>s
 | r+1,s=>turn E (fE E r s)
noncomputable def s0:oH:=⟨fun _=>0,fun _=>none,none⟩
theorem zT{n:Nat}{E:Ms Bd}{w:Nat->Nat->Int}(T:LV n E)(hw:∀e∈E,w e.1 e.2.1=e.2.2):∀r,∃u D,Ok n E w r D u (fE E (r+1) s0)/\∀e∈E,e∈D
 | 0=>by
  have I:Ok n E w 0 [] (fun _=>0) ⟨s0.t,s0.c,none⟩:=by
   refine⟨fun x y h=>(by cases h),fun x=>mq _,fun x h=>nofun,fun e h=>.inl (mq _),(fun e h=>nomatch h),fun C g hd d=>?_,fun x h=>(by cases h)⟩;cases C with
   | nil=>exact Ci rfl g
   | cons x C=>obtain⟨y,e⟩:=map_none d x qd;cases e
  obtain⟨u,D,k,a,_⟩:=yU T hw E [] _ _ (fun _ h=>h) I;exact⟨u,D,k,a⟩
 | r+1=>by
  obtain⟨u,D,I,f⟩:=zT T hw r;have j:Ok n E w (r+1) [] u ⟨(fE E (r+1) s0).t,(fE E (r+1) s0).c,none⟩:=
   ⟨I.cau,fun x=>Nat.le_succ_of_le (I.top x),I.has,fun e h=>I.new e (f e h),(fun e h=>nomatch h),I.neg,fun x h=>(by cases h)⟩
  obtain⟨b,m,i,a,_⟩:=yU T hw E [] _ _ (fun _ h=>h) j;exact⟨b,m,i,a⟩
theorem VX:∀(L:Ms Bd)(s:oH),(L.foldl step s).l=none->s.l=none/\L.foldl step s=s/\∀e∈L,mH s.t e
 | [],s,h=>⟨h,rfl,(fun _ h=>nomatch h)⟩
 | e::L,s,h=>by
  obtain⟨a,g,f⟩:=VX L (step s e) h;by_cases d:s.t e.1>s.t e.2.1+e.2.2
  . have b:step s e=⟨put s.t e.1 (s.t e.2.1+e.2.2),put s.c e.1 (ε e.2.1),ε e.1⟩:=dh d;rw[b]at a;cases a
  . have b:step s e=s:=dG d;rw[b]at a g f;refine⟨a,by rw[foldl_cons,b];exact g,fun x i=>?_⟩;rcases zu.mp i with z | z
    . subst z;simp![mH];omega
    . exact f x z
noncomputable def EB(f:Nat->Nat):Nat->Nat->Nat
 | 0,x=>x
 | k+1,x=>f (EB f k x)
theorem bH(f:Nat->Nat)(x:Nat)(b:Nat):∀a,EB f (a+b) x=EB f a (EB f b x)
 | 0=>by rw[xu];rfl
 | a+1=>by rw[Nat.add_right_comm];show f (EB f (a+b) x)=f (EB f a (EB f b x));rw[bH f x b a]
theorem Bl:∀(n:Nat)(g:Nat->Nat),(∀k,k<=n->g k<n)->∃i j,i<j/\j<=n/\g i=g j
 | 0,g,h=>Ci (h 0 (Ra _)) (Nat.not_lt_zero _)
 | n+1,g,h=>by
  by_cases f:∃k,k<=n/\g k=g (n+1)
  . obtain⟨k,d,a⟩:=f;exact⟨k,n+1,by omega,Ra _,a⟩
  . have ne:∀k,k<=n->g k≠g (n+1):=fun k b e=>f ⟨k,b,e⟩
    have p:=h (n+1) (Ra _);obtain⟨i,j,d,a,o⟩:=Bl n (fun k=>if g k>g (n+1)then g k-1 else g k) fun k b=>by have d:=h k nofun;have a:=ne k b;show(if g k>g (n+1)then g k-1 else g k)<n;split<;>omega
    refine⟨i,j,d,by omega,?_⟩;have r:=ne i nofun;have q:=ne j a;have m:(if g i>g (n+1)then g i-1 else g i)=(if g j>g (n+1)then g j-1 else g j):=o;split at m<;>split at m<;>omega
theorem gw{Q:Nat->Prop}:∀d,1<=d->Q d->∃k,1<=k/\k<=d/\Q k/\∀i,1<=i->i<k->¬Q i:=by
 intro d
 induction d using Nat.strongRecOn with
 | ind d ih=>
  intro m j;by_cases e:∃i,1<=i/\i<d/\Q i
  . obtain⟨i,a,b,c⟩:=e;obtain⟨k,h,n,g,f⟩:=ih i b a c;exact⟨k,h,by omega,g,f⟩
  . exact⟨d,m,Ra _,j,fun i a b c=>e ⟨i,a,b,c⟩⟩
noncomputable def nxt(c:Nat->Ni Nat)(x:Nat):Nat:=(c x).getD 0
structure QH(n:Nat)(E:List Bd)(w:Nat->Nat->Int)(c:Nat->Option Nat)(P k:Nat):Prop where
 pos:1<=k
 le:k<=n
 back:EB (nxt c) k P=P
 first:∀i,1<=i->i<k->EB (nxt c) i P≠P
 edge:∀i,i<=k->(EB (nxt c) i P,EB (nxt c) (i+1) P,w (EB (nxt c) i P) (EB (nxt c) (i+1) P))∈E/\c (EB (nxt c) i P)=ε (EB (nxt c) (i+1) P)
 sum:((List.range k).map fun i=>w (EB (nxt c) i P) (EB (nxt c) (i+1) P)).sum<0
theorem apart{f:Nat->Nat}{P k:Nat}(g:EB f k P=P)(d:∀i,1<=i->i<k->EB f i P≠P){i j:Nat}(b:i<j)(a:j<=k)(m:i=0->j<k):EB f i P≠EB f j P:=by
 intro e;have e2:EB f ((k-j)+i) P=EB f ((k-j)+j) P:=by rw[bH,bH,e]
 rw[Nat.sub_add_cancel a,g]at e2;refine d (k-j+i) ?_ ?_ e2
 . by_cases h:i=0
   . have:=m h;omega
   . omega
 . omega
theorem Dq{e:Type}{g:Nat->e}(k:Nat)(h:∀i j,i<j->j<k->g i≠g j):((List.range k).map g).Nodup:=by rw[nodup_iff_pairwise_ne,pairwise_map];refine List.Pairwise.imp_of_mem ?_ (pairwise_lt_range (n:=k));intro a b m f d;exact h a b d (Ai.mp f)
theorem oZ{n:Nat}{E:Ms Bd}{w:Nat->Nat->Int}{D:Ms Bd}{u:Nat->Nat}{s:oH}{x:Nat}(T:LV n E)(I:Ok n E w n D u s)(R:s.l=ε x):∃k,QH n E w s.c (EB (nxt s.c) n x) k/\
 ∀i,i<=n->s.c (EB (nxt s.c) i x)=ε (EB (nxt s.c) (i+1) x)/\EB (nxt s.c) i x<n:=by
 have ux:=I.lst x R;have o:∀y,1<=u y->s.c y=ε (nxt s.c y):=fun y O=>by obtain⟨z,e⟩:=I.has y O;unfold nxt;rw[e];rfl
 have ch:∀i,i<=n->n+1<=u (EB (nxt s.c) i x)+i:=by
  intro i
  induction i with
  | zero=>intro _;show n+1<=u x+0;omega
  | succ i ih=>intro f;have h1:=ih nofun;have W:=o (EB (nxt s.c) i x) nofun;have h3:=(I.cau _ _ W).2.2.2;show n+1<=u (nxt s.c (EB (nxt s.c) i x))+(i+1);omega
 have r:∀i,i<=n->s.c (EB (nxt s.c) i x)=ε (EB (nxt s.c) (i+1) x):=fun i f=>o _ (by have:=ch i f;omega)
 have lt:∀i,i<=n->EB (nxt s.c) i x<n:=fun i f=>(T.lt _ (I.cau _ _ (r i f)).1).1
 obtain⟨i,j,S,hj,e⟩:=Bl n (fun i=>EB (nxt s.c) i x) lt;have B:EB (nxt s.c) (j-i) (EB (nxt s.c) n x)=EB (nxt s.c) n x:=by
  rw[<- bH];have J:j-i+n=(n-i)+j:=by omega
  rw[J,bH,<- e,<- bH]
  congr 1
  omega
 obtain⟨k,M,k2,C,L⟩:=gw (Q:=fun d=>EB (nxt s.c) d (EB (nxt s.c) n x)=EB (nxt s.c) n x) (j-i) nofun B;have p:∀m,EB (nxt s.c) (j+m) x=EB (nxt s.c) (i+m) x:=fun m=>by rw[Nat.add_comm j m,Nat.add_comm i m,bH,bH,e]
 have H:∀m,m<=k->s.c (EB (nxt s.c) m (EB (nxt s.c) n x))=ε (EB (nxt s.c) (m+1) (EB (nxt s.c) n x)):=fun m q=>by
  rw[<- bH,<- bH];by_cases h:m+n<=n
  . have:m=0:=by omega
    subst this;rw[xu,Nat.add_comm];exact r n (Ra _)
  . have J:m+n=j+(m+n-j):=by omega
    have a2:m+1+n=j+(m+n-j+1):=by omega
    rw[J,a2,p,p];exact r _ nofun
 refine⟨k,⟨M,by omega,C,L,fun m q=>⟨(I.cau _ _ (H m q)).1,H m q⟩,?_⟩,fun i f=>⟨r i f,lt i f⟩⟩;generalize EB (nxt s.c) n x=P at *;have F:=I.neg ((List.range k).map fun m=>EB (nxt s.c) m P) (by
  intro z;have:=congrArg List.length z;simp at this;omega) (Dq k fun a b G U=>apart C L G nofun (fun _=>U)) (by
  rw[map_map,map_map];have Z:(List.range k).map (s.c ∘ fun m=>EB (nxt s.c) m P)=(List.range k).map (fun m=>ε (EB (nxt s.c) (m+1) P)):=ML fun m q=>H m (Bs (Ai.mp q))
  rw[Z];obtain⟨g,rfl⟩:∃g,k=g+1:=⟨k-1,by omega⟩
  rw[Hu,Fe];have e2:(List.range g++[g]).map (some ∘ fun m=>EB (nxt s.c) m P)=ε P::(List.range g).map (fun m=>ε (EB (nxt s.c) (m+1) P)):=by rw[<- Hu,Ji,Qs,map_map];rfl
  rw[e2];have Y:[g].map (fun m=>ε (EB (nxt s.c) (m+1) P))=[ε P]:=by rw[Qs,Uu,C]
  rw[Y];exact perm_append_singleton _ _)
 rw[map_map]at F;have X:(List.range k).map ((fun y=>w y ((s.c y).getD 0)) ∘ fun m=>EB (nxt s.c) m P)=(List.range k).map fun i=>w (EB (nxt s.c) i P) (EB (nxt s.c) (i+1) P):=rfl
 rw[X]at F;exact F
end BF
namespace SM
section
variable{l:LI}{h:HI}{f g fo fy b fe fa a:RE}
@[simp] theorem pe:rV l h=ε (.ref h.length,h++[.dt []]):=by rfl
def zQ:Ms Dt×HI->Ni (Dt×HI):=fun r=>if r.1.length<=sizeLine then(pD r.1).map fun d=>(.ntp d,r.2)else none
@[simp] theorem L3(r:RA):rQ r l h=cB (r l h) zQ:=by rfl
theorem sY(i j:Int):zQ ([.int i,.int j],h)=ε (.ntp [i,j],h):=by unfold zQ;rw[dh (show([Dt.int i,Dt.int j]:Ms Dt).length<=sizeLine by simp)];rfl
def V4(n:Nat)(k:Ms Int):Dt×HI->Ni (Dt×HI):=fun x=>match x.2[n]? with
 | some (.dt kvs)=>ε ((ZD kvs k).getD x.1,x.2)
 | _=>none
theorem K0{n:Nat}{k:Ms Int}{d:Dt}{kvs:Ms (Ms Int×Dt)}(e:h[n]?=ε (.dt kvs)):V4 n k (d,h)=ε ((ZD kvs k).getD d,h):=by simp![V4,e]
theorem TZ{n:Nat}{k:Ms Int}{kvs:Ms (Ms Int×Dt)}(e:fo l h=ε (.ref n,h))(e2:h[n]?=ε (.dt kvs))(d:fy l h=ε (.ntp k,h)):nI fo fy b l h=cB (b l h) (V4 n k):=by simp![nI,e,e2,d,Ss];rfl
theorem C1{n:Nat}{k:Ms Int}{kvs:Ms (Ms Int×Dt)}{d:Dt}(j:fe l h=ε (d,h))(i:fo l h=ε (.ref n,h))(e2:h[n]?=ε (.dt kvs))(e:fy l h=ε (.ntp k,h))(c:kvs.length<sizeLine) :
 BP fe fo fy l h=ε (.nx l (h.set n (.dt (BJ kvs k d)))):=by
 simp![BP,j,i,e2,e,Ss,dh c]
theorem Zv{n:Nat}{kvs:Ms (Ms Int×Dt)}(d:f l h=ε (.ref n,h))(e2:h[n]?=ε (.dt kvs)):nJ f l h=ε (.it n,h.set n (.df kvs)):=by simp![nJ,d,e2,Ss]
theorem Yv{n:Nat}{kvs:Ms (Ms Int×Dt)}(d:f l h=ε (.ref n,h))(e2:h[n]?=ε (.df kvs)):nJ f l h=ε (.it n,h):=by simp![nJ,d,e2,Ss]
def AV(a:RE)(l:LI):Dt×HI->Ni (Dt×HI):=fun r=>cB (a l r.2) fun q=>(HA q.2 r.1).bind fun d=>(pD d).bind fun ns=>if ns ≠ []then ε (.int (pC ns),q.2)else none
@[simp] theorem pf:nV fa a l h=cB (fa l h) (AV a l):=by rfl
end
theorem Nr{g:Type}{i j n:Nat}{body:RS}{kvs:Ms (Ms Int×Dt)}(S:g->LI->HI->Prop)(F:g->Ms Int×Dt->g)(B:∀b l h,S b l h->h[n]?=ε (.df kvs))
 (H:∀x∈kvs,∀b l h,S b l h->∃r,body ((l.set i (ε (.tup (x.1.map Dt.int)))).set j (ε x.2)) h=ε r/\Pass (S (F b x)) r) :
 ∀(m k:Nat)(b:g)(l:LI)(h:HI),m=(kvs.length-k)+1->k<=kvs.length->S b l h->∃u h',DB (SD i j) body (.it n) m k l h=ε (.nx u h')/\S ((kvs.drop k).foldl F b) u h':=by
 intro m
 induction m with
 | zero=>intro k b l h y;omega
 | succ m ih=>
  intro k b l h y G s;have e:=B b l h s;by_cases a:k<kvs.length
  . have q:kvs[k]?=ε kvs[k]:=iu a;obtain⟨r,E,p⟩:=H kvs[k] (getElem_mem a) b l h s;have D:(kvs.drop k).foldl F b=(kvs.drop (k+1)).foldl F (F b kvs[k]):=by rw[xr a,foldl_cons]
    rw[D];have C:DB (SD i j) body (.it n) (m+1) k l h=cB (body ((l.set i (ε (.tup (kvs[k].1.map Dt.int)))).set j (ε kvs[k].2)) h) (dN (DB (SD i j) body (.it n) m (k+1))):=by
     simp![DB,qi.at,e,q,Ro,BU,Ss];cases body ((l.set i (ε (.tup (kvs[k].1.map Dt.int)))).set j (ε kvs[k].2)) h with
     | none=>rfl
     | some r=>cases r<;>rfl
    rw[C,E,fA];cases r with
    | nx o f=>exact ih (k+1) _ o f nofun a p
    | ct o f=>exact ih (k+1) _ o f nofun a p
    | bk o f=>exact p.elim
    | rt d f=>exact p.elim
  . have q:kvs[k]?=none:=jj nofun;refine⟨l,h,by simp![DB,qi.at,e,q,Option.map_none],?_⟩;rw[Ma nofun];exact s
theorem Od{a:Type}{i j n:Nat}{body:RS}{kvs:Ms (Ms Int×Dt)}{l:LI}{h:HI}(S:a->LI->HI->Prop)(F:a->Ms Int×Dt->a)(f:∀b l h,S b l h->h[n]?=ε (.df kvs))
 (H:∀x∈kvs,∀b l h,S b l h->∃r,body ((l.set i (ε (.tup (x.1.map Dt.int)))).set j (ε x.2)) h=ε r/\Pass (S (F b x)) r) (b:a) (s:S b l h) :
 ∃d h',zD (SD i j) body l (.it n,h)=ε (.nx d h')/\S (kvs.foldl F b) d h':=by
 have e:=f b l h s;have:=Nr (i:=i) (j:=j) S F f H (kvs.length+1) 0 b l h nofun (mq _) s;rw[drop_zero]at this;obtain⟨d,h',k,e2⟩:=this;refine⟨d,h',?_,e2⟩;show DB (SD i j) body (.it n) (qi.fuel (.it n) h) 0 l h=_;have g:qi.fuel (.it n) h=kvs.length+1:=by simp![qi.fuel,e]
 rw[g];exact k
end SM
namespace G
noncomputable def QA(e:Bd):Ms Int×Dt:=([(e.1:Int),(e.2.1:Int)],.int e.2.2)
noncomputable def nA(e:Bd):Dt:=.tup [.int (e.1:Nat),.int (e.2.1:Nat),.int e.2.2]
noncomputable def vD(p q:Nat)(x:Bd):Bool:=decide (x.1=p)&&decide (x.2.1=q)
def yI(E:Ms Bd)(p q:Nat):Ni Int:=(E.find? (vD p q)).map (·.2.2)
def IJ(E:Ms Bd)(p q:Nat)(v:Int):Ms Bd:=if E.any (vD p q)=true then E.map (fun x=>if vD p q x=true then(x.1,x.2.1,v)else x)else E++[(p,q,v)]
def UC(E:Ms Bd)(e:Bd):Ms Bd:=IJ E e.1 e.2.1 (min ((yI E e.1 e.2.1).getD e.2.2) e.2.2)
theorem SU(p q:Nat)(x:Bd):decide ((QA x).1=[(p:Int),(q:Int)])=vD p q x:=by unfold QA vD;by_cases b:x.1=p<;>by_cases a:x.2.1=q<;>simp[b,a]<;>omega
theorem cV(p q:Nat):∀E:Ms Bd,ZD (E.map QA) [(p:Int),(q:Int)]=(yI E p q).map Dt.int
 | []=>rfl
 | x::E=>by
  have ih:=cV p q E;unfold ZD yI at ih ⊢;rw[Qs,Ia,Ia,SU];cases vD p q x with
  | true=>rfl
  | false=>exact ih
theorem Jb(p q:Nat)(E:Ms Bd):((E.map QA).any fun y=>decide (y.1=[(p:Int),(q:Int)]))=E.any (vD p q):=by
 rw[any_map]
 congr 1
 funext x
 exact SU p q x
theorem QY(p q:Nat)(v:Int)(E:Ms Bd):BJ (E.map QA) [(p:Int),(q:Int)] (.int v)=(IJ E p q v).map QA:=by
 unfold BJ IJ;rw[Jb];split
 . rw[map_map,map_map];refine map_congr_left fun x _=>?_
   have k:=SU p q x;simp![Function.comp_def];cases c:vD p q x with
   | true=>rw[c]at k;rw[dh (of_decide_eq_true k),dh rfl];rfl
   | false=>rw[c]at k;rw[dG (of_decide_eq_false k),dG Va]
 . rw[Fe];rfl
structure AK(told E:List Bd):Prop where
 mem:∀x∈E,x∈told
 low:∀e∈told,∃x∈E,x.1=e.1/\x.2.1=e.2.1/\x.2.2<=e.2.2
 un:∀x∈E,∀y∈E,x.1=y.1->x.2.1=y.2.1->x.2.2=y.2.2
 len:E.length<=told.length
theorem cw{p q:Nat}{x:Bd}:vD p q x=true↔x.1=p/\x.2.1=q:=by simp[vD]
theorem Uc:AK [] []:=⟨fun _ h=>h,fun _ h=>(nomatch h),fun _ h=>(nomatch h),Ra _⟩
theorem Qc{f E:Ms Bd}(I:AK f E)(e:Bd):AK (f++[e]) (UC E e):=by
 obtain⟨p,q,m⟩:=e;unfold UC IJ;cases i:yI E p q with
 | none=>
  have s:∀x∈E,vD p q x=false:=by unfold yI at i;simpa using i
  have u:E.any (vD p q)=false:=by rw[any_eq_false];intro x hx;rw[s x hx];exact Va
  simp![u,Vs,eH,i,Option.getD_none,Int.min_self];refine⟨fun x hx=>?_,fun n he=>?_,fun x hx y hy d b=>?_,by simp;exact I.len⟩
  . rcases Aa.mp hx with hx | hx
    . exact uq _ (I.mem x hx)
    . exact uo _ hx
  . rcases Aa.mp he with he | he
    . obtain⟨x,hx,r⟩:=I.low n he;exact⟨x,uq _ hx,r⟩
    . rw[zc.mp he];exact⟨_,uo _ (zc.mpr rfl),rfl,rfl,Int.le_refl _⟩
  . rcases Aa.mp hx with hx | hx<;>rcases Aa.mp hy with hy | hy
    . exact I.un x hx y hy d b
    . have:=s x hx;rw[zc.mp hy]at d b;rw[cw.mpr ⟨d,b⟩]at this;cases this
    . have:=s y hy;rw[zc.mp hx]at d b;rw[cw.mpr ⟨d.symm,b.symm⟩]at this;cases this
    . rw[zc.mp hx,zc.mp hy]
 | some v0=>
  obtain⟨a,L,rfl⟩:∃a,E.find? (vD p q)=ε a/\a.2.2=v0:=by unfold yI at i;simpa using i
  have D:=find?_some L;have k:=za L;have u:E.any (vD p q)=true:=any_eq_true.mpr ⟨a,k,D⟩;obtain⟨C,B⟩:=cw.mp D;have o:∀x∈E,vD p q x=true->x.2.2=a.2.2:=fun x hx h=>by obtain⟨d,b⟩:=cw.mp h;exact I.un x hx a k (d.trans C.symm) (b.trans B.symm)
  simp![u,eG,Option.getD_some];have M:((p,q,min a.2.2 m):Bd)∈f++[(p,q,m)]:=by
   by_cases h:a.2.2<=m
   . rw[Int.min_eq_left h];refine uq _ ?_;have:=I.mem a k;rw[<- C,<- B];exact this
   . rw[Int.min_eq_right nofun];exact uo _ (zc.mpr rfl)
  refine⟨fun x hx=>?_,fun n he=>?_,fun x hx y hy d b=>?_,by simp;have:=I.len;omega⟩
  . obtain⟨y,hy,rfl⟩:=Ae.mp hx;split
    . rename_i h;obtain⟨d,b⟩:=cw.mp h;rw[d,b];exact M
    . exact uq _ (I.mem y hy)
  . have new:∀x∈E,(if vD p q x=true then(x.1,x.2.1,min a.2.2 m)else x)∈E.map (fun x=>if vD p q x=true then(x.1,x.2.1,min a.2.2 m)else x):=fun x hx=>mem_map_of_mem hx
    rcases Aa.mp he with he | he
    . obtain⟨x,hx,J,H,O⟩:=I.low n he;refine⟨_,new x hx,?_⟩;split
      . rename_i h;refine⟨J,H,?_⟩;have:=o x hx h;show min a.2.2 m<=n.2.2;have:=Int.min_le_left a.2.2 m;omega
      . exact⟨J,H,O⟩
    . rw[zc.mp he];refine⟨_,new a k,?_⟩;rw[dh D];exact⟨C,B,Int.min_le_right _ _⟩
  . obtain⟨j,G,rfl⟩:=Ae.mp hx;obtain⟨y',F,rfl⟩:=Ae.mp hy;have g:∀z:Bd,(if vD p q z=true then((z.1,z.2.1,min a.2.2 m):Bd)else z).1=z.1/\(if vD p q z=true then((z.1,z.2.1,min a.2.2 m):Bd)else z).2.1=z.2.1:=fun z=>by split<;>exact⟨rfl,rfl⟩
    rw[(g j).1,(g y').1]at d;rw[(g j).2,(g y').2]at b;have P:vD p q j=vD p q y':=by unfold vD;rw[d,b]
    rw[P];split
    . rfl
    . exact I.un j G y' F d b
theorem lZ:∀(L a E:Ms Bd),AK a E->AK (a++L) (L.foldl UC E)
 | [],a,E,I=>by rw[Ri];exact I
 | e::L,a,E,I=>by have:=lZ L (a++[e]) (UC E e) (Qc I e);rw[nu]at this;exact this
def AB(a:Ms Bd):Ms Bd:=a.foldl UC []
theorem pJ(a:Ms Bd):AK a (AB a):=by have:=lZ a [] [] Uc;rwa[Ui]at this
theorem BY(E:Ms Bd)(p q:Nat)(v:Int):(IJ E p q v).length<=E.length+1:=by
 unfold IJ;split
 . simp
 . simp
theorem kY{d a:Type}(f:a->d->a)(b:a){xs:Ms d}{k:Nat}{x:d}(e:xs[k]?=ε x):(xs.take (k+1)).foldl f b=f ((xs.take k).foldl f b) x:=by rw[take_add_one,e,foldl_append];rfl
theorem Oq(a:Ms Bd)(C:a.length<=1000)(h:HI):dI [.lst (a.map nA)] h=ε (.ref h.length,h++[.dt ((AB a).map QA)]):=by
 obtain⟨y,g,e,⟨f,b,rfl⟩,rfl,_⟩:=qM (i:=2) (body:=pL) nA (fun k l g=>(∃f b,l=[ε (.lst (a.map nA)),ε (.ref h.length),f,b])/\g=h++[.dt (((a.take k).foldl UC []).map QA)]/\((a.take k).foldl UC []).length<=k) a 0 (by
  rintro k x m l g ⟨⟨f,b,rfl⟩,rfl,o⟩;rw[xu]at o ⊢;have B:k<a.length:=(Uo m).1;rw[kY UC [] m];generalize (a.take k).foldl UC []=E at o;have j:(h++[Ob.dt (E.map QA)])[h.length]?=ε (.dt (E.map QA)):=by simp
  have u:([ε (Dt.lst (a.map nA)),ε (.ref h.length),f,b]:LI).set 2 (ε (nA x))=[ε (Dt.lst (a.map nA)),ε (.ref h.length),ε (nA x),b]:=rfl;rw[u];refine⟨.nx [ε (.lst (a.map nA)),ε (.ref h.length),ε (nA x),ε (.ntp [(x.1:Int),(x.2.1:Int)])] (h++[.dt ((UC E x).map QA)]),?_,⟨_,_,rfl⟩,rfl,?_⟩
  . have r:nI (eV 1) (eV 3) (e2 rA (eV 2) (ro 2)) [ε (.lst (a.map nA)),ε (.ref h.length),ε (nA x),ε (.ntp [(x.1:Int),(x.2.1:Int)])] (h++[.dt (E.map QA)])=ε (.int ((yI E x.1 x.2.1).getD x.2.2),h++[.dt (E.map QA)]):=by rw[TZ (n:=h.length) (k:=[(x.1:Int),(x.2.1:Int)]) (kvs:=E.map QA) ⋯ j ⋯];simp![wA,gA,uA,Qa,Qo,iA,fA,nA,bC,BK,Ro];rw[K0 j,cV];cases yI E x.1 x.2.1<;>rfl
    have q:=C1 (l:=[ε (.lst (a.map nA)),ε (.ref h.length),ε (nA x),ε (.ntp [(x.1:Int),(x.2.1:Int)])]) (h:=h++[.dt (E.map QA)]) (fe:=pQ GK (nI (eV 1) (eV 3) (e2 rA (eV 2) (ro 2))) (e2 rA (eV 2) (ro 2))) (fo:=eV 1) (fy:=eV 3) (n:=h.length) (k:=[(x.1:Int),(x.2.1:Int)]) (kvs:=E.map QA)
     (d:=.int (min ((yI E x.1 x.2.1).getD x.2.2) x.2.2)) (by
      rw[DQ,r,fA];simp[nA]) ⋯ j ⋯ (by simp;omega)
    rw[QY]at q;have s:(h++[Ob.dt (E.map QA)]).set h.length (.dt ((UC E x).map QA))=h++[.dt ((UC E x).map QA)]:=by simp
    simp![pL,XA,GB,L3,EA,zA,wA,gA,uA,Qa,Qo,iA,fA,nA,bC,FC,tF,Ro,sY,Us,Ua,fB];have p:=q;simp![nA]at p;rw[p];show ε (Rs.nx _ ((h++[Ob.dt (E.map QA)]).set h.length (.dt ((UC E x).map QA))))=_;rw[s]
  . have:=BY E x.1 x.2.1 (min ((yI E x.1 x.2.1).getD x.2.2) x.2.2);show(UC E x).length<=k+1;unfold UC;omega) [ε (.lst (a.map nA)),ε (.ref h.length),none,none] (h++[.dt []]) ⟨⟨_,_,rfl⟩,by simp,by simp⟩
 rw[xu,Ka]at e;simp[dI,UN,e];rfl
noncomputable def bF:Ni Nat->Dt
 | none=>.non
 | some q=>.int (q:Nat)
noncomputable def TB(n:Nat)(t:Nat->Int):Ms Dt:=(List.range n).map fun i=>.int (t i)
def kE(n:Nat)(c:Nat->Ni Nat):Ms Dt:=(List.range n).map fun i=>bF (c i)
theorem mT(n:Nat)(t:Nat->Int):(TB n t).length=n:=by simp[TB]
theorem cX(n:Nat)(c:Nat->Ni Nat):(kE n c).length=n:=by simp[kE]
theorem YO{n p:Nat}(t:Nat->Int)(a:p<n):(TB n t)[p]?=ε (.int (t p)):=by simp[TB,a]
theorem HS{n p:Nat}(c:Nat->Ni Nat)(a:p<n):(kE n c)[p]?=ε (bF (c p)):=by simp[kE,a]
theorem WX{a e:Type}(n p:Nat)(f:Nat->a)(D:a->e)(v:a):((List.range n).map fun i=>D (f i)).set p (D v)=(List.range n).map fun i=>D (put f p v i):=by
 apply ext_getElem?;intro i;rw[getElem?_set];simp![qu,lq,Ei];by_cases h:p=i
 . subst h;by_cases b:p<n
   . simp[b,zG]
   . simp[b,jj]
 . have g:i≠p:=fun z=>h z.symm
   rw[dG h];by_cases d:i<n
   . simp[d,sF _ _ g]
   . simp[jj,d]
theorem Ay(n p:Nat)(t:Nat->Int)(v:Int):(TB n t).set p (.int v)=TB n (put t p v):=WX n p t Dt.int v
theorem Lz(n p q:Nat)(c:Nat->Ni Nat):(kE n c).set p (.int (q:Nat))=kE n (put c p (ε q)):=WX n p c bF (ε q)
structure AI(h0:HI)(a b c n:Nat)(E:List Bd)(s:oH)(h:HI):Prop where
 len:h.length=h0.length
 da:h[a]?=ε (.df (E.map QA))
 db:h[b]?=ε (.lst (TB n s.t))
 dc:h[c]?=ε (.lst (kE n s.c))
 els:∀m,m≠a->m≠b->m≠c->h[m]?=h0[m]?
noncomputable def IQ(x:Ms Int×Dt):Bd:=match x with
 | ([p,q],.int m)=>(p.toNat,q.toNat,m)
 | _=>(0,0,0)
theorem V1(e:Bd):IQ (QA e)=e:=rfl
theorem zf{C:HI}{a b c n:Nat}(L:a≠b)(ac:a≠c)(G:b≠c){E:Ms Bd}{e:Bd}(he:e.1<n/\e.2.1<n){s:oH}{h:HI}(M:AI C a b c n E s h) :
 ∃h',YI [ε (.ref a),ε (.ref b),ε (.ref c),ε (bF s.l),ε (.tup [.int (e.1:Nat),.int (e.2.1:Nat)]),ε (.int e.2.2)] h=ε (.nx [ε (.ref a),ε (.ref b),ε (.ref c),ε (bF (step s e).l),ε (.tup [.int (e.1:Nat),.int (e.2.1:Nat)]),ε (.int e.2.2)] h')/\AI C a b c n E (step s e) h':=by
 obtain⟨p,q,m⟩:=e;obtain⟨g,H⟩:=he;have r:=fun i=>FE M.db i
 have x:=YO s.t g;have u:=YO s.t H;have blt:b<h.length:=(Uo M.db).1;have o:c<h.length:=(Uo M.dc).1;by_cases f:s.t p>s.t q+m
 . have j:step s (p,q,m)=⟨put s.t p (s.t q+m),put s.c p (ε q),ε p⟩:=dh f;rw[j];have d:decide (s.t q+m<s.t p)=true:=eO f;have F:=XO (l:=[ε (.ref a),ε (.ref b),ε (.ref c),ε (bF s.l),ε (.tup [.int (p:Nat),.int (q:Nat)]),ε (.int m)]) (v:=.int (s.t q+m)) (k:=p) M.db (by rw[mT];exact g);rw[Ay]at F;have J:(h.set b (.lst (TB n (put s.t p (s.t q+m)))))[c]?=ε (.lst (kE n s.c)):=by rw[ju G];exact M.dc
   have D:=XO (l:=[ε (.ref a),ε (.ref b),ε (.ref c),ε (bF s.l),ε (.tup [.int (p:Nat),.int (q:Nat)]),ε (.int m)]) (v:=.int (q:Nat)) (k:=p) J (by rw[cX];exact g);rw[Lz]at D;refine⟨(h.set b (.lst (TB n (put s.t p (s.t q+m))))).set c (.lst (kE n (put s.c p (ε q)))),?_,?_⟩
   . simp![YI,OB,NA,wA,gA,uA,Qa,Qo,iA,fA,bC,FC,tF,Ro,r,SM.lD,x,u,eF,vN,VA,d,eG,XA,mZ,F,fB,D,GB,Us,Ua];rfl
   . refine⟨by simp[M.len],?_,?_,?_,fun k I B y=>?_⟩
     . rw[ju (m5 ac),ju (m5 L)];exact M.da
     . rw[ju (m5 G),ou blt]
     . rw[ou (by simp;exact o)]
     . rw[ju (m5 y),ju (m5 B)];exact M.els k I B y
 . have j:step s (p,q,m)=s:=dG f;rw[j];have d:decide (s.t q+m<s.t p)=false:=eN f;refine⟨h,?_,M⟩;simp![YI,OB,NA,wA,gA,uA,Qa,Qo,iA,fA,bC,FC,tF,Ro,r,SM.lD,x,u,eF,vN,VA,d,Vs,eH,QE]
theorem Af{o:HI}{a b c n:Nat}(F:a≠b)(ac:a≠c)(D:b≠c){E:Ms Bd}(y:∀e∈E,e.1<n/\e.2.1<n){s:oH}{h:HI}(M:AI o a b c n E s h)(q p:Ni Dt) :
 ∃m k h',zD (SD 4 5) YI [ε (.ref a),ε (.ref b),ε (.ref c),ε (bF s.l),q,p] (.it a,h)=ε (.nx [ε (.ref a),ε (.ref b),ε (.ref c),ε (bF (E.foldl step s).l),m,k] h')/\AI o a b c n E (E.foldl step s) h':=by
 obtain⟨G,h',e,⟨f,d,rfl⟩,g⟩:=Od (i:=4) (j:=5) (n:=a) (body:=YI) (kvs:=E.map QA) (fun(s:oH) l h=>(∃f d,l=[ε (.ref a),ε (.ref b),ε (.ref c),ε (bF s.l),f,d])/\AI o a b c n E s h) (fun s x=>step s (IQ x)) (fun s l h ⟨_,M⟩=>M.da) (by
  rintro x r s l h ⟨⟨f,d,rfl⟩,M⟩;obtain⟨e,u,rfl⟩:=Ae.mp r;obtain⟨h',C,g⟩:=zf F ac D (y e u) M;rw[V1];exact⟨_,C,⟨_,_,rfl⟩,g⟩) s ⟨⟨q,p,rfl⟩,M⟩
 have B:(E.map QA).foldl (fun s x=>step s (IQ x)) s=E.foldl step s:=by simp![foldl_map,V1]
 rw[B]at e g;exact⟨f,d,h',e,g⟩
theorem Wf{a b c n:Nat}(f:a≠b)(ac:a≠c)(k:b≠c){E:Ms Bd}(g:∀e∈E,e.1<n/\e.2.1<n){s:oH}{h:HI}(da:h[a]?=ε (.dt (E.map QA))\/h[a]?=ε (.df (E.map QA)))(db:h[b]?=ε (.lst (TB n s.t)))(dc:h[c]?=ε (.lst (kE n s.c))) :
 ∃h',lK [.ref a,.ref b,.ref c] h=ε (bF (turn E s).l,h')/\AI h a b c n E (turn E s) h':=by
 have d:a<h.length:=by rcases da with da | da<;>exact(Uo da).1
 obtain⟨h1,i,M⟩:∃h1,nJ (eV 0) [ε (.ref a),ε (.ref b),ε (.ref c),ε .non,none,none] h=ε (.it a,h1)/\AI h a b c n E ⟨s.t,s.c,none⟩ h1:=by
  rcases da with da | da
  . refine⟨_,Zv ⋯ da,⟨by simp,ou d,?_,?_,fun m h1 _ _=>ju (m5 h1)⟩⟩
    . rw[ju f];exact db
    . rw[ju ac];exact dc
  . exact⟨_,Yv ⋯ da,⟨rfl,da,db,dc,fun _ _ _ _=>rfl⟩⟩
 obtain⟨q,p,h',e,o⟩:=Af f ac k g M none none;refine⟨h',?_,o⟩;have j:zD (SD 4 5) YI [ε (.ref a),ε (.ref b),ε (.ref c),ε .non,none,none] (.it a,h1)=_:=e;simp![lK,hU,pB,Qu,Ru,eG,Qs,Uu,List.replicate,Ve,Ui,XA,GB,uA,fA,Us,Ua,fB,WD];simp[i,j];rfl
theorem Ft(l:LI)(h:HI)(b:Dt)(h':HI)(e:OL l h=ε (b,h')):h'=h:=by
 simp![OL,wA,gA]at e;rcases h0:l[0]? with _ | _ | d0
 . rw[h0]at e;cases e
 . rw[h0]at e;cases e
 . rcases h1:l[1]? with _ | _ | d1
   . rw[h0,h1]at e;cases e
   . rw[h0,h1]at e;cases e
   . rw[h0,h1]at e;simp![iA,fA]at e;cases d0<;>cases d1<;>simp[MF,MK]at e;exact e.2.symm
theorem ZW(n:Nat)(t:Nat->Int):TB n t=((List.range n).map t).map Dt.int:=by unfold TB;rw[map_map];rfl
structure BI(h0:HI)(n:Nat)(E:List Bd)(s:oH)(h:HI):Prop where
 len:h.length=h0.length+3
 da:h[h0.length]?=ε (.dt (E.map QA))\/h[h0.length]?=ε (.df (E.map QA))
 db:h[h0.length+1]?=ε (.lst (TB n s.t))
 dc:h[h0.length+2]?=ε (.lst (kE n s.c))
 els:∀m,m<h0.length->h[m]?=h0[m]?
def nE(n:Nat)(t:Nat->Int):Nat->Int:=fun i=>t i-pC ((List.range n).map t)
theorem Vc{d:HI}{n:Nat}(I:1<=n)(B:n<=1000){E:Ms Bd}(D:∀e∈E,e.1<n/\e.2.1<n){s:oH}{h:HI}(M:BI d n E s h)(o k j y i:Ni Dt) :
 ∃f,BI d n E (turn E s) f/\UJ [o,k,ε (.ref d.length),ε (.ref (d.length+1)),ε (.ref (d.length+2)),j,y,i] h =
  (match(turn E s).l with
  | none=>ε (.rt (.tup [.str "times", .lst (TB n (nE n (turn E s).t))]) f)
  | some p=>ε (.nx [o,k,ε (.ref d.length),ε (.ref (d.length+1)),ε (.ref (d.length+2)),j,ε (.int (p:Nat)),i] f)):=by
 obtain⟨f,e,g⟩:=Wf (a:=d.length) (b:=d.length+1) (c:=d.length+2) nofun nofun nofun D M.da M.db M.dc;refine⟨f,⟨by rw[g.len,M.len],.inr g.da,g.db,g.dc,fun m C=>(g.els m nofun nofun nofun).trans (M.els m C)⟩,?_⟩;cases q:(turn E s).l with
 | some p=>rw[q]at e;have u:lK [.ref d.length,.ref (d.length+1),.ref (d.length+2)] h=ε (.int (p:Nat),f):=e;simp[UJ,u,vJ]
 | none=>
  rw[q]at e;have u:lK [.ref d.length,.ref (d.length+1),.ref (d.length+2)] h=ε (.non,f):=e;have r:(List.range n).map (turn E s).t ≠ []:=by intro z;have:=congrArg List.length z;simp at this;omega
  have F:AV (ro 0) [o,k,ε (.ref d.length),ε (.ref (d.length+1)),ε (.ref (d.length+2)),j,ε .non,i] (.ref (d.length+1),f)=ε (.int (pC ((List.range n).map (turn E s).t)),f):=by unfold AV;simp![uA,fA];rw[XG g.db,ZW];simp![Ss,SM.Fg];rw[dh r]
  have G:BE (CA 0) uB OL [none,ε (.int (pC ((List.range n).map (turn E s).t)))] (.rf (d.length+1),f)=ε (TB n (nE n (turn E s).t),f):=by
   rw[bU g.db (by rw[mT];simp;omega) (fun l h b f e q=>by simp at e;rw[<- e.2];exact q) (fun l h b f e q=>by rw[Ft l h b f e];exact q)];rw[ZW,aH Dt.int (fun x=>Dt.int (x-pC ((List.range n).map (turn E s).t))) f _ _ (by
    intro x H;exact⟨by simp,by simp[OL]⟩)]
   unfold TB nE;rw[map_map];rfl
  simp[UJ,u,vJ,F,zF g.db,G]
theorem oU{a:HI}{n:Nat}(D:1<=n)(m:n<=1000){E:Ms Bd}(F:∀e∈E,e.1<n/\e.2.1<n)(j i:Ni Dt):∀(xs:Ms Dt)(k:Nat)(g f d:Ni Dt)(h:HI),BI a n E (fE E k s0) h->(1<=k->∃p:Nat,(fE E k s0).l=ε p/\f=ε (.int (p:Nat)))->
 (∃s b,s.l=none/\(∀e∈E,mH s.t e)/\BI a n E s b/\kC (CA 5) UJ xs [j,i,ε (.ref a.length),ε (.ref (a.length+1)),ε (.ref (a.length+2)),g,f,d] h=ε (.rt (.tup [.str "times", .lst (TB n (nE n s.t))]) b))\/
 (∃u r b,BI a n E (fE E (k+xs.length) s0) b/\(1<=k+xs.length->∃p:Nat,(fE E (k+xs.length) s0).l=ε p/\r=ε (.int (p:Nat)))/\
  kC (CA 5) UJ xs [j,i,ε (.ref a.length),ε (.ref (a.length+1)),ε (.ref (a.length+2)),g,f,d] h=ε (.nx [j,i,ε (.ref a.length),ε (.ref (a.length+1)),ε (.ref (a.length+2)),u,r,d] b))
 | [],k,g,f,d,h,M,q=>.inr ⟨g,f,h,M,q,rfl⟩
 | x::xs,k,g,f,d,h,M,q=>by
  obtain⟨G,M1,o⟩:=Vc D m F M j i (ε x) f d;cases ql:(turn E (fE E k s0)).l with
  | none=>
   rw[ql]at o;obtain⟨_,I,H⟩:=VX E _ ql;refine .inl ⟨turn E (fE E k s0),G,ql,?_,M1,by simp[kC,o]⟩;show ∀e∈E,mH (E.foldl step _).t e
   rw[I];exact H
  | some p=>
   rw[ql]at o;have:=oU D m F j i xs (k+1) (ε x) (ε (.int (p:Nat))) d G M1 (fun _=>⟨p,ql,rfl⟩);rw[show k+(x::xs).length=k+1+xs.length by simp;omega];rcases this with⟨s,b,C,B,y,J⟩ | ⟨u,r,b,C,B,y⟩
   . exact .inl ⟨s,b,C,B,y,by simp[kC,o,J]⟩
   . exact .inr ⟨u,r,b,C,B,by simp[kC,o,y]⟩
def GC(c:Nat->Ni Nat)(P i:Nat):Ms Dt:=(List.range (i+1)).map fun m=>.int ((EB (nxt c) m P:Nat):Int)
theorem Zk(c:Nat->Ni Nat)(P i:Nat):atI (GC c P i) (-1)=ε (.int ((EB (nxt c) i P:Nat):Int)):=by
 unfold GC atI GI;have b:(1:Int)<=(i:Int)+1:=by omega
 have a:(-1+((i:Int)+1)).toNat=i:=by omega
 simp[b,a]
theorem GW{n a k x:Nat}(hn:1<=n)(Z:n<=90){E:Ms Bd}{w:Nat->Nat->Int}{c:Nat->Ni Nat}{h:HI}(dc:h[a]?=ε (.lst (kE n c)))(T:LV n E)
 (R:QH n E w c (EB (nxt c) n x) k) (W:∀i,i<=n->c (EB (nxt c) i x)=ε (EB (nxt c) (i+1) x)/\EB (nxt c) i x<n) :
 bO [.int (x:Nat),.ref a] h=ε (.ref h.length,h++[.lst (GC c (EB (nxt c) n x) k)]):=by
 have L:=fun i=>FE dc i
 have U:=fG (h:=h) (show(-(2^62):Int)<=(n:Int) by omega) (show(n:Int)<2^62 by omega);simp![m6]at U;obtain⟨l',b,e,⟨y,rfl⟩,Q⟩:=bK (i:=2) (body:=OQ) (fun(k:Nat)=>Dt.int (k:Int)) (fun i l b=>(∃y,l=[ε (.int ((EB (nxt c) i x:Nat):Int)),ε (.ref a),y,none])/\b=h) n (by
  rintro i hi l b ⟨⟨y,rfl⟩,rfl⟩;obtain⟨q,p⟩:=W i nofun;have o:=HS c p;rw[q]at o;refine⟨.nx [ε (.int ((EB (nxt c) (i+1) x:Nat):Int)),ε (.ref a),ε (.int (i:Nat)),none] b,?_,⟨_,rfl⟩,rfl⟩;simp![OQ,GB,wA,gA,Us,Ua,Qa,Qo,iA,fA,L,SM.lD,o,Ro,bF]) [ε (.int (x:Nat)),ε (.ref a),none,none] h ⟨⟨_,rfl⟩,rfl⟩
 rw[Q]at e;clear Q;obtain⟨q,p⟩:=W n (Ra _);generalize hP:EB (nxt c) n x=P at R e q p;have H:c P=ε (EB (nxt c) (n+1) x):=q;have f:=HS c p;have f1:EB (nxt c) (n+1) x=nxt c P:=by show nxt c (EB (nxt c) n x)=_;rw[hP]
 rw[H,f1]at f;obtain⟨r,S,s⟩:=MX (t:=NQ) (body:=PQ) (fun m l b=>∃i,1<=i/\i<=k/\m=k-i/\l=[ε (.int (P:Nat)),ε (.ref a),y,ε (.ref h.length)]/\b=h++[.lst (GC c P i)])
  (fun l b=>l=[ε (.int (P:Nat)),ε (.ref a),y,ε (.ref h.length)]/\b=h++[.lst (GC c P k)]) (fun _ _=>False) (by
  rintro m l b ⟨i,Y,X,rfl,rfl,rfl⟩;have F:(h++[Ob.lst (GC c P i)])[h.length]?=ε (.lst (GC c P i)):=by simp
  have G:(h++[Ob.lst (GC c P i)])[a]?=ε (.lst (kE n c)):=by rw[Vo (Uo dc).1];exact dc
  have J:=fun j=>FE F j
  have u:=fun j=>FE G j
  have M:=Zk c P i;refine⟨!decide (((EB (nxt c) i P:Nat):Int)=(P:Int)),h++[.lst (GC c P i)],?_,?_⟩
  . simp![NQ,NA,wA,gA,UM,uA,ZL,Qa,Qo,iA,fA,J,M,Ro,YH,VA]
  . by_cases hk:i=k
    . subst hk;rw[R.back];simp
    . have ne:=R.first i Y nofun;have B:¬(((EB (nxt c) i P:Nat):Int)=(P:Int)):=fun z=>ne nofun
      rw[eN B];obtain⟨g1,g2⟩:=R.edge i X;have D:=(T.lt _ g1).1;have o:=HS c D;rw[g2]at o;have ea:e2 rA (eV 1) (e2 rA (eV 3) (TC (ro 1))) [ε (.int (P:Nat)),ε (.ref a),y,ε (.ref h.length)] (h++[.lst (GC c P i)])=ε (.int ((EB (nxt c) (i+1) P:Nat):Int),h++[.lst (GC c P i)]):=by simp![wA,gA,UM,uA,ZL,Qa,Qo,iA,fA,J,M,Ro,u,SM.lD,o,bF]
      have I:=qF (l:=[ε (.int (P:Nat)),ε (.ref a),y,ε (.ref h.length)]) (g:=e2 rA (eV 1) (e2 rA (eV 3) (TC (ro 1)))) F ea F (by have:=R.le;simp[GC];omega);have en:GC c P i++[.int ((EB (nxt c) (i+1) P:Nat):Int)]=GC c P (i+1):=by unfold GC;rw[Hu (n:=i+1),Fe];rfl
      rw[en]at I;have es:(h++[Ob.lst (GC c P i)]).set h.length (.lst (GC c P (i+1)))=h++[.lst (GC c P (i+1))]:=by simp
      rw[es]at I;refine⟨.nx [ε (.int (P:Nat)),ε (.ref a),y,ε (.ref h.length)] (h++[.lst (GC c P (i+1))]),?_,k-(i+1),by omega,i+1,by omega,by omega,rfl,rfl,rfl⟩;simp![PQ,cE,ZE,gA,Qa,Qo,iA,fA,I]) 100 (k-1) [ε (.int (P:Nat)),ε (.ref a),y,ε (.ref h.length)] (h++[.lst (GC c P 1)]) ⟨1,Ra _,R.pos,rfl,rfl,rfl⟩ (by have:=R.le;omega)
 cases r with
 | nx O C=>obtain⟨rfl,rfl⟩:=s;have e1:GC c P 1=[.int (P:Nat),.int ((nxt c P:Nat):Int)]:=rfl;rw[e1]at S;simp[bO,DR,EH dc,cX,U,e,L,f,bF,S]
 | rt d C=>exact s.elim
 | bk O C=>exact s.elim
 | ct O C=>exact s.elim
def OK(a:Ms Bd)(p q:Nat):Int:=(yI (AB a) p q).getD 0
theorem JQ{a:Ms Bd}{e:Bd}(he:e∈AB a):OK a e.1 e.2.1=e.2.2:=by
 unfold OK yI;cases q:(AB a).find? (vD e.1 e.2.1)with
 | none=>have:=find?_eq_none.mp q e he;exact Ci (cw.mpr ⟨rfl,rfl⟩) this
 | some x=>obtain⟨d,b⟩:=cw.mp (find?_some q);exact(pJ a).un x (za q) e he d b
theorem nU{n:Nat}{a:Ms Bd}(d:∀e∈a,e.1<n/\e.2.1<n/\e.1≠e.2.1):LV n (AB a):=⟨fun e b=>d e ((pJ a).mem e b),(pJ a).un⟩
theorem ph{n:Nat}(E:1<=n)(O:n<=16)(a:Ms Bd)(S:∀e∈a,e.1<n/\e.2.1<n/\e.1≠e.2.1)(Q:a.length<=1000)(h:HI) :
 (∃t b,(∀e∈a,mH t e)/\(∀m,m<h.length->b[m]?=h[m]?)/\aG [.int (n:Nat),.lst (a.map nA)] h=ε (.tup [.str "times", .lst (TB n (nE n t))],b))\/
 (∃c P k r b,QH n (AB a) (OK a) c P k/\(∀m,m<h.length->b[m]?=h[m]?)/\b[r]?=ε (.lst (GC c P k))/\aG [.int (n:Nat),.lst (a.map nA)] h=ε (.tup [.str "ring", .ref r],b)):=by
 have T:=nU S;have U:∀e∈AB a,e.1<n/\e.2.1<n:=fun e d=>⟨(T.lt e d).1,(T.lt e d).2.1⟩
 have F:=Oq a Q h;have o:=DO (h:=h++[.dt ((AB a).map QA)]) (Dt.int 0) (show n<=1000000 by omega);have f:=DO (h:=h++[.dt ((AB a).map QA)]++[.lst (List.replicate n (Dt.int 0))]) Dt.non (show n<=1000000 by omega);have J:List.replicate n (Dt.int 0)=TB n s0.t:=by unfold TB;rw[show(fun i=>Dt.int (s0.t i))=fun _=>Dt.int 0 from rfl,map_const',Ei]
 have Y:List.replicate n Dt.non=kE n s0.c:=by unfold kE;rw[show(fun i=>bF (s0.c i))=fun _=>Dt.non from rfl,map_const',Ei]
 rw[J]at o f;rw[Y]at f;simp![nu,Ve,Ui,g8,Qu,Ru,xu]at o f;have B:=fun h=>fG (h:=h) (show(-(2^62):Int)<=(n:Int)+1 by omega) (show(n:Int)+1<2^62 by omega)
 have W:((n:Int)+1).toNat=n+1:=by omega
 rw[W]at B;have M:BI h n (AB a) (fE (AB a) 0 s0) (h++[.dt ((AB a).map QA),.lst (TB n s0.t),.lst (kE n s0.c)]):=by
  refine⟨by simp,.inl ?_,?_,?_,fun m y=>Vo y⟩
  . rw[Ye (Ra _),Bu];rfl
  . rw[Ye nofun,Io];rfl
  . rw[Ye nofun,Io];rfl
 rcases oU E nofun U (ε (.int (n:Nat))) (ε (.lst (a.map nA))) ((List.range (n+1)).map fun(k:Nat)=>Dt.int (k:Int)) 0 none none none _ M (fun h=>Ci h nofun)with⟨s,b,j,q,C,Z⟩ | ⟨y5,y6,b,j,q,C⟩
 . refine .inl ⟨s.t,b,fun e d=>?_,C.els,?_⟩
   . obtain⟨x,L,H,G,x3⟩:=(pJ a).low e d;have:=q x L;simp![mH]at this ⊢;rw[H,G]at this;omega
   . simp[aG,jK,F,o,f,B,Z]
 . rw[lq,Ei,xu]at j q;obtain⟨p,ql,rfl⟩:=q nofun;obtain⟨u,D,I,_⟩:=zT T (fun e d=>JQ d) n;obtain⟨k,R,X⟩:=oZ T I ql;have g:=GW E nofun j.dc T R X;refine .inr ⟨(fE (AB a) (n+1) s0).c,EB (nxt (fE (AB a) (n+1) s0).c) n p,k,b.length,b++[.lst (GC (fE (AB a) (n+1) s0).c (EB (nxt (fE (AB a) (n+1) s0).c) n p) k)],R,fun m y=>?_,?_,?_⟩
   . rw[Vo (by rw[j.len];omega)];exact j.els m y
   . rw[Ye (Ra _),Bu];rfl
   . simp[aG,jK,F,o,f,B,C,g]
theorem sW(b:Ms Bd)(F:b.length<=1000)(h:HI){a:Nat}(da:h[a]?=ε (.lst (b.map nA))):dI [.ref a] h=ε (.ref h.length,h++[.dt ((AB b).map QA)]):=by
 obtain⟨C,j,e,⟨g,f,rfl⟩,rfl,_⟩:=zP (i:=2) (n:=a) (body:=pL) nA (fun k l j=>(∃g f,l=[ε (.ref a),ε (.ref h.length),g,f])/\j=h++[.dt (((b.take k).foldl UC []).map QA)]/\((b.take k).foldl UC []).length<=k) b (by
  rintro k l j ⟨_,rfl,_⟩;rw[Vo (Uo da).1];exact da) (by
  rintro k x p l j ⟨⟨g,f,rfl⟩,rfl,s⟩;have D:k<b.length:=(Uo p).1;rw[kY UC [] p];generalize (b.take k).foldl UC []=E at s;have m:(h++[Ob.dt (E.map QA)])[h.length]?=ε (.dt (E.map QA)):=by simp
  have B:([ε (Dt.ref a),ε (.ref h.length),g,f]:LI).set 2 (ε (nA x))=[ε (Dt.ref a),ε (.ref h.length),ε (nA x),f]:=rfl;rw[B];refine⟨.nx [ε (.ref a),ε (.ref h.length),ε (nA x),ε (.ntp [(x.1:Int),(x.2.1:Int)])] (h++[.dt ((UC E x).map QA)]),?_,⟨_,_,rfl⟩,rfl,?_⟩
  . have u:nI (eV 1) (eV 3) (e2 rA (eV 2) (ro 2)) [ε (.ref a),ε (.ref h.length),ε (nA x),ε (.ntp [(x.1:Int),(x.2.1:Int)])] (h++[.dt (E.map QA)])=ε (.int ((yI E x.1 x.2.1).getD x.2.2),h++[.dt (E.map QA)]):=by rw[TZ (n:=h.length) (k:=[(x.1:Int),(x.2.1:Int)]) (kvs:=E.map QA) ⋯ m ⋯];simp![wA,gA,uA,Qa,Qo,iA,fA,nA,bC,BK,Ro];rw[K0 m,cV];cases yI E x.1 x.2.1<;>rfl
    have r:=C1 (l:=[ε (.ref a),ε (.ref h.length),ε (nA x),ε (.ntp [(x.1:Int),(x.2.1:Int)])]) (h:=h++[.dt (E.map QA)]) (fe:=pQ GK (nI (eV 1) (eV 3) (e2 rA (eV 2) (ro 2))) (e2 rA (eV 2) (ro 2))) (fo:=eV 1) (fy:=eV 3) (n:=h.length) (k:=[(x.1:Int),(x.2.1:Int)]) (kvs:=E.map QA)
     (d:=.int (min ((yI E x.1 x.2.1).getD x.2.2) x.2.2)) (by
      rw[DQ,u,fA];simp[nA]) ⋯ m ⋯ (by simp;omega)
    rw[QY]at r;have y:(h++[Ob.dt (E.map QA)]).set h.length (.dt ((UC E x).map QA))=h++[.dt ((UC E x).map QA)]:=by simp
    simp![pL,XA,GB,L3,EA,zA,wA,gA,uA,Qa,Qo,iA,fA,nA,bC,FC,tF,Ro,sY,Us,Ua,fB];have q:=r;simp![nA]at q;rw[q];show ε (Rs.nx _ ((h++[Ob.dt (E.map QA)]).set h.length (.dt ((UC E x).map QA))))=_;rw[y]
  . have:=BY E x.1 x.2.1 (min ((yI E x.1 x.2.1).getD x.2.2) x.2.2);show(UC E x).length<=k+1;unfold UC;omega) [ε (.ref a),ε (.ref h.length),none,none] (h++[.dt []]) ⟨⟨_,_,rfl⟩,by simp,by simp⟩
 have o:(h++[Ob.dt []])[a]?=ε (.lst (b.map nA)):=by rw[Vo (Uo da).1];exact da
 rw[Ka]at e;simp[dI,UN,zF o,e];rfl
theorem tY{n a:Nat}(F:1<=n)(Q:n<=16)(b:Ms Bd)(U:∀e∈b,e.1<n/\e.2.1<n/\e.1≠e.2.1)(S:b.length<=1000)(h:HI)(da:h[a]?=ε (.lst (b.map nA))) :
 (∃t d,(∀e∈b,mH t e)/\(∀m,m<h.length->d[m]?=h[m]?)/\aG [.int (n:Nat),.ref a] h=ε (.tup [.str "times", .lst (TB n (nE n t))],d))\/
 (∃c P k r d,QH n (AB b) (OK b) c P k/\(∀m,m<h.length->d[m]?=h[m]?)/\d[r]?=ε (.lst (GC c P k))/\aG [.int (n:Nat),.ref a] h=ε (.tup [.str "ring", .ref r],d)/\h.length<=r):=by
 have T:=nU U;have W:∀e∈AB b,e.1<n/\e.2.1<n:=fun e f=>⟨(T.lt e f).1,(T.lt e f).2.1⟩
 have G:=sW b S h da;have q:=DO (h:=h++[.dt ((AB b).map QA)]) (Dt.int 0) (show n<=1000000 by omega);have o:=DO (h:=h++[.dt ((AB b).map QA)]++[.lst (List.replicate n (Dt.int 0))]) Dt.non (show n<=1000000 by omega);have L:List.replicate n (Dt.int 0)=TB n s0.t:=by unfold TB;rw[show(fun i=>Dt.int (s0.t i))=fun _=>Dt.int 0 from rfl,map_const',Ei]
 have Z:List.replicate n Dt.non=kE n s0.c:=by unfold kE;rw[show(fun i=>bF (s0.c i))=fun _=>Dt.non from rfl,map_const',Ei]
 rw[L]at q o;rw[Z]at o;simp![nu,Ve,Ui,g8,Qu,Ru,xu]at q o;have C:=fun h=>fG (h:=h) (show(-(2^62):Int)<=(n:Int)+1 by omega) (show(n:Int)+1<2^62 by omega)
 have X:((n:Int)+1).toNat=n+1:=by omega
 rw[X]at C;have M:BI h n (AB b) (fE (AB b) 0 s0) (h++[.dt ((AB b).map QA),.lst (TB n s0.t),.lst (kE n s0.c)]):=by
  refine⟨by simp,.inl ?_,?_,?_,fun m B=>Vo B⟩
  . rw[Ye (Ra _),Bu];rfl
  . rw[Ye nofun,Io];rfl
  . rw[Ye nofun,Io];rfl
 rcases oU F nofun W (ε (.int (n:Nat))) (ε (.ref a)) ((List.range (n+1)).map fun(k:Nat)=>Dt.int (k:Int)) 0 none none none _ M (fun h=>Ci h nofun)with⟨s,d,j,y,E,a4⟩ | ⟨y5,y6,d,j,y,E⟩
 . refine .inl ⟨s.t,d,fun e f=>?_,E.els,?_⟩
   . obtain⟨x,O,J,H,x3⟩:=(pJ b).low e f;have:=y x O;simp![mH]at this ⊢;rw[J,H]at this;omega
   . simp[aG,jK,G,q,o,C,a4]
 . rw[lq,Ei,xu]at j y;obtain⟨p,ql,rfl⟩:=y nofun;obtain⟨u,D,I,_⟩:=zT T (fun e f=>JQ f) n;obtain⟨k,R,Y⟩:=oZ T I ql;have g:=GW F nofun j.dc T R Y;refine .inr ⟨(fE (AB b) (n+1) s0).c,EB (nxt (fE (AB b) (n+1) s0).c) n p,k,d.length,d++[.lst (GC (fE (AB b) (n+1) s0).c (EB (nxt (fE (AB b) (n+1) s0).c) n p) k)],R,fun m B=>?_,?_,?_,by rw[j.len];omega⟩
   . rw[Vo (by rw[j.len];omega)];exact j.els m B
   . rw[Ye (Ra _),Bu];rfl
   . simp[aG,jK,G,q,o,C,E,g]
theorem Vt{n:Nat}{a:Ms Bd}{b:Nat->Int}{c:Nat->Ni Nat}{P k:Nat}(f:∀e∈a,b e.1-b e.2.1<=e.2.2)(R:QH n (AB a) (OK a) c P k):False:=by
 have h:∀i,i<=k->b P-b (EB (nxt c) i P)<=((List.range i).map fun m=>OK a (EB (nxt c) m P) (EB (nxt c) (m+1) P)).sum:=by
  intro i
  induction i with
  | zero=>intro _;show b P-b P<=0;omega
  | succ i ih=>intro j;have d:=ih nofun;have g:=f _ ((pJ a).mem _ (R.edge i nofun).1);rw[Hu,Fe,sum_append];simp![Qs,Uu,sum_cons,sum_nil,Int.add_zero]at g ⊢;omega
 have d:=h k (Ra _);rw[R.back]at d;have:=R.sum;omega
theorem pi{s:Type}{bd:RG}{n:Nat}{body:RS}(D:s->Dt)(I:LI->HI->Prop)(xs:Ms s)(u:∀l h,I l h->h[n]?=ε (.lst (xs.map D)))
 (H:∀x∈xs,∀l h,I l h->∃g r,bd (D x) l=ε g/\body g h=ε r/\Pass I r):∀l h,I l h->∃b h',zD bd body l (.rf n,h)=ε (.nx b h')/\I b h':=by
 have go:∀(f k:Nat)(l:LI)(h:HI),I l h->f=xs.length-k+1->k<=xs.length->∃b h',DB bd body (.rf n) f k l h=ε (.nx b h')/\I b h':=by
  intro f
  induction f with
  | zero=>intro k l h _ e;omega
  | succ f ih=>
   intro k l h i E C;have e:=u l h i;by_cases a:k<xs.length
   . obtain⟨g,r,q,e2,p⟩:=H xs[k] (getElem_mem a) l h i;have o:(xs.map D)[k]?=ε (D xs[k]):=by rw[qu,iu a];rfl
     have y:DB bd body (.rf n) (f+1) k l h=cB (body g h) (dN (DB bd body (.rf n) f (k+1))):=by
      simp![DB,qi.at,e,o,q,Ss];cases body g h with
      | none=>rfl
      | some r=>cases r<;>rfl
     rw[y,e2,fA];cases r with
     | nx m j=>exact ih (k+1) m j p nofun a
     | ct m j=>exact ih (k+1) m j p nofun a
     | bk m j=>exact p.elim
     | rt d j=>exact p.elim
   . have o:(xs.map D)[k]?=none:=jj (by rw[lq];omega);exact⟨l,h,by simp![DB,qi.at,e,o],i⟩
 intro l h i;have e:=u l h i;obtain⟨b,h',q,e2⟩:=go (xs.length+1) 0 l h i nofun (mq _);refine⟨b,h',?_,e2⟩;show DB bd body (.rf n) (qi.fuel (.rf n) h) 0 l h=_;have B:qi.fuel (.rf n) h=xs.length+1:=by simp![qi.fuel,e,lq]
 rw[B];exact q
noncomputable def NC(t a b:Int):Nat:=if t<a then 0 else if t=a then 1 else if t<b then 2 else if t=b then 3 else 4
noncomputable def ba:Ms (Nat×Nat):=[(0,0),(0,1),(0,2),(0,3),(0,4),(1,2),(1,3),(1,4),(2,2),(2,3),(2,4),(3,4),(4,4)]
theorem CO{a b c d:Int}(h1:a<b)(h2:c<d):(NC a c d,NC b c d)∈ba:=by
 unfold NC
 repeat' split
 all_goals first | (exfalso;omega) | decide
noncomputable def pr(p:Nat×Nat):Dt:=.tup [.int (p.1:Int),.int (p.2:Int)]
noncomputable def HE(s:Int×Int):Dt:=.tup [.int s.1,.int s.2]
def Yu(s o:Int×Int):Nat:=ba.idxOf (NC s.1 o.1 o.2,NC s.2 o.1 o.2)
def IE(s:Int×Int):Prop:=s.1<s.2
theorem YG{s o:Int×Int}(h1:IE s)(h2:IE o):Yu s o<13:=idxOf_lt_length_of_mem (CO h1 h2)
theorem pj:∀p∈ba,x8 (ba.map pr) (pr p)=true/\UV (ba.map pr) (pr p)=ε (ba.idxOf p):=by intro p a;simp![ba,zu,not_mem_nil,or_false]at a;rcases a with rfl | rfl | rfl | rfl | rfl | rfl | rfl | rfl | rfl | rfl | rfl | rfl | rfl<;>exact⟨rfl,rfl⟩
noncomputable def cL(n:Nat)(p:Nat->Bool):Nat:=match n with
 | 0=>0
 | n+1=>cL n p+(if p n=true then 2^n else 0)
theorem JU(p:Nat->Bool):∀n,cL n p<2^n
 | 0=>by simp[cL]
 | n+1=>by have:=JU p n;simp![cL];rw[Nat.pow_succ];split<;>omega
theorem MZ(p:Nat->Bool):∀n k,(cL n p).testBit k=(decide (k<n)&&p k)
 | 0,k=>by simp[cL]
 | n+1,k=>by
  have ih:=MZ p n k;have lt:=JU p n;simp![cL];by_cases a:p n=true
  . rw[dh a,Nat.add_comm];rcases Nat.lt_trichotomy k n with h | h | h
    . rw[Nat.testBit_two_pow_add_gt h,ih];simp[h,Gs h]
    . subst h;rw[Nat.testBit_two_pow_add_eq,ih];simp[a]
    . have:2^n+cL n p<2^k:=ji (show 2^n+cL n p<2^(n+1) by rw[Nat.pow_succ];omega) (Nat.pow_le_pow_right (by decide) h);rw[Nat.testBit_lt_two_pow this];have:¬k<n+1:=by omega
      simp[this]
  . rw[dG a,Nat.add_zero,ih];by_cases h:k=n
    . subst h;simp[a]
    . have:(k<n+1)=(k<n):=by apply propext;omega
      simp[this]
theorem dM{a b:Nat}(g:a<8192)(f:b<8192)(h:∀k<13,a.testBit k=b.testBit k):a=b:=by
 apply Hs;intro k;by_cases d:k<13
 . exact h k d
 . have e:8192<=2^k:=by have:=Nat.pow_le_pow_right (show 1<=2 by decide) (show 13<=k by omega);exact this
   rw[Nat.testBit_lt_two_pow nofun,Nat.testBit_lt_two_pow nofun]
def mk(p:Nat->Bool):Nat:=cL 13 p
theorem y8(p:Nat->Bool):mk p<8192:=JU p 13
theorem Y6(p:Nat->Bool){k:Nat}(a:k<13):(mk p).testBit k=p k:=by unfold mk;rw[MZ];simp[a]
noncomputable def eB(m:Nat):Ms Nat:=(List.range 13).filter m.testBit
theorem bj{m k:Nat}:k∈eB m↔k<13/\m.testBit k=true:=by simp[eB]
theorem Dv(g:Nat->Int)(p:Nat->Bool)(xs:Ms Nat):((xs.filter p).map g).sum=(xs.map fun k=>if p k=true then g k else 0).sum:=by
 induction xs with
 | nil=>rfl
 | cons x xs ih=>by_cases h:p x=true<;>simp[h,ih]
theorem Ht(p:Nat->Bool):((((List.range 13).filter p).map fun k=>(2:Int)^(12-k))).sum=(mk (fun j=>p (12-j)):Int):=by
 rw[Dv];simp![mk,cL,List.range,List.range.loop,Qs,Uu,sum_cons,sum_nil,Nat.reduceSub];generalize p 0=a0;generalize p 1=a1;generalize p 2=a2;generalize p 3=a3;generalize p 4=a4;generalize p 5=a5;generalize p 6=a6;generalize p 7=a7;generalize p 8=a8;generalize p 9=a9;generalize p 10=a10;generalize p 11=a11;generalize p 12=a12;have f:∀(b:Bool)(k:Nat),(if b=true then(2:Int)^k else 0)=((if b=true then 2^k else 0:Nat):Int):=by intro b k;cases b<;>simp
 simp![f];omega
def Za(m:Nat):Nat:=mk fun j=>m.testBit (12-j)
theorem pM(m:Nat):Za m<8192:=y8 _
theorem AG(m:Nat){k:Nat}(a:k<13):(Za m).testBit k=m.testBit (12-k):=Y6 _ a
theorem nT{m:Nat}(a:m<8192):Za (Za m)=m:=dM (pM _) a fun k b=>by
 rw[AG _ b,AG _ nofun]
 congr 1
 omega
theorem iK(a b:Nat):Builtin.bitAnd (a:Int) (b:Int)=((a&&&b:Nat):Int):=by unfold Builtin.bitAnd;simp
theorem gP(a b:Nat):Builtin.bitOr (a:Int) (b:Int)=((a|||b:Nat):Int):=by
 unfold Builtin.bitOr Builtin.bitAnd Builtin.bitNot;have f:decide (0<=-(a:Int)-1)=false:=by simp;omega
 have d:decide (0<=-(b:Int)-1)=false:=by simp;omega
 have e:∀x:Int,-(-x-1)-1=x:=by intro x;omega
 simp![f,d,e];simp
theorem Pk(a b:Nat):Builtin.bitXor (a:Int) (b:Int)=((a|||b:Nat):Int)-((a&&&b:Nat):Int):=by unfold Builtin.bitXor;rw[iK,gP]
theorem Lb(m k:Nat):decide (Builtin.bitAnd ((m:Int)/2^k) 1=1)=m.testBit k:=by
 have e:((m:Int)/2^k)=((m/2^k:Nat):Int):=by simp
 rw[e];have:=iK (m/2^k) 1;simp![Hi]at this;rw[this,Nat.testBit_eq_decide_div_mod_eq];have e2:(m/2^k&&&1)=m/2^k%2:=Nat.and_one_is_mod _;rw[e2]
 congr 1
 apply propext;omega
theorem UK{k:Nat}(a:k<13):lH 1 (k:Int):=⟨by omega,by omega,by decide⟩
theorem Ip(h:HI):C4 (.int 13,h)=ε (.vals ((List.range 13).map fun(k:Nat)=>Dt.int (k:Int)),h):=fG (by decide) (by decide)
theorem Vl{a:Type}(f:Nat->a):((List.range 13).map f).length<sizeLine:=by rw[lq,Ei];decide
theorem B5{i:Nat}(h:i<13):i=0\/i=1\/i=2\/i=3\/i=4\/i=5\/i=6\/i=7\/i=8\/i=9\/i=10\/i=11\/i=12:=by revert i;decide
theorem NL(m:Nat):(eB m).length<=13:=by unfold eB;exact n7 (length_filter_le _ _) ⋯
theorem JL(m:Nat)(h:HI):zH [.int m] h=ε (.lst ((eB m).map fun(k:Nat)=>Dt.int (k:Int)),h):=by
 have a:=cU (te:=UR) (tc:=VR) (i:=0) (fun(k:Nat)=>Dt.int (k:Int)) m.testBit (fun(k:Nat)=>Dt.int (k:Int)) h (List.range 13) [none,ε (.int m)] fun k _=>⟨by
  simp[VR,dj,Lb],fun _=>by simp[UR]⟩
 simp[zH,VS,Ip,PF _ _ _ (Vl _),a,eB]
theorem Dh(a:Ms Nat)(f:∀k∈a,k<13)(e:a.length<=13)(h:HI):KO [.lst (a.map fun(k:Nat)=>Dt.int (k:Int))] h=ε (.int ((a.map fun k=>(2:Int)^k).sum),h):=by
 have g:=aH (te:=AS) (tc:=uB) (i:=0) (fun(k:Nat)=>Dt.int (k:Int)) (fun(k:Nat)=>Dt.int ((2:Int)^k)) h a [none] fun k d=>⟨rfl,by
  simp[AS,QM (UK (f k d))]⟩
 have hs:((a.map fun(k:Nat)=>Dt.int (k:Int))).length<sizeLine:=by rw[lq];exact Ca e (by decide)
 have b:=V2 (h:=h) (a.map fun k=>(2:Int)^k);rw[map_map]at b;have:(Dt.int ∘ fun k=>(2:Int)^k)=fun(k:Nat)=>Dt.int ((2:Int)^k):=rfl
 rw[this]at b;simp[KO,UT,PF _ _ _ hs,g,b]
theorem Gh(m:Nat)(h:HI):LO [.int m] h=ε (.int (Za m),h):=by
 have e:=aH (te:=BS) (tc:=uB) (i:=0) (fun(k:Nat)=>Dt.int (k:Int)) (fun(k:Nat)=>Dt.int (((12-k:Nat):Nat):Int)) h (eB m) [none] fun k b=>⟨rfl,by
  have:=(bj.mp b).1;simp[BS];omega⟩
 have hs:((eB m).map fun(k:Nat)=>Dt.int (k:Int)).length<sizeLine:=by rw[lq];exact Ca (NL m) (by decide)
 have a:=Dh ((eB m).map fun k=>12-k) (by intro k d;obtain⟨j,_,rfl⟩:=Ae.mp d;omega) (by rw[lq];exact NL m) h;rw[map_map,map_map]at a;have g:((fun(k:Nat)=>Dt.int (k:Int)) ∘ fun k=>12-k)=fun(k:Nat)=>Dt.int (((12-k:Nat):Nat):Int):=rfl
 have e2:((fun(k:Nat)=>(2:Int)^k) ∘ fun k=>12-k)=fun(k:Nat)=>(2:Int)^(12-k):=rfl
 have f:((eB m).map fun k=>(2:Int)^(12-k)).sum=(Za m:Int):=Ht _;rw[g,e2,f]at a;simp[LO,VT,JL,PF _ _ _ hs,e,a]
theorem bX(t a b:Int)(i:a<b):(t<a/\NC t a b=0)\/(t=a/\NC t a b=1)\/(a<t/\t<b/\NC t a b=2)\/(t=b/\NC t a b=3)\/(b<t/\NC t a b=4):=by
 unfold NC;rcases Int.lt_trichotomy t a with h | h | h
 . exact .inl ⟨h,dh h⟩
 . exact .inr (.inl ⟨h,by rw[dG (by rw[h];exact Int.lt_irrefl a),dh h]⟩)
 . have g:¬t<a:=fun z=>Int.lt_irrefl a (Int.lt_trans h z)
   have f:¬t=a:=fun z=>Int.lt_irrefl a (z ▸ h)
   rw[dG g,dG f];rcases Int.lt_trichotomy t b with k | k | k
   . exact .inr (.inr (.inl ⟨h,k,dh k⟩))
   . exact .inr (.inr (.inr (.inl ⟨k,by rw[dG (by rw[k];exact Int.lt_irrefl b),dh k]⟩)))
   . have e:¬t<b:=fun z=>Int.lt_irrefl b (Int.lt_trans k z)
     have d:¬t=b:=fun z=>Int.lt_irrefl b (z ▸ k)
     exact .inr (.inr (.inr (.inr ⟨k,by rw[dG e,dG d]⟩)))
noncomputable def Z2(ns:Ms Int):Ms Nat:=0::8191::ns.map fun c=>(c%8192).toNat
theorem pp{ns:Ms Int}{m:Nat}(h:m∈Z2 ns):m<8192:=by
 simp![Z2,zu,Ae]at h;rcases h with rfl | rfl | ⟨c,_,rfl⟩
 . decide
 . decide
 . have:=Int.emod_lt_of_pos c (show(0:Int)<8192 by decide);have:=Int.emod_nonneg c (show(8192:Int)≠0 by decide);omega
def CH(i j:Nat):Nat:=match bq[i]? with
 | some (.tup r)=>(match r[j]? with
  | some (.int n)=>n.toNat
  | _=>0)
 | _=>0
noncomputable def D5:Dt->Nat
 | .int n=>n.toNat
 | _=>0
def yN:Dt->Ms Nat
 | .tup r=>r.map D5
 | _=>[]
theorem Gb:bq=(bq.map yN).map fun r=>.tup (r.map fun n:Nat=>.int (n:Int)):=by rfl
theorem O8:(bq.map yN).length=13/\∀r∈bq.map yN,r.length=13:=by decide +kernel
theorem P8{i j:Nat}(g:i<13)(f:j<13):∃r,bq[i]?=ε (.tup r)/\r[j]?=ε (.int (CH i j)):=by
 obtain⟨N,h⟩:∃N,bq.map yN=N:=⟨_,rfl⟩
 have T:=Gb;have d:=O8;rw[h]at T d;have a:i<N.length:=by rw[d.1];exact g
 have e:bq[i]?=ε (.tup (N[i].map fun n:Nat=>.int (n:Int))):=by rw[T,qu,iu a];rfl
 have b:j<N[i].length:=by rw[d.2 _ (getElem_mem a)];exact f
 have e2:(N[i].map fun n:Nat=>Dt.int (n:Int))[j]?=ε (.int (N[i][j]:Int)):=by rw[qu,iu b];rfl
 refine⟨_,e,?_⟩;rw[e2];unfold CH;rw[e];dsimp only;rw[e2];rfl
theorem Fb:∀i<13,∀j<13,1<=CH i j/\CH i j<8192:=by decide +kernel
theorem KY:∀i<13,∀j<13,∀k<13,(CH (12-j) (12-i)).testBit (12-k)=(CH i j).testBit k:=by decide +kernel
noncomputable def rk(l:Ms Int)(x:Int):Nat:=match l with
 | []=>0
 | z::l=>(if z<x then 1 else 0)+rk l x
theorem P3{x y:Int}(h:x<=y):∀l,rk l x<=rk l y
 | []=>Ra _
 | z::l=>by have:=P3 h l;unfold rk;split<;>split<;>omega
theorem xI{x y:Int}(h:x<y):∀l,x∈l->rk l x<rk l y
 | z::l,m=>by
  unfold rk;rcases zu.mp m with rfl | m
  . have:=P3 (Int.le_of_lt h) l;rw[dG (Int.lt_irrefl _),dh h];omega
  . have:=xI h l m;split<;>split<;>omega
theorem rP{x:Int}:∀l,x∈l->rk l x<l.length
 | z::l,m=>by
  have q:∀l,rk l x<=l.length:=by
   intro l;induction l with
   | nil=>exact Ra _
   | cons z l ih=>unfold rk;rw[Qu];split<;>omega
  unfold rk;rw[Qu];rcases zu.mp m with rfl | m
  . have:=q l;rw[dG (Int.lt_irrefl _)];omega
  . have:=rP l m;split<;>omega
theorem ZX{l:Ms Int}{x y:Int}(b:x∈l)(a:y∈l):(x<y)=((rk l x:Int)<(rk l y:Int)):=by
 apply propext;constructor
 . intro h;have:=xI h l b;omega
 . intro h;rcases Int.lt_trichotomy x y with g | g | g
   . exact g
   . subst g;omega
   . have:=xI g l a;omega
theorem YX{l:Ms Int}{x y:Int}(b:x∈l)(a:y∈l):(x=y)=((rk l x:Int)=(rk l y:Int)):=by
 apply propext;constructor
 . intro h;rw[h]
 . intro h;rcases Int.lt_trichotomy x y with g | g | g
   . have:=xI g l b;omega
   . exact g
   . have:=xI g l a;omega
theorem nK{l:Ms Int}{t a b:Int}(d:t∈l)(f:a∈l)(e:b∈l):NC t a b=NC (rk l t) (rk l a) (rk l b):=by unfold NC;simp![ZX d f,YX d f,ZX d e,YX d e]
noncomputable def tI(t a b:Nat):Nat:=if t<a then 0 else if t=a then 1 else if t<b then 2 else if t=b then 3 else 4
theorem M8(t a b:Nat):NC t a b=tI t a b:=by unfold NC tI;simp![Int.ofNat_lt,Int.ofNat_inj]
noncomputable def LJ(z y:Nat):Nat:=[0,3,6,7,8].getD z 0+y
theorem Y1:∀z<5,∀y<5,(z,y)∈ba->ba.idxOf (z,y)=LJ z y:=by decide +kernel
theorem Jy:∀b<6,∀a<b,∀d<6,∀c<d,∀q<6,∀p<q,
 (CH (LJ (tI a c d) (tI b c d)) (LJ (tI c p q) (tI d p q))).testBit (LJ (tI a p q) (tI b p q))=true:=by decide +kernel
theorem DP(t a b:Int):NC t a b<5:=by
 unfold NC
 repeat' split
 all_goals decide
theorem JX{s o t:Int×Int}(h1:IE s)(h2:IE o)(g:IE t):(CH (Yu s o) (Yu o t)).testBit (Yu s t)=true:=by
 obtain⟨a,b⟩:=s;obtain⟨c,d⟩:=o;obtain⟨p,q⟩:=t;unfold IE at h1 h2 g;simp only at h1 h2 g;have W:∀{a b c d:Int},a<b->c<d->Yu (a,b) (c,d)=LJ (NC a c d) (NC b c d):=fun C B=>Y1 _ (DP _ _ _) _ (DP _ _ _) (CO C B)
 rw[W h1 h2,W h2 g,W h1 g];have k:a ∈ [a,b,c,d,p,q]:=by simp
 have j:b ∈ [a,b,c,d,p,q]:=by simp
 have i:c ∈ [a,b,c,d,p,q]:=by simp
 have h:d ∈ [a,b,c,d,p,q]:=by simp
 have f:p ∈ [a,b,c,d,p,q]:=by simp
 have e:q ∈ [a,b,c,d,p,q]:=by simp
 have y:=xI h1 _ k;have x:=xI h2 _ i;have u:=xI g _ f;have r:=rP _ j;have n:=rP _ h;have m:=rP _ e;rw[nK k i h,nK j i h,nK i f e,nK h f e,nK k f e,nK j f e];generalize rk [a,b,c,d,p,q] a=a' at *;generalize rk [a,b,c,d,p,q] b=b' at *;generalize rk [a,b,c,d,p,q] c=c' at *;generalize rk [a,b,c,d,p,q] d=d' at *;generalize rk [a,b,c,d,p,q] p=p' at *;generalize rk [a,b,c,d,p,q] q=q' at *;simp![M8];exact Jy _ r _ y _ n _ x _ m _ u
theorem Rh:∀i<13,∀j<13,(CH i j).testBit 6=true->j=12-i:=by decide +kernel
theorem Rt{s:Int×Int}(h:IE s):Yu s s=6:=by obtain⟨a,b⟩:=s;have h:a<b:=h;unfold Yu NC;simp[h,Int.ne_of_gt h,show ¬b<a by omega];rfl
theorem Nv{s o:Int×Int}(h1:IE s)(h2:IE o):Yu o s=12-Yu s o:=by have:=JX h1 h2 h1;rw[Rt h1]at this;exact Rh _ (YG h1 h2) _ (YG h2 h1) this
noncomputable def bN(f:Nat->Nat)(xs:Ms Nat)(a:Nat):Nat:=xs.foldl (fun b x=>b|||f x) a
theorem RZ(f:Nat->Nat)(k:Nat):∀(xs:Ms Nat)(a:Nat),(bN f xs a).testBit k=(a.testBit k || xs.any fun x=>(f x).testBit k)
 | [],a=>by simp[bN]
 | x::xs,a=>by have:=RZ f k xs (a|||f x);unfold bN at this ⊢;rw[foldl_cons,this];simp[Nat.testBit_or,Bool.or_assoc]
theorem Z0(f:Nat->Nat):∀(xs:Ms Nat)(a:Nat),a<8192->(∀x∈xs,f x<8192)->bN f xs a<8192
 | [],a,ha,_=>ha
 | x::xs,a,ha,h=>by unfold bN;rw[foldl_cons];exact Z0 f xs (a|||f x) (Nat.or_lt_two_pow (n:=13) ha (h x ⋯)) fun y b=>h y (by simp[b])
def WK(a b:Nat):Nat:=(eB a).foldl (fun d i=>bN (CH i) (eB b) d) 0
theorem dX(b k:Nat):∀(xs:Ms Nat)(a:Nat),(xs.foldl (fun d i=>bN (CH i) (eB b) d) a).testBit k=(a.testBit k || xs.any fun i=>(eB b).any fun j=>(CH i j).testBit k)
 | [],a=>by simp
 | x::xs,a=>by rw[foldl_cons,dX b k xs,RZ];simp[Bool.or_assoc]
theorem eM(a b k:Nat):(WK a b).testBit k=true↔∃i j,i<13/\a.testBit i=true/\j<13/\b.testBit j=true/\(CH i j).testBit k=true:=by
 unfold WK;rw[dX];simp![Nat.zero_testBit,Bool.false_or,any_eq_true,bj];constructor
 . rintro⟨i,⟨h,g⟩,j,⟨f,e⟩,d⟩;exact⟨i,j,h,g,f,e,d⟩
 . rintro⟨i,j,h,g,f,e,d⟩;exact⟨i,⟨h,g⟩,j,⟨f,e⟩,d⟩
theorem FX(b:Nat):∀(xs:Ms Nat)(a:Nat),a<8192->(∀i∈xs,i<13)->xs.foldl (fun d i=>bN (CH i) (eB b) d) a<8192
 | [],a,ha,_=>ha
 | x::xs,a,ha,h=>by rw[foldl_cons];exact FX b xs _ (Z0 _ _ _ ha fun j f=>(Fb x (h x ⋯) j (bj.mp f).1).2) fun y e=>h y (by simp[e])
theorem Qd(a b:Nat):WK a b<8192:=FX b _ 0 (by decide) fun i d=>(bj.mp d).1
theorem Qk{a b:Bool}(h:a=true↔b=true):a=b:=by cases a<;>cases b<;>simp_all
theorem Ac{a b:Nat}(f:a<8192)(e:b<8192)(h:∀k<13,a.testBit k=true↔b.testBit k=true):a=b:=dM f e fun k d=>Qk (h k d)
theorem jh(a b:Nat):WK (Za b) (Za a)=Za (WK a b):=by
 refine Ac (Qd _ _) (pM _) fun k m=>?_
 rw[AG _ m,eM,eM];constructor
 . rintro⟨i,j,g,f,e,d,h⟩;rw[AG _ g]at f;rw[AG _ e]at d;refine⟨12-j,12-i,by omega,d,by omega,f,?_⟩;have:=KY i g j e k m;rw[this];exact h
 . rintro⟨i,j,g,f,e,d,h⟩;refine⟨12-j,12-i,by omega,?_,by omega,?_,?_⟩
   . rw[AG _ nofun,show 12-(12-j)=j by omega];exact d
   . rw[AG _ nofun,show 12-(12-i)=i by omega];exact f
   . have:=KY i g j e (12-k) nofun;rw[show 12-(12-k)=k by omega]at this;rw[this];exact h
theorem Qf{i:Nat}(n:i<13)(b d:Nat)(x y z:Ni Dt)(h:HI):∃f,MN [x,y,ε (.lst ((eB b).map fun(k:Nat)=>Dt.int (k:Int))),ε (.int d),ε (.int i),z] h=ε (.nx [x,y,ε (.lst ((eB b).map fun(k:Nat)=>Dt.int (k:Int))),ε (.int (bN (CH i) (eB b) d)),ε (.int i),f] h):=by
 obtain⟨p,g,e,⟨f,rfl⟩,rfl⟩:=LX (i:=5) (body:=SQ) (fun(k:Nat)=>Dt.int (k:Int)) (fun(a:Nat) l g=>(∃f,l=[x,y,ε (.lst ((eB b).map fun(k:Nat)=>Dt.int (k:Int))),ε (.int a),ε (.int i),f])/\g=h) (fun a j=>a|||CH i j) (eB b) (by
  rintro j m a l h ⟨⟨f,rfl⟩,rfl⟩;obtain⟨r,o,e2⟩:=P8 n (bj.mp m).1;refine⟨.nx [x,y,ε (.lst ((eB b).map fun(k:Nat)=>Dt.int (k:Int))),ε (.int ((a|||CH i j:Nat):Int)),some (.int i),some (.int j)] h,?_,⟨_,rfl⟩,rfl⟩;simp[SQ,o,e2,gP]) d [x,y,some (.lst ((eB b).map fun(k:Nat)=>Dt.int (k:Int))),ε (.int d),ε (.int i),z] h ⟨⟨z,rfl⟩,rfl⟩
 refine⟨f,?_⟩;simp[MN,e];rfl
theorem Nq(a b:Nat)(h:HI):XN [.int a,.int b] h=ε (.int (WK a b),h):=by
 obtain⟨m,f,e,⟨z,w,rfl⟩,rfl⟩:=LX (i:=4) (body:=MN) (fun(k:Nat)=>Dt.int (k:Int)) (fun(c:Nat) l f=>(∃z w,l=[ε (.int a),ε (.int b),ε (.lst ((eB b).map fun(k:Nat)=>Dt.int (k:Int))),ε (.int c),z,w])/\f=h) (fun d i=>bN (CH i) (eB b) d) (eB a) (by
  rintro i g c l h ⟨⟨z,w,rfl⟩,rfl⟩;obtain⟨j,e⟩:=Qf (bj.mp g).1 b c (ε (.int a)) (ε (.int b)) w h;exact⟨_,e,⟨_,_,rfl⟩,rfl⟩) 0 [ε (.int a),ε (.int b),ε (.lst ((eB b).map fun(k:Nat)=>Dt.int (k:Int))),ε (.int 0),none,none] h ⟨⟨none,none,rfl⟩,rfl⟩
 simp[XN,lR,JL,e];rfl
noncomputable def WC(c:Nat)(g:Nat->Nat):Ms Dt:=(List.range c).map fun(j:Nat)=>Dt.int (g j:Nat)
noncomputable def YF(b c:Nat):Ms Dt:=(List.range c).map fun(k:Nat)=>Dt.ref (b+k)
structure Te(h:HI)(b c:Nat)(f:Nat->Nat->Nat):Prop where
 row:∀i<c,h[b+i]?=ε (.lst (WC c (f i)))
 top:h[b+c]?=ε (.lst (YF b c))
def qD(b c:Nat)(f:Nat->Nat->Nat):HI:=((List.range c).map fun i=>Ob.lst (WC c (f i)))++[.lst (YF b c)]
theorem Te.lt{h:HI}{b c:Nat}{f:Nat->Nat->Nat}(N:Te h b c f):b+c<h.length:=(Uo N.top).1
theorem Te.grow{h:HI}{b c:Nat}{f:Nat->Nat->Nat}(N:Te h b c f)(e:HI):Te (h++e) b c f:=by have:=N.lt;exact⟨fun i a=>by rw[Vo nofun];exact N.row i a,by rw[Vo nofun];exact N.top⟩
theorem CG(h:HI)(c:Nat)(f:Nat->Nat->Nat):Te (h++qD h.length c f) h.length c f:=by
 constructor
 . intro i a;rw[Ye nofun];unfold qD;rw[Vo (by simp;omega)];simp[a]
 . rw[Ye nofun];unfold qD;rw[Ye ⋯];simp
theorem FT(c:Nat)(g:Nat->Nat):(WC c g).length=c:=by simp[WC]
theorem mM(b c:Nat):(YF b c).length=c:=by simp[YF]
theorem TL{c j:Nat}(a:j<c)(g:Nat->Nat):(WC c g)[j]?=ε (.int (g j:Nat)):=by simp[WC,a]
theorem ZO{b c j:Nat}(a:j<c):(YF b c)[j]?=ε (.ref (b+j)):=by simp[YF,a]
theorem Xv{c:Nat}{g g':Nat->Nat}(e:∀j<c,g j=g' j):WC c g=WC c g':=map_congr_left fun j a=>by rw[e j (Ai.mp a)]
theorem Xh{c j:Nat}(g:Nat->Nat)(v:Nat):(WC c g).set j (.int (v:Nat))=WC c (fun x=>if x=j then v else g x):=by
 apply ext_getElem?;intro k;rw[getElem?_set];simp![WC,lq,Ei,qu];by_cases a:k<c
 . rw[Ls a];by_cases b:j=k
   . subst b;simp[a]
   . have:¬k=j:=fun z=>b z.symm
     simp[b,this]
 . rw[jj (by simpa using a)];split
   . have:¬j<c:=by omega
     simp[this]
   . rfl
theorem Te.congr{h:HI}{b c:Nat}{f g:Nat->Nat->Nat}(N:Te h b c f)(e:∀i<c,∀j<c,f i j=g i j):Te h b c g:=
 ⟨fun i a=>by rw[<- Xv (e i a)];exact N.row i a,N.top⟩
noncomputable def FB(f:Nat->Nat->Nat)(i j v:Nat):Nat->Nat->Nat:=fun a b=>if a=i then(if b=j then v else f a b)else f a b
theorem Te.other{h:HI}{b c:Nat}{f:Nat->Nat->Nat}(N:Te h b c f){n:Nat}(d:n<b\/b+c<n)(o:Ob):Te (h.set n o) b c f:=
 ⟨fun i a=>by rw[ju nofun];exact N.row i a,by rw[ju nofun];exact N.top⟩
theorem Te.ix{h:HI}{b c:Nat}{f:Nat->Nat->Nat}(N:Te h b c f){i:Nat}(a:i<c):rA (.ref (b+c)) (.int (i:Nat)) h=ε (.ref (b+i),h):=by rw[FE N.top,SM.lD,ZO a];rfl
theorem Te.ix2{h:HI}{b c:Nat}{f:Nat->Nat->Nat}(N:Te h b c f){i j:Nat}(d:i<c)(a:j<c):rA (.ref (b+i)) (.int (j:Nat)) h=ε (.int (f i j:Nat),h):=by rw[FE (N.row i d),SM.lD,TL a];rfl
theorem Te.len{h:HI}{b c:Nat}{f:Nat->Nat->Nat}(N:Te h b c f):QB (.ref (b+c)) h=ε (.int (c:Nat),h):=by rw[EH N.top,mM]
theorem Te.seq{h:HI}{b c:Nat}{f:Nat->Nat->Nat}(N:Te h b c f):uH (.ref (b+c),h)=ε (.rf (b+c),h):=zF N.top
theorem Dk{i n:Nat}{xs:Ms Dt}:∀(l:LI)(h:HI)(b:Dt)(h':HI),YB vE (eV i) l h=ε (b,h')->h[n]?=ε (.lst xs)->h'[n]?=ε (.lst xs):=by
 intro l h b h' e q;have a:=(Uo q).1;rw[dC,gA]at e;cases z:l[i]? with
 | none=>rw[z]at e;simp[FI]at e
 | some o=>
  rw[z]at e;cases o with
  | none=>simp[FI]at e
  | some d=>
   simp![iA,fA,vE]at e;cases y:QD h d with
   | none=>rw[y]at e;cases e
   | some f=>rw[y]at e;simp![Ro,Es,su]at e;obtain⟨_,rfl⟩:=e;rw[Vo a];exact q
theorem lY{n:Nat}{xs:Ms Dt}:∀(l:LI)(h:HI)(b:Bool)(h':HI),uB l h=ε (b,h')->h[n]?=ε (.lst xs)->h'[n]?=ε (.lst xs):=by intro l h b h' e q;simp![oM,Es,su]at e;rw[<- e.2];exact q
theorem HX{te:RE}(d:te=YB vE (eV 0)){h:HI}{b c:Nat}{f:Nat->Nat->Nat}(N:Te h b c f)(j:c<=1000)(l:LI)(g:0<l.length):BE (CA 0) uB te l (.rf (b+c),h)=ε (YF h.length c,h++(List.range c).map fun i=>Ob.lst (WC c (f i))):=by
 subst d;rw[bU N.top (by rw[mM];simp;omega) lY Dk];have:=JS (te:=YB vE (eV 0)) (i:=0) (fun(k:Nat)=>Dt.ref (b+k)) (fun i=>Ob.lst (WC c (f i))) h (List.range c) l [] (by
  intro k a e;have a:=Ai.mp a;have q:=(N.grow e).row k a;rw[dC,gA,ou g,iA,fA];simp![vE,QD,HA,q,Ro])
 rw[Ri,Ei]at this;exact this
theorem MO{a:Type}{F:Dt->Ni Dt}(D E:a->Dt):∀(xs:Ms a),(∀x∈xs,F (D x)=ε (E x))->XB F (xs.map D)=ε (xs.map E)
 | [],_=>rfl
 | x::xs,H=>by simp![Qs,XB,H x ⋯,Ss,MO D E xs fun y b=>H y (by simp[b]),Ro]
noncomputable def vC(i j:Nat):Nat:=if i=j then 64 else 8191
theorem VW(b c:Nat)(f:Nat->Nat->Nat):(qD b c f).length=c+1:=by simp[qD]
theorem WW(h:HI){c i:Nat}(b:i<c)(f:Nat->Nat->Nat)(j v:Nat):(h++qD h.length c f).set (h.length+i) (.lst ((WC c (f i)).set j (.int (v:Nat))))=h++qD h.length c (FB f i j v):=by
 rw[set_append_right _ _ nofun,Io]
 congr 1
 unfold qD;rw[set_append_left _ _ (by simpa using b)]
 congr 1
 apply ext_getElem?;intro k;rw[getElem?_set];simp![lq,Ei,qu];by_cases a:k<c
 . rw[Ls a];by_cases e:i=k
   . subst e;have:(fun x=>if x=j then v else f i x)=FB f i j v i:=by funext x;simp[FB]
     simp[b,Xh,this]
   . have:¬k=i:=by omega
     have q:FB f i j v k=f k:=by funext x;simp[FB,this]
     simp[e,q]
 . rw[jj (by simpa using a)];have:¬i=k:=by omega
   simp[this]
theorem Vn(f:Nat->Nat->Nat)(i j v:Nat):FB f i j v i j=v:=by simp[FB]
def LB(f:Nat->Nat->Nat)(i m j:Nat):Nat->Nat->Nat:=FB (FB f i j (f i j&&&m)) j i (Za (f i j&&&m))
theorem qO{h:HI}{b c:Nat}{f:Nat->Nat->Nat}(N:Te h b c f)(r:c<=1000){i j:Nat}(a:i<c)(d:j<c)(m:Nat) :
 dJ [.ref (b+c),.int (i:Nat),.int (m:Nat),.int (j:Nat)] h=ε (.ref (h.length+c),h++qD h.length c (LB f i m j)):=by
 have x:=HX (te:=wW) rfl N r [none] ⋯;have g:=N.grow (qD h.length c f);have M1:=CG h c f;have M2:=CG h c (FB f i j (f i j&&&m));have q:=WW h a f j (f i j&&&m);have p:=WW h d (FB f i j (f i j&&&m)) i (Za (f i j&&&m));have k:=Gh (f i j&&&m) (h++qD h.length c (FB f i j (f i j&&&m)));have o:=fun(l:LI)=>XO (l:=l) (v:=.int ((f i j&&&m:Nat):Nat)) (M1.row i a) (show j<(WC c (f i)).length by rw[FT];exact d)
 have n:=fun(l:LI)=>XO (l:=l) (v:=.int ((Za (f i j&&&m):Nat):Nat)) (M2.row j d) (show i<(WC c (FB f i j (f i j&&&m) j)).length by rw[FT];exact a)
 have e:=M2.ix2 a d;rw[Vn]at e;have s:(h++(List.range c).map fun i=>Ob.lst (WC c (f i)))++[Ob.lst (YF h.length c)]=h++qD h.length c f:=by rw[nu];rfl
 have u:(h++(List.range c).map fun i=>Ob.lst (WC c (f i))).length=h.length+c:=by simp
 dsimp![dJ,xS,XA,GB,RL,rD,Qs,Uu,Ve,Ui,Qo,N.seq,rF,oF,x,s,u,fB,Us,Ua,mZ,wA,g.ix a,g.ix2 a d,M1.ix a,FM,iK,o,q,MA,EA,zA,M2.ix a,e,Ri,k,M2.ix d,n,p,qB,wB];rfl
theorem X7(c:Nat)(g:Nat->Nat)(z:Nat){h:HI}{n:Nat}(e:h[n]?=ε (.lst (WC c g))):kH false (.int (z:Nat)) (.ref n) h=ε (.bl ((List.range c).any fun j=>g j==z),h):=by
 have d:∀a:Ms Nat,FF (a.map fun(j:Nat)=>Dt.int (g j:Nat))=ε (a.map fun(j:Nat)=>V.int (g j:Nat)):=by
  intro a
  induction a with
  | nil=>rfl
  | cons x a ih=>simp[FF,rE,ih]
 have b:dQ (V.int (z:Nat)) ((List.range c).map fun(j:Nat)=>V.int (g j:Nat))=(List.range c).any fun j=>g j==z:=by
  unfold dQ;rw[any_map]
  congr 1
  funext j
  simp![Function.comp];unfold pN;by_cases q:g j=z
  . simp[q]
  . have:(g j:Int)≠(z:Int):=by omega
    show((g j:Int)==(z:Int))=(g j==z);rw[Di.mpr this,Di.mpr q]
 simp![kH,rE,QD,HA,e,Ss,WC,d,b];simp
noncomputable def yB(c:Nat)(f:Nat->Nat->Nat):Bool:=(List.range c).any fun i=>(List.range c).any fun j=>f i j==0
theorem Mr{n:Nat}{xs:Ms Dt}(a:Dt)(i:Nat):∀(l:LI)(h:HI)(b:Dt)(h':HI),e2 (kH false) (eC a) (eV i) l h=ε (b,h')->h[n]?=ε (.lst xs)->h'[n]?=ε (.lst xs):=by
 intro l h b h' e q;rw[wA,uA,fA,gA]at e;cases z:l[i]? with
 | none=>rw[z]at e;simp[FI]at e
 | some o=>
  rw[z]at e;cases o with
  | none=>simp[FI]at e
  | some d=>
   simp![iA,fA,kH]at e;cases j:rE a with
   | none=>rw[j]at e;cases e
   | some p=>
    rw[j]at e;cases g:QD h d with
    | none=>rw[g]at e;cases e
    | some k=>
     rw[g]at e;cases f:FF k with
     | none=>simp[f]at e
     | some m=>simp![Ss,f,Es,su]at e;rw[<- e.2];exact q
theorem oh{te:RE}(a:te=e2 (kH false) (ro 0) (eV 0)){h:HI}{b c:Nat}{f:Nat->Nat->Nat}(N:Te h b c f)(e:c<=1000):BE (CA 0) uB te [none] (.rf (b+c),h)=ε (((List.range c).map fun i=>(List.range c).any fun j=>f i j==0).map Dt.bl,h):=by
 subst a;rw[bU N.top (by rw[mM];simp;omega) lY (Mr _ _)];have:=aH (te:=e2 (kH false) (ro 0) (eV 0)) (tc:=uB) (i:=0) (fun(k:Nat)=>Dt.ref (b+k)) (fun i=>Dt.bl ((List.range c).any fun j=>f i j==0)) h (List.range c) [none] (by
  intro k d;have:=X7 c (f k) 0 (N.row k (Ai.mp d));simp![Int.ofNat_eq_natCast,Hi]at this;exact⟨rfl,by simp[this]⟩)
 rw[YF,this];simp[map_map]
theorem sS{h:HI}{b c:Nat}{f:Nat->Nat->Nat}(N:Te h b c f)(d:c<=1000):xG [.ref (b+c)] h=ε (.bl (yB c f),h):=by have e:=oh (te:=vW) rfl N d;have a:=V8 (h:=h) ((List.range c).map fun i=>(List.range c).any fun j=>f i j==0);simp![xG,vS,pB,qB,dC,cH,rD,gA,Qs,Uu,Ve,Ui,Qu,Ru,Qa,iA,fA,N.seq,rF,oF,e,a,eG,wB,Nat.reduceAdd];simp[yB,any_map]
noncomputable def xA(p:Nat×Nat):Dt:=.tup [.int (p.1:Nat),.int (p.2:Nat)]
noncomputable def mD(c:Nat)(n:Nat):Ms (Nat×Nat):=(List.range n).flatMap fun i=>(List.range (c-i-1)).map fun k=>(i,i+1+k)
def KA(c:Nat):Ms (Nat×Nat):=mD c c
theorem cb{c:Nat}{p:Nat×Nat}:p∈KA c↔p.1<p.2/\p.2<c:=by
 obtain⟨i,j⟩:=p;unfold KA mD;simp![Li,Ai,Ae,su];constructor
 . rintro⟨a,d,k,b,rfl,rfl⟩;omega
 . rintro⟨f,e⟩;exact⟨i,by omega,j-i-1,by omega,rfl,by omega⟩
theorem XJ(c n:Nat):(mD c n).length<=n*c:=by
 induction n with
 | zero=>simp[mD]
 | succ n ih=>
  have:mD c (n+1)=mD c n++(List.range (c-n-1)).map fun k=>(n,n+1+k):=by unfold mD;rw[Hu,flatMap_append];simp
  rw[this,g8,lq,Ei,Nat.succ_mul];omega
theorem rO{c:Nat}(p:c<=1000)(h:HI):fI [.int (c:Nat)] h=ε (.ref h.length,h++[.lst ((KA c).map xA)]):=by
 have b:=fG (h:=h++[.lst []]) (show(-(2^62):Int)<=(c:Int) by omega) (show(c:Int)<2^62 by omega);simp![m6]at b;have s:c*c<=1000*1000:=Ii p p;obtain⟨q,a,e,⟨y,z,rfl⟩,rfl⟩:=bK (i:=2) (body:=BR) (fun(k:Nat)=>Dt.int (k:Int)) (fun(n:Nat) l a=>(∃y z,l=[ε (.int (c:Nat)),ε (.ref h.length),y,z])/\a=h++[.lst ((mD c n).map xA)]) c (by
  rintro n D l u ⟨⟨y,z,rfl⟩,rfl⟩;have F:=XJ c n;have r:n*c<=c*c:=Nat.mul_le_mul_right _ nofun;obtain⟨q,a,e,⟨y,rfl⟩,rfl⟩:=bK (i:=3) (body:=AR) (fun(k:Nat)=>Dt.int ((n:Int)+1+(k:Int))) (fun(m:Nat) l a=>(∃y,l=[ε (.int (c:Nat)),ε (.ref h.length),ε (.int (n:Nat)),y])/\a=h++[.lst ((mD c n++(List.range m).map fun k=>(n,n+1+k)).map xA)]) (c-n-1) (by
   rintro m E l u ⟨⟨y,rfl⟩,rfl⟩;refine⟨.nx [ε (.int (c:Nat)),ε (.ref h.length),ε (.int (n:Nat)),ε (.int ((n:Int)+1+(m:Int)))] (h++[.lst ((mD c n++(List.range (m+1)).map fun k=>(n,n+1+k)).map xA)]),?_,⟨_,rfl⟩,rfl⟩;have C:=fun(l:LI) (g:RE) (d:Dt) (B:g l (h++[.lst ((mD c n++(List.range m).map fun k=>(n,n+1+k)).map xA)])=ε (d,h++[.lst ((mD c n++(List.range m).map fun k=>(n,n+1+k)).map xA)]))=>qF (h:=h++[.lst ((mD c n++(List.range m).map fun k=>(n,n+1+k)).map xA)]) (l:=l) (n:=h.length) (ys:=(mD c n++(List.range m).map fun k=>(n,n+1+k)).map xA) (xs:=(mD c n++(List.range m).map fun k=>(n,n+1+k)).map xA) ⋯ B ⋯ (by simp;omega)
   simp![AR,cE,ZE,gA,Ua,Us,Qa,Qo,iA,fA];rw[C _ _ (xA (n,n+1+m))]
   . simp![fA];rw[show ∀(o f:Ob),(h++[o]).set h.length f=h++[f] by simp];simp[Hu]
   . simp[xA]) [ε (.int (c:Nat)),ε (.ref h.length),ε (.int (n:Nat)),z] (h++[.lst ((mD c n).map xA)]) ⟨⟨z,rfl⟩,by simp⟩
  have b:=qm (h:=h++[.lst ((mD c n).map xA)]) (i:=(n:Int)+1) (j:=(c:Int)) nofun nofun nofun nofun;rw[show((c:Int)-((n:Int)+1)).toNat=c-n-1 by omega]at b;have x:mD c (n+1)=mD c n++(List.range (c-n-1)).map fun k=>(n,n+1+k):=by unfold mD;rw[Hu,flatMap_append];simp
  refine⟨.nx [ε (.int (c:Nat)),ε (.ref h.length),ε (.int (n:Nat)),y] (h++[.lst ((mD c (n+1)).map xA)]),?_,⟨_,_,rfl⟩,rfl⟩
  . simp![BR,WD,Gj,wA,gA,uA,Ua,Us,Qa,Qo,iA,fA,eF,b,ZF];rw[e,x]) [ε (.int (c:Nat)),ε (.ref h.length),none,none] (h++[.lst []]) ⟨⟨none,none,rfl⟩,by simp[mD]⟩
 dsimp![fI,yS,XA,GB,KH,zA,Qs,Uu,Ve,Ui,fB,Ua,Us,WD,IK,Qo,b,ZF,gK,mq,e,qB,wB];rfl
structure bB(c:Nat)(f:Nat->Nat->Nat):Prop where
 lt:∀i<c,∀j<c,f i j<8192
 tn:∀i<c,∀j<c,f j i=Za (f i j)
theorem oP(c:Nat):bB c vC:=by
 constructor
 . intro i _ j _;unfold vC;split<;>decide
 . intro i _ j _;unfold vC;by_cases h:i=j
   . subst h;rw[dh rfl];decide +kernel
   . have:¬j=i:=fun z=>h z.symm
     rw[dG h,dG this];decide +kernel
theorem tK{c:Nat}{f:Nat->Nat->Nat}(o:bB c f){i j:Nat}(s:i<c)(r:j<c)(d:i≠j)(m:Nat):bB c (LB f i m j):=by
 have q:f i j&&&m<8192:=Ca Nat.and_le_left (o.lt i s j r);have k:¬j=i:=fun z=>d z.symm
 constructor
 . intro a g b e;unfold LB FB
   repeat' split
   all_goals first | exact pM _ | exact q | exact o.lt a g b e
 . intro a g b e;unfold LB FB;by_cases p:a=i
   . subst p;by_cases h:b=j
     . subst h;simp[d,k]
     . by_cases n:b=a
       . subst n;simp[d,h];exact o.tn _ g _ e
       . simp[h,n,d];exact o.tn _ g _ e
   . by_cases h:a=j
     . subst h;by_cases n:b=i
       . subst n;simp[d,k,nT q]
       . simp[p,n];exact o.tn _ g _ e
     . simp[p,h];exact o.tn _ g _ e
noncomputable def sC(i k j:Nat):Dt:=.tup [.int (i:Nat),.int (k:Nat),.int (j:Nat)]
def Ue(f:Nat->Nat->Nat)(i k j:Nat):Nat:=f i j&&&WK (f i k) (f k j)
theorem pX{h:HI}{b c:Nat}{f:Nat->Nat->Nat}(N:Te h b c f){i k j:Nat}(d:i<c)(a:k<c)(e:j<c):PL [.ref (b+c),sC i k j] h=ε (.int (Ue f i k j:Nat),h):=by dsimp![PL,NS,sC,XA,GB,wA,uA,Qs,Uu,Ve,Ui,Qo,bC,FC,tF,BK,Ro,N.ix d,N.ix2 d a,N.ix a,N.ix2 a e,N.ix2 d e,fB,Ua,Us,qB,MA,EA,zA,Ri,Nq,FM,iK,wB];rfl
theorem qX{h:HI}{b c:Nat}{f:Nat->Nat->Nat}(N:Te h b c f)(m:c<=1000){i k j:Nat}(d:i<c)(g:k<c)(a:j<c):QL [.ref (b+c),sC i k j] h=ε (.ref (h.length+c),h++qD h.length c (LB f i (Ue f i k j) j)):=by have e:=pX N d g a;have e2:=qO N m d a (Ue f i k j);unfold sC at e ⊢;dsimp![QL,OS,wA,uA,Qs,Uu,Ve,Ui,Qo,bC,FC,tF,BK,Ro,qB,MA,EA,zA,Ri,e,e2,wB]
theorem AY(f:Nat->Nat->Nat)(i k j:Nat):f i j&&&Ue f i k j=Ue f i k j:=by unfold Ue;rw[<- Nat.and_assoc,Nat.and_self]
theorem zE{i:Nat}{f:RE}{rest:RS}{l l':LI}{h h1:HI}{d:Dt}(e:f l h=ε (d,h1))(a:l.set i (ε d)=l'):lA (DA i f) rest l h=rest l' h1:=by simp![XA,GB,e,fA,fB,a]
theorem dE{t:RT}{a rest:RS}{l:LI}{h h1:HI}(e:t l h=ε (false,h1)):lA (SC t a jB) rest l h=rest l h1:=by simp![XA,OB,e,fA,Vs,eH,QE,fB]
theorem P0{t:RT}{f:RE}{rest:RS}{l:LI}{h h1 h2:HI}{d:Dt}(e:t l h=ε (true,h1))(a:f l h1=ε (d,h2)):lA (SC t (AA f) jB) rest l h=ε (.rt d h2):=by simp![XA,OB,e,fA,eG,qB,a,RF]
theorem oE{t:RT}{f:RE}{rest:RS}{l:LI}{h h1 h2:HI}{d:Dt}(e:t l h=ε (true,h1))(a:f l h1=ε (d,h2)):uD (lA (SC t (AA f) jB) rest l h)=ε (d,h2):=by rw[P0 e a,wB]
theorem mP{f:RE}{l:LI}{h h1:HI}{d:Dt}(e:f l h=ε (d,h1)):uD (AA f l h)=ε (d,h1):=by simp![qB,e,fA,wB]
theorem pZ{i n:Nat}{g:RE}{rest:RS}{l:LI}{h h1:HI}(e:l[i]?=ε (ε (.ref n)))(a:mN g l (.ref n,h)=ε (.non,h1)):lA (bD (CD (eV i) g)) rest l h=rest l h1:=by simp![XA,cE,ZE,gA,e,iA,fA,a,fB]
section
variable{f:RE}{rest body:RS}{l l':LI}{h h1 h2:HI}{d:Dt}{R:Ni (Dt×HI)}{i:Nat}{t:RT}{g:RI}{bd:RG}{b:qi}
theorem pI(e:f l h=ε (d,h1))(a:l.set i (ε d)=l')(k:uD (rest l' h1)=R):uD (lA (DA i f) rest l h)=R:=by rw[zE e a];exact k
theorem xV{a:RS}(e:t l h=ε (false,h1))(k:uD (rest l h1)=R):uD (lA (SC t a jB) rest l h)=R:=by rw[dE e];exact k
theorem U7(e:g l h=ε (b,h1))(a:zD bd body l (b,h1)=ε (.nx l' h2))(k:uD (rest l' h2)=R):uD (lA (CC g bd body) rest l h)=R:=by rw[<- k];simp![XA,WD,e,fA,a,fB]
end
def jC(f:Nat->Nat->Nat)(i k j:Nat):Nat->Nat->Nat:=LB f i (Ue f i k j) j
theorem DH(f:Nat->Nat->Nat){i k j:Nat}(a:i≠j):jC f i k j i j=Ue f i k j:=by unfold jC LB FB;simp[a,AY]
theorem OT(f:Nat->Nat->Nat)(i k j:Nat):jC f i k j j i=Za (Ue f i k j):=by unfold jC LB FB;simp[AY]
theorem AH(f:Nat->Nat->Nat){i k j a b:Nat}(h1:¬(a=i/\b=j))(h2:¬(a=j/\b=i)):jC f i k j a b=f a b:=by
 unfold jC LB FB;by_cases e:a=j
 . subst e;have:¬b=i:=fun z=>h2 ⟨rfl,z⟩
   by_cases d:a=i
   . subst d;simp[this]
   . simp[this,d]
 . by_cases d:a=i
   . subst d;have:¬b=j:=fun z=>h1 ⟨rfl,z⟩
     simp[e,this]
   . simp[e,d]
def Wa(a b:Nat):Prop:=a&&&b=a
theorem aw{a b:Nat}:Wa a b↔∀k,a.testBit k=true->b.testBit k=true:=by
 unfold Wa;constructor
 . intro h k d;rw[<- h,wu,rz]at d;exact d.2
 . intro h;apply Hs;intro k;rw[wu];cases q:a.testBit k with
   | false=>rfl
   | true=>rw[h k q];rfl
theorem Wa.refl(a:Nat):Wa a a:=Nat.and_self a
theorem Wa.trans{a b c:Nat}(h1:Wa a b)(h2:Wa b c):Wa a c:=aw.mpr fun k d=>aw.mp h2 k (aw.mp h1 k d)
theorem sL(a b:Nat):Wa (a&&&b) a:=aw.mpr fun k d=>by rw[wu,rz]at d;exact d.1
theorem Et{a b c:Nat}(h1:Wa a b)(h2:Wa a c):Wa a (b&&&c):=aw.mpr fun k d=>by rw[wu,aw.mp h1 k d,aw.mp h2 k d];rfl
theorem bh{a b e d:Nat}(h1:Wa a e)(h2:Wa b d):Wa (WK a b) (WK e d):=aw.mpr fun k o=>by obtain⟨i,j,n,m,h,g,f⟩:=(eM a b k).mp o;exact(eM e d k).mpr ⟨i,j,n,aw.mp h1 i m,h,aw.mp h2 j g,f⟩
theorem TY(a b:Nat):Za (a&&&b)=Za a&&&Za b:=by
 refine dM (pM _) (Ca Nat.and_le_left (pM a)) fun k d=>?_
 rw[AG _ d,wu,wu,AG _ d,AG _ d]
theorem Nt{a b:Nat}(e:a<8192)(d:b<8192)(h:Za a=Za b):a=b:=by rw[<- nT e,h,nT d]
theorem oa:Za 0=0:=by decide +kernel
theorem jY{a b:Nat}(h:Wa a b):Wa (Za a) (Za b):=by unfold Wa at h ⊢;rw[<- TY,h]
theorem KZ{c:Nat}{f:Nat->Nat->Nat}(o:bB c f){i k j:Nat}(b:i<c)(a:j<c):Ue f i k j<8192:=Ca Nat.and_le_left (o.lt i b j a)
theorem Og{c:Nat}{f:Nat->Nat->Nat}(o:bB c f){i k j:Nat}(d:i<c)(a:k<c)(b:j<c):Ue f j k i=Za (Ue f i k j):=by unfold Ue;rw[o.tn i d j b,o.tn k a j b,o.tn i d k a,jh,TY]
theorem xU{c:Nat}{f:Nat->Nat->Nat}(o:bB c f){i k j:Nat}(b:i<c)(d:k<c)(a:j<c)(h:Ue f j k i≠f j i):Ue f i k j≠f i j:=by intro e;apply h;rw[Og o b d a,e,<- o.tn i b j a]
theorem mU{c:Nat}{f:Nat->Nat->Nat}(o:bB c f){i k j:Nat}(d:i<c)(b:j<c)(a:i≠j):bB c (jC f i k j):=tK o d b a _
def UD(W:Ms (Nat×Nat))(i k j:Nat):Prop:=(i,k)∈W\/(k,i)∈W\/(k,j)∈W\/(j,k)∈W
def sG(i k j:Nat):Prop:=i≠k/\k≠j/\i≠j
def HD(c:Nat)(f:Nat->Nat->Nat)(W:Ms (Nat×Nat))(R:Ms (Nat×Nat×Nat)):Prop:=
 ∀i<c,∀k<c,∀j<c,sG i k j->Ue f i k j≠f i j->UD W i k j\/(i,k,j)∈R\/(j,k,i)∈R
noncomputable def GG(a b c:Nat):Ms (Nat×Nat×Nat):=(List.range c).flatMap fun o=>if o=a\/o=b then []else [(a,b,o),(b,a,o)]
theorem dy{a b c:Nat}{t:Nat×Nat×Nat}:t∈GG a b c↔∃o,o<c/\o≠a/\o≠b/\(t=(a,b,o)\/t=(b,a,o)):=by
 unfold GG;simp![Li,Ai];constructor
 . rintro⟨o,d,h⟩;by_cases q:o=a\/o=b
   . rw[dh q]at h;cases h
   . rw[dG q]at h;simp![zu,not_mem_nil,or_false]at h;exact⟨o,d,fun z=>q (.inl z),fun z=>q (.inr z),h⟩
 . rintro⟨o,d,f,e,h⟩;refine⟨o,d,?_⟩;rw[dG (by rintro(z | z);exact f z;exact e z)];simpa using h
theorem Gy{c:Nat}{f:Nat->Nat->Nat}{a b:Nat}{W:Ms (Nat×Nat)}(h:HD c f ((a,b)::W) []):HD c f W (GG a b c):=by
 intro i m k q j g d n;obtain⟨p,o,e⟩:=d;rcases h i m k q j g ⟨p,o,e⟩ n with h | h | h
 . unfold UD at h ⊢;simp![zu,su]at h;rcases h with(⟨rfl,rfl⟩ | h) | (⟨rfl,rfl⟩ | h) | (⟨rfl,rfl⟩ | h) | (⟨rfl,rfl⟩ | h)
   . exact .inr (.inl (dy.mpr ⟨j,g,m5 e,m5 o,.inl rfl⟩))
   . exact .inl (.inl h)
   . exact .inr (.inl (dy.mpr ⟨j,g,m5 o,m5 e,.inr rfl⟩))
   . exact .inl (.inr (.inl h))
   . exact .inr (.inr (dy.mpr ⟨i,m,p,e,.inr rfl⟩))
   . exact .inl (.inr (.inr (.inl h)))
   . exact .inr (.inr (dy.mpr ⟨i,m,e,p,.inl rfl⟩))
   . exact .inl (.inr (.inr (.inr h)))
 . cases h
 . cases h
theorem Kv{c:Nat}{f:Nat->Nat->Nat}(o:bB c f){x y z:Nat}(b:x<c)(a:y<c)(hz:z<c){W:Ms (Nat×Nat)}{R:Ms (Nat×Nat×Nat)}(h:HD c f W ((x,y,z)::R))(n:Ue f x y z=f x z):HD c f W R:=by
 intro i p k e j g d m;rcases h i p k e j g d m with h | h | h
 . exact .inl h
 . rcases zu.mp h with h | h
   . cases h;exact Ci n m
   . exact .inr (.inl h)
 . rcases zu.mp h with h | h
   . cases h;exact Ci n (xU o b a hz m)
   . exact .inr (.inr h)
theorem EY{a b e:Nat}(h:Wa a b)(q:b&&&e=b):a&&&e=a:=Wa.trans h q
theorem Mv{c:Nat}{f:Nat->Nat->Nat}(o:bB c f){x y z:Nat}(J:x<c)(T:y<c)(hz:z<c)(Q:sG x y z){W:Ms (Nat×Nat)}{R:Ms (Nat×Nat×Nat)}(h:HD c f W ((x,y,z)::R)):HD c (jC f x y z) (W++[(x,z)]) R:=by
 obtain⟨X,U,S⟩:=Q;have G:=mU (k:=y) o J hz S;have e:∀i<c,∀k<c,∀j<c,sG i k j->¬(i=z/\j=x)->Ue (jC f x y z) i k j≠jC f x y z i j->UD (W++[(x,z)]) i k j\/(i,k,j)∈R\/(j,k,i)∈R:=by
  intro i r k g j p d u m;obtain⟨s,e2,b⟩:=d;have grow:∀{i k j},UD W i k j->UD (W++[(x,z)]) i k j:=by
   intro i k j q;unfold UD at q ⊢;simp![Aa];rcases q with q | q | q | q
   . exact .inl (.inl q)
   . exact .inr (.inl (.inl q))
   . exact .inr (.inr (.inl (.inl q)))
   . exact .inr (.inr (.inr (.inl q)))
  by_cases D:i=x/\j=z
  . obtain⟨rfl,rfl⟩:=D;have C:jC f i y j i k=f i k:=AH f (fun q=>e2 q.2) (fun q=>s q.2.symm);have B:jC f i y j k j=f k j:=AH f (fun q=>s q.1.symm) (fun q=>e2 q.1);have E:Ue (jC f i y j) i k j=Ue f i y j&&&WK (f i k) (f k j):=by unfold Ue;rw[C,B,DH f b];rfl
    by_cases F:k=y
    . subst F;exfalso;apply m;rw[E,DH f b];unfold Ue;rw[Nat.and_assoc,Nat.and_self]
    . have n:Ue f i k j≠f i j:=by intro q;apply m;rw[E,DH f b];exact EY (sL (f i j) _) q
      rcases h i r k g j p ⟨s,e2,b⟩ n with q | q | q
      . exact .inl (grow q)
      . rcases zu.mp q with q | q
        . cases q;exact Ci rfl F
        . exact .inr (.inl q)
      . rcases zu.mp q with q | q
        . simp![su]at q;exact Ci q.1.symm b
        . exact .inr (.inr q)
  . by_cases a:UD [(x,z)] i k j
    . refine .inl ?_;unfold UD at a ⊢;simp![Aa];rcases a with q | q | q | q
      . exact .inl (.inr q)
      . exact .inr (.inl (.inr q))
      . exact .inr (.inr (.inl (.inr q)))
      . exact .inr (.inr (.inr (.inr q)))
    . unfold UD at a;simp![zu,not_mem_nil,or_false,su,not_or]at a;obtain⟨P,O,M,L⟩:=a;have I:jC f x y z i j=f i j:=AH f (fun q=>D q) (fun q=>u q);have C:jC f x y z i k=f i k:=AH f (fun q=>P q) (fun q=>O ⟨q.2,q.1⟩);have B:jC f x y z k j=f k j:=AH f (fun q=>M q) (fun q=>L ⟨q.2,q.1⟩);have n:Ue f i k j≠f i j:=by unfold Ue at m ⊢;rw[I,C,B]at m;exact m
      rcases h i r k g j p ⟨s,e2,b⟩ n with q | q | q
      . exact .inl (grow q)
      . rcases zu.mp q with q | q
        . simp![su]at q;exact Ci ⟨q.1,q.2.2⟩ D
        . exact .inr (.inl q)
      . rcases zu.mp q with q | q
        . simp![su]at q;exact Ci ⟨q.2.2,q.1⟩ u
        . exact .inr (.inr q)
 intro i r k g j p d m;by_cases u:i=z/\j=x
 . obtain⟨s,e2,b⟩:=d;have H:=xU G p g r m;rcases e j p k g i r ⟨m5 e2,m5 s,m5 b⟩ (fun q=>b nofun) H with q | q | q
   . refine .inl ?_;unfold UD at q ⊢;rcases q with q | q | q | q
     . exact .inr (.inr (.inr q))
     . exact .inr (.inr (.inl q))
     . exact .inr (.inl q)
     . exact .inl q
   . exact .inr (.inr q)
   . exact .inr (.inl q)
 . exact e i r k g j p d u m
def aF(c:Nat)(f:Nat->Nat->Nat):Prop:=∀i<c,∀k<c,∀j<c,sG i k j->Ue f i k j=f i j
theorem Jx{c:Nat}{f:Nat->Nat->Nat}(h:HD c f [] []):aF c f:=by
 intro i e k a j b d;apply Classical.byContradiction;intro n;rcases h i e k a j b d n with q | q | q
 . unfold UD at q;simp at q
 . cases q
 . cases q
theorem oT(c:Nat)(f:Nat->Nat->Nat):HD c f (KA c) []:=by
 intro i b k a j g d _;refine .inl ?_;unfold UD;obtain⟨e,_,_⟩:=d;rcases Nat.lt_or_gt_of_ne e with h | h
 . exact .inl (cb.mpr ⟨h,a⟩)
 . exact .inr (.inl (cb.mpr ⟨h,b⟩))
def NI(m:Nat):Nat:=(eB m).length
theorem CS{b:Type}{p q:b->Bool}:∀(xs:Ms b),(∀x∈xs,p x=true->q x=true)->(xs.filter p).length<=(xs.filter q).length
 | [],_=>by simp
 | x::xs,H=>by
  have ih:=CS xs fun y e=>H y (by simp[e])
  have f:=H x ⋯;by_cases a:p x=true
  . simp[a,f a];exact ih
  . by_cases d:q x=true
    . simp[a,d];omega
    . simp[a,d];exact ih
theorem DS{f:Type}{p q:f->Bool}:∀(xs:Ms f),(∀x∈xs,p x=true->q x=true)->(∃x∈xs,p x=false/\q x=true)->(xs.filter p).length<(xs.filter q).length
 | [],_,h=>by obtain⟨x,h,_⟩:=h;cases h
 | x::xs,H,h=>by
  have i:=H x ⋯;have g:=CS xs fun y hy=>H y (by simp[hy])
  by_cases a:p x=true
  . obtain⟨y,hy,b,e⟩:=h;rcases zu.mp hy with rfl | hy
    . rw[a]at b;cases b
    . have:=DS xs (fun y hy=>H y (by simp[hy])) ⟨y,hy,b,e⟩;simp[a,i a];exact this
  . by_cases d:q x=true
    . simp[a,d];omega
    . obtain⟨y,hy,b,e⟩:=h;rcases zu.mp hy with rfl | hy
      . rw[e]at d;exact Ci rfl d
      . have:=DS xs (fun y hy=>H y (by simp[hy])) ⟨y,hy,b,e⟩;simp[a,d];exact this
theorem wZ{a b:Nat}(h:Wa a b):NI a<=NI b:=CS _ fun k _ d=>aw.mp h k d
theorem gb{a b:Nat}(h:Wa a b)(i:a<8192)(g:b<8192)(n:a≠b):NI a<NI b:=by
 refine DS _ (fun k _ f=>aw.mp h k f) ?_;apply Classical.byContradiction;intro e;apply n;refine dM i g fun k f=>?_
 cases q:b.testBit k with
 | true=>
  cases d:a.testBit k with
  | true=>rfl
  | false=>exact Ci ⟨k,Ai.mpr f,d,q⟩ e
 | false=>
  cases d:a.testBit k with
  | false=>rfl
  | true=>rw[aw.mp h k d]at q;cases q
theorem xK{a:Type}{u v:a->Nat}:∀(xs:Ms a),(∀x∈xs,u x<=v x)->(xs.map u).sum<=(xs.map v).sum
 | [],_=>by simp
 | x::xs,H=>by
  have:=xK xs fun y b=>H y (by simp[b])
  have:=H x ⋯;simp![Qs,sum_cons];omega
theorem mV{a:Type}{u v:a->Nat}:∀(xs:Ms a),(∀x∈xs,u x<=v x)->(∃x∈xs,u x<v x)->(xs.map u).sum<(xs.map v).sum
 | [],_,h=>by obtain⟨x,h,_⟩:=h;cases h
 | x::xs,H,h=>by
  have d:=xK xs fun y hy=>H y (by simp[hy])
  have b:=H x ⋯;simp![Qs,sum_cons];obtain⟨y,hy,g⟩:=h;rcases zu.mp hy with rfl | hy
  . omega
  . have:=mV xs (fun y hy=>H y (by simp[hy])) ⟨y,hy,g⟩;omega
def fF(c:Nat)(f:Nat->Nat->Nat):Nat:=((List.range c).map fun i=>((List.range c).map fun j=>NI (f i j)).sum).sum
theorem fS{a:Type}{u:a->Nat}{m:Nat}:∀(xs:Ms a),(∀x∈xs,u x<=m)->(xs.map u).sum<=xs.length*m
 | [],_=>by simp
 | x::xs,H=>by
  have:=fS xs fun y b=>H y (by simp[b])
  have:=H x ⋯;simp![Qs,sum_cons,Qu,Nat.succ_mul];omega
theorem RY(c:Nat)(f:Nat->Nat->Nat):fF c f<=c*(c*13):=by
 have:=fS (u:=fun i=>((List.range c).map fun j=>NI (f i j)).sum) (m:=c*13) (List.range c) fun i _=>by
  have:=fS (u:=fun j=>NI (f i j)) (m:=13) (List.range c) fun j _=>NL _
  simpa using this
 simpa[fF]using this
theorem QT{c:Nat}{f:Nat->Nat->Nat}(o:bB c f){i k j:Nat}(m:i<c)(h:j<c)(d:i≠j)(a b:Nat):Wa (jC f i k j a b) (f a b):=by
 by_cases g:a=i/\b=j
 . obtain⟨rfl,rfl⟩:=g;rw[DH f d];exact sL _ _
 . by_cases e:a=j/\b=i
   . obtain⟨rfl,rfl⟩:=e;rw[OT,o.tn b m a h];exact jY (sL _ _)
   . rw[AH f g e];exact Wa.refl _
theorem Fv{c:Nat}{f:Nat->Nat->Nat}(o:bB c f){i k j:Nat}(g:i<c)(e:j<c)(d:i≠j)(n:Ue f i k j≠f i j):fF c (jC f i k j)<fF c f:=by refine mV _ (fun a _=>xK _ fun b _=>wZ (QT o g e d a b)) ⟨i,Ai.mpr g,mV _ (fun b _=>wZ (QT o g e d i b)) ⟨j,Ai.mpr e,?_⟩⟩;rw[DH f d];exact gb (sL _ _) (KZ o g e) (o.lt i g j e) n
inductive qk(c:Nat)(f:Nat->Nat->Nat):List (Nat×Nat×Nat)->(Nat->Nat->Nat)->Prop where
 | nil:qk c f [] f
 | snoc {st:List (Nat×Nat×Nat)} {g:Nat->Nat->Nat} {i k j:Nat} (h:qk c f st g) (hi:i<c) (hk:k<c) (hj:j<c) (d:sG i k j) (ne:yB c g=false) (n:Ue g i k j≠g i j):qk c f (st++[(i,k,j)]) (jC g i k j)
theorem qk.ok{c:Nat}{f g:Nat->Nat->Nat}{st:Ms (Nat×Nat×Nat)}(h:qk c f st g)(o:bB c f):bB c g:=by
 induction h with
 | nil=>exact o
 | snoc h b e a d ne n ih=>exact mU ih b a d.2.2
theorem ej{c:Nat}{f:Nat->Nat->Nat}:yB c f=true↔∃i<c,∃j<c,f i j=0:=by unfold yB;simp![any_eq_true,Ai,beq_iff_eq]
theorem ce{c:Nat}{f:Nat->Nat->Nat}(h:yB c f=false){i j:Nat}(b:i<c)(a:j<c):f i j≠0:=fun e=>by have:=ej.mpr ⟨i,b,j,a,e⟩;rw[h]at this;cases this
theorem Wc{a:Nat}(b:a<8192)(h:a≠0):Za a≠0:=fun e=>h (Nt b (by decide) (e.trans oa.symm))
theorem Bv{c:Nat}{f:Nat->Nat->Nat}(o:bB c f){i k j:Nat}(m:i<c)(g:j<c)(d:i≠j)(ne:yB c f=false):yB c (jC f i k j)=decide (Ue f i k j=0):=by
 by_cases h:Ue f i k j=0
 . rw[eO h];exact ej.mpr ⟨i,m,j,g,by rw[DH f d];exact h⟩
 . rw[eN h];cases q:yB c (jC f i k j)with
   | false=>rfl
   | true=>
    obtain⟨a,s,b,r,e⟩:=ej.mp q;exfalso;by_cases p:a=i/\b=j
    . obtain⟨rfl,rfl⟩:=p;rw[DH f d]at e;exact h e
    . by_cases n:a=j/\b=i
      . obtain⟨rfl,rfl⟩:=n;rw[OT]at e;exact Wc (KZ o m g) h e
      . rw[AH f p n]at e;exact ce ne s r e
def gC(t:Nat×Nat×Nat):Dt:=sC t.1 t.2.1 t.2.2
theorem rX{h:HI}{b c:Nat}{f:Nat->Nat->Nat}(N:Te h b c f){i k j:Nat}(a:i<c)(g:k<c)(d:j<c):IL [.ref (b+c),sC i k j] h=ε (.bl (!decide (Ue f i k j=f i j)),h):=by
 have e:=pX N a g d;have q:decide (((Ue f i k j:Nat):Int)=((f i j:Nat):Int))=decide (Ue f i k j=f i j):=by
  congr 1
  apply propext;omega
 unfold sC at e ⊢;dsimp![IL,QS,wA,uA,Qs,Uu,Ve,Ui,Qo,bC,FC,BK,Ro,qB,MA,EA,zA,Ri,e,N.ix a,N.ix2 a d,YH,q,wB]
theorem Lr(o a b:Nat)(h:HI):kH true (.int (o:Nat)) (xA (a,b)) h=ε (.bl (!(decide (o=a) || decide (o=b))),h):=by
 have d:dQ (V.int (o:Nat)) [V.int (a:Nat),V.int (b:Nat)]=(decide (o=a) || decide (o=b)):=by
  unfold dQ;simp![Jo,any_nil,Bool.or_false];show(((a:Nat):Int)==((o:Nat):Int) || ((b:Nat):Int)==((o:Nat):Int))=_;have f:(((a:Nat):Int)==((o:Nat):Int))=decide (o=a):=by
   by_cases q:o=a
   . subst q;simp
   . have:((a:Nat):Int)≠((o:Nat):Int):=by omega
     simp[q,this]
  have e2:(((b:Nat):Int)==((o:Nat):Int))=decide (o=b):=by
   by_cases q:o=b
   . subst q;simp
   . have:((b:Nat):Int)≠((o:Nat):Int):=by omega
     simp[q,this]
  rw[f,e2]
 have e:FF [Dt.int (a:Nat),Dt.int (b:Nat)]=ε [V.int (a:Nat),V.int (b:Nat)]:=rfl;simp![kH,rE,QD,xA,Ss,e,d];rfl
noncomputable def GD(a b n:Nat):Ms (Nat×Nat×Nat):=(List.range n).flatMap fun o=>if o=a\/o=b then []else [(a,b,o),(b,a,o)]
theorem Cz(a b n:Nat):(GD a b n).length<=2*n:=by
 induction n with
 | zero=>simp[GD]
 | succ n ih=>
  have:GD a b (n+1)=GD a b n++(if n=a\/n=b then []else [(a,b,n),(b,a,n)]):=by unfold GD;rw[Hu,flatMap_append];simp
  rw[this,g8];split<;>simp<;>omega
theorem Eh{a b c:Nat}(E:c<=1000)(h:HI):ZN [xA (a,b),.int (c:Nat)] h=ε (.ref h.length,h++[.lst ((GG a b c).map gC)]):=by
 have s:=fG (h:=h++[.lst []]) (show(-(2^62):Int)<=(c:Int) by omega) (show(c:Int)<2^62 by omega);simp![m6]at s;have d:∀(o p:Ob),(h++[o]).set h.length p=h++[p]:=by simp
 obtain⟨B,r,e,⟨y,rfl⟩,rfl⟩:=bK (i:=3) (body:=TQ) (fun(k:Nat)=>Dt.int (k:Int)) (fun(n:Nat) l r=>(∃y,l=[ε (xA (a,b)),ε (.int (c:Nat)),ε (.ref h.length),y])/\r=h++[.lst ((GD a b n).map gC)]) c (by
  rintro n C l F ⟨⟨y,rfl⟩,rfl⟩;have D:=Cz a b n;have u:GD a b (n+1)=GD a b n++(if n=a\/n=b then []else [(a,b,n),(b,a,n)]):=by unfold GD;rw[Hu,flatMap_append];simp
  refine⟨.nx [ε (xA (a,b)),ε (.int (c:Nat)),ε (.ref h.length),ε (.int (n:Nat))] (h++[.lst ((GD a b (n+1)).map gC)]),?_,⟨_,rfl⟩,rfl⟩;have x:=Lr n a b (h++[.lst ((GD a b n).map gC)]);have m:=fun(l:LI) (g:RE) (f:g l (h++[.lst ((GD a b n).map gC)])=ε (gC (a,b,n),h++[.lst ((GD a b n).map gC)]))=>qF (h:=h++[.lst ((GD a b n).map gC)]) (l:=l) (n:=h.length) (ys:=(GD a b n).map gC) (xs:=(GD a b n).map gC) ⋯ f ⋯ (by simp;omega)
  have j:=fun(l:LI) (g:RE) (f:g l (h++[.lst ((GD a b n).map gC++[gC (a,b,n)])])=ε (gC (b,a,n),h++[.lst ((GD a b n).map gC++[gC (a,b,n)])]))=>qF (h:=h++[.lst ((GD a b n).map gC++[gC (a,b,n)])]) (l:=l) (n:=h.length) (ys:=(GD a b n).map gC++[gC (a,b,n)]) (xs:=(GD a b n).map gC++[gC (a,b,n)]) ⋯ f ⋯ (by simp;omega)
  simp![TQ,OB,NA,wA,gA,Ua,Us,Qa,Qo,iA,fA,x,VA,XA,cE,ZE,QE];by_cases q:n=a\/n=b
  . have:(decide (n=a) || decide (n=b))=true:=by simpa using q
    rw[this,u,dh q];simp
  . have:(decide (n=a) || decide (n=b))=false:=by simpa using q
    rw[this,u,dG q];simp![qe,eG];rw[m _ _ (by simp[xA,gC,sC])];simp![fA,fB,d,cE,ZE,gA,Qa,Qo,iA];rw[j _ _ (by simp[xA,gC,sC])];simp![fA,d];simp) [ε (xA (a,b)),ε (.int (c:Nat)),ε (.ref h.length),none] (h++[.lst []]) ⟨⟨_,rfl⟩,by simp[GD]⟩
 dsimp![ZN,oR,XA,GB,KH,zA,Qs,Uu,Ve,Ui,fB,Ua,Us,WD,IK,Qo,s,ZF,gK,mq,e,qB,wB];rfl
structure Rst(h0:HI)(c:Nat)(f:Nat->Nat->Nat)(s w b:Nat)(st:List (Nat×Nat×Nat))(W:List (Nat×Nat))(g:Nat->Nat->Nat)(h:HI):Prop where
 low:∀n,n<h0.length->h[n]?=h0[n]?
 len:h0.length<=h.length
 hs:h[s]?=ε (.lst (st.map gC))
 hw:h[w]?=ε (.lst (W.map xA))
 net:Te h b c g
 s0:h0.length<=s
 w0:h0.length<=w
 b0:h0.length<=b
 sw:s≠w
 sb:s<b\/b+c<s
 wb:w<b\/b+c<w
 run:qk c f st g
 ne:yB c g=false
 sm:st.length+fF c g<=fF c f
 wc:∀p∈W,p.1<c/\p.2<c/\p.1≠p.2
theorem Rst.grow{a:HI}{c:Nat}{f:Nat->Nat->Nat}{s w b:Nat}{st:Ms (Nat×Nat×Nat)}{W:Ms (Nat×Nat)}{g:Nat->Nat->Nat}{h:HI}(R:Rst a c f s w b st W g h)(e:HI):Rst a c f s w b st W g (h++e):=by
 have i:=(Uo R.hs).1;have d:=(Uo R.hw).1;exact { R with
  low:=fun n j=>by rw[Vo (by have:=R.len;omega)];exact R.low n j
  len:=by have:=R.len;rw[g8];omega
  hs:=by rw[Vo i];exact R.hs
  hw:=by rw[Vo d];exact R.hw
  net:=R.net.grow e }
def TK(a:HI)(c:Nat)(f:Nat->Nat->Nat)(d:Dt)(h:HI):Prop:=
 ∃x s st g,d=.tup [x,.ref s]/\a.length<=s/\a.length<=h.length/\(∀n,n<a.length->h[n]?=a[n]?)/\h[s]?=ε (.lst (st.map gC))/\qk c f st g/\st.length<=fF c f/\
  ((x=.non/\yB c g=true)\/∃b,x=.ref (b+c)/\a.length<=b/\Te h b c g/\aF c g/\yB c g=false/\(s<b\/b+c<s))
theorem jd{O:HI}{c:Nat}(hc:c<=100){f:Nat->Nat->Nat}(of:bB c f){s w b:Nat}{st:Ms (Nat×Nat×Nat)}{W:Ms (Nat×Nat)}{g:Nat->Nat->Nat}{h:HI}(R:Rst O c f s w b st W g h){x y z:Nat}(D:x<c)(Y:y<c)(hz:z<c)(d:sG x y z)(lW:W.length<=2000000)(u m j:Ni Dt) :
 ∃r,MJ [u,m,ε (.ref s),ε (.ref (b+c)),ε (.ref w),j,ε (sC x y z)] h=ε r/\
  rJ (fun l' h'=>∃b' I W' Q,l'=[u,m,ε (.ref s),ε (.ref (b'+c)),ε (.ref w),j,ε (sC x y z)]/\Rst O c f s w b' I W' Q h'/\(∀n,n<h.length->n≠s->n≠w->h'[n]?=h[n]?)/\h.length<=h'.length/\
   ((Ue g x y z=g x z/\b'=b/\I=st/\W'=W/\Q=g/\h'=h)\/(W'=W++[(x,z)]/\Q=jC g x y z/\fF c Q<fF c g))) (TK O c f) r:=by
 have og:=R.run.ok of;have tl:=RY c f;have a6:c*(c*13)<=100*(100*13):=Ii hc (Nat.mul_le_mul_right 13 hc);have en:=rX R.net D Y hz;by_cases q:Ue g x y z=g x z
 . refine⟨.nx [u,m,ε (.ref s),ε (.ref (b+c)),ε (.ref w),j,ε (sC x y z)] h,?_,b,st,W,g,rfl,R,fun _ _ _ _=>rfl,Ra _,.inl ⟨q,rfl,rfl,rfl,rfl,rfl⟩⟩;simp![MJ,OB,NA,MA,EA,zA,gA,Qa,Qo,iA,fA,Ri,en,VA,q,decide_true,qg,Vs,eH,QE]
 . have em:=qX R.net (show c<=1000 by omega) D Y hz;obtain⟨C,e⟩:∃C,C=h++qD h.length c (jC g x y z):=⟨_,rfl⟩
   rw[show LB g x (Ue g x y z) z=jC g x y z from rfl,<- e]at em;have AD:C.length=h.length+(c+1):=by rw[e,g8,VW]
   have M1:Te C h.length c (jC g x y z):=e ▸ CG h c _;have T:=(Uo R.hs).1;have S:=(Uo R.hw).1;have L:C[s]?=ε (.lst (st.map gC)):=by rw[e,Vo T];exact R.hs
   have Z:C[w]?=ε (.lst (W.map xA)):=by rw[e,Vo S];exact R.hw
   have sm:=R.sm;have ts:=Fv og D hz d.2.2 q;obtain⟨i,a⟩:∃i,i=C.set s (.lst (st.map gC++[sC x y z])):=⟨_,rfl⟩
   have ea:=qF (h:=C) (l:=[u,m,ε (.ref s),ε (.ref (h.length+c)),ε (.ref w),j,ε (sC x y z)]) (g:=eV 6) (n:=s) (ys:=st.map gC) (xs:=st.map gC) (d:=sC x y z) (h':=C) L ⋯ L (by simp;omega);rw[<- a]at ea;have M2:Te i h.length c (jC g x y z):=a ▸ M1.other (.inl T) _;have J:i[s]?=ε (.lst ((st++[(x,y,z)]).map gC)):=by rw[a,ou nofun];simp[gC]
   have E:i[w]?=ε (.lst (W.map xA)):=by rw[a,ju R.sw];exact Z
   have G:=R.run.snoc D Y hz d R.ne q;have H:∀n,n<O.length->i[n]?=O[n]?:=fun n M=>by have:=R.len;have:=R.s0;rw[a,ju nofun,e,Vo nofun];exact R.low n M
   have IC:i.length=h.length+(c+1):=by rw[a,Ju];exact AD
   have U:=M2.ix D;have ix2:=M2.ix2 D hz;rw[DH g d.2.2]at ix2;have se:=Bv (k:=y) og D hz d.2.2 R.ne;have zi:(decide (((Ue g x y z:Nat):Int)=0))=decide (Ue g x y z=0):=by
    congr 1
    apply propext;omega
   generalize F:MJ [u,m,ε (.ref s),ε (.ref (b+c)),ε (.ref w),j,ε (sC x y z)] h=X;simp![MJ,OB,NA,MA,EA,zA,gA,Qa,Qo,iA,fA,Ri,en,VA,q,decide_false,qe,eG]at F;have B:qh (e2 gE (e2 rA (e2 rA (eV 3) (e2 rA (eV 6) (ro 0))) (e2 rA (eV 6) (ro 2))) (ro 0)) [u,m,ε (.ref s),ε (.ref (h.length+c)),ε (.ref w),j,ε (sC x y z)] i=ε (decide (Ue g x y z=0),i):=by simp![sC,NA,wA,gA,uA,Qa,Qo,iA,fA,bC,FC,BK,Ro,U,ix2,B6,zi,VA]
   rw[zE (l':=[u,m,ε (.ref s),ε (.ref (h.length+c)),ε (.ref w),j,ε (sC x y z)]) (by simp![MA,EA,zA,gA,Qa,Qo,iA,fA,Ri];exact em) rfl,pZ (n:=s) rfl ea]at F;by_cases P:Ue g x y z=0
   . refine⟨.rt (.tup [.non,.ref s]) i,?_,.non,s,st++[(x,y,z)],jC g x y z,rfl,R.s0,by have:=R.len;omega,H,J,G,by simp;omega,.inl ⟨rfl,by rw[se];simp[P]⟩⟩;rw[eO P]at B;simp![XA,OB,B,fA,eG,qB,yE,EA,zA,uA,gA,Qa,Qo,iA,Qu,Ru,Nat.reduceAdd,RF]at F;rw[<- F,dh (by decide)];rfl
   . have a4:=qF (h:=i) (l:=[u,m,ε (.ref s),ε (.ref (h.length+c)),ε (.ref w),j,ε (sC x y z)]) (g:=UA (bA (e2 rA (eV 6) (ro 0)) (bA (e2 rA (eV 6) (ro 2)) eA))) (n:=w) (ys:=W.map xA) (xs:=W.map xA) (d:=xA (x,z)) (h':=i) E (by simp[sC,xA]) E (by simp;omega);have uG:∀o,(i.set w o).length=h.length+(c+1):=fun o=>by rw[Ju];exact IC
     have a0:w<i.length:=(Uo E).1;have a5:=R.w0;have a1:=R.len;refine⟨.nx [u,m,ε (.ref s),ε (.ref (h.length+c)),ε (.ref w),j,ε (sC x y z)] (i.set w (.lst (W.map xA++[xA (x,z)]))),?_,h.length,st++[(x,y,z)],W++[(x,z)],jC g x y z,rfl,?_,?_,by rw[uG];omega,.inr ⟨rfl,rfl,ts⟩⟩
     . rw[eN P]at B;rw[dE B]at F;rw[<- F];simp![cE,ZE,gA,Qa,Qo,iA,fA,a4]
     . exact {
        low:=fun n M=>by rw[ju nofun];exact H n M
        len:=by rw[uG];omega
        hs:=by rw[ju (m5 R.sw)];exact J
        hw:=by rw[ou a0];simp
        net:=M2.other (.inl S) _
        s0:=R.s0
        w0:=R.w0
        b0:=a1
        sw:=R.sw
        sb:=.inl T
        wb:=.inl S
        run:=G
        ne:=by rw[se];simp[P]
        sm:=by simp;omega
        wc:=fun p hp=>by
         rcases Aa.mp hp with hp | hp
         . exact R.wc p hp
         . rw[zc.mp hp];exact⟨D,hz,d.2.2⟩ }
     . intro n M a3 a2;rw[ju (m5 a2),a,ju (m5 a3),e,Vo M]
theorem Wy(W:Ms (Nat×Nat)):HC (W.map xA)=true:=by
 induction W with
 | nil=>rfl
 | cons p W ih=>simp![Qs,HC,xA,BB,ih,Bool.and_self]
theorem Xg(W:Ms (Nat×Nat)):ID (W.map xA)<=2:=by
 induction W with
 | nil=>simp[ID]
 | cons p W ih=>simp![Qs,ID,OG,xA];omega
theorem Yk{h:HI}{w:Nat}{W:Ms (Nat×Nat)}(e:h[w]?=ε (.lst (W.map xA)))(k:Nat):LA h (k+3) (.ref w)=ε (.lst (W.map xA)):=by
 have:XB (LA h (k+2)) (W.map xA)=ε (W.map xA):=MO _ _ _ fun x _=>by unfold xA;simp[LA,XB]
 rw[LA];simp![e,this,Ro]
theorem d7{h:HI}{w:Nat}{W:Ms (Nat×Nat)}(e:h[w]?=ε (.lst (W.map xA))):RC (.ref w) (.lst []) h=ε (.bl (!W.isEmpty),h):=by
 have a:LA h 8 (.lst [])=ε (.lst []):=by simp[LA,XB]
 have d:=Xg W;have ok:uE (W.map xA) []=true:=by unfold uE;rw[Wy];simp[HC];omega
 rw[sV (Yk e 5) a ok];cases W with
 | nil=>rfl
 | cons p W=>rfl
theorem Nf{J:HI}{c:Nat}(hc:c<=100){f:Nat->Nat->Nat}(of:bB c f){H:Nat}{f0:Nat->Nat->Nat}(N0:Te J H c f0){s w b:Nat}{st:Ms (Nat×Nat×Nat)}{W:Ms (Nat×Nat)}{g:Nat->Nat->Nat}{h:HI}{u v:Nat}(R:Rst J c f s w b st ((u,v)::W) g h)
 (wt:HD c g ((u,v)::W) []) (P X C:Ni Dt) (lM:2*fF c g+(W.length+1)<=1000000) :
 ∃r,ON [ε (.ref (H+c)),P,ε (.ref s),ε (.ref (b+c)),ε (.ref w),X,C] h=ε r/\
  rJ (fun Q L=>∃I m E D X C,Q=[ε (.ref (H+c)),P,ε (.ref s),ε (.ref (I+c)),ε (.ref w),X,C]/\Rst J c f s w I m E D L/\HD c D E []/\2*fF c D+E.length<2*fF c g+(W.length+1)) (TK J c f) r:=by
 have O:=R.wc (u,v) ⋯;simp only at O;have pk:=xg (fa:=eC (Dt.int 0)) (l:=[ε (.ref (H+c)),P,ε (.ref s),ε (.ref (b+c)),ε (.ref w),X,C]) (show h[w]?=ε (.lst (xA (u,v)::W.map xA))from R.hw) rfl;obtain⟨h1,B⟩:∃h1,h1=h.set w (.lst (W.map xA)):=⟨_,rfl⟩
 rw[<- B]at pk;have lw:=(Uo R.hw).1;have AD:h1.length=h.length:=by rw[B,Ju]
 have R1:Rst J c f s w b st W g h1:={ R with
  low:=fun n hn=>by rw[B,ju (Ce (ji hn R.w0))];exact R.low n hn
  len:=by rw[AD];exact R.len
  hs:=by rw[B,ju (m5 R.sw)];exact R.hs
  hw:=by rw[B,ou lw]
  net:=B ▸ R.net.other R.wb _
  wc:=fun p hp=>R.wc p (by simp[hp]) }
 have N1:QB (.ref (H+c)) h1=ε (.int (c:Nat),h1):=by have:=N0.lt;rw[EH (xs:=YF H c) (by rw[R1.low _ this];exact N0.top),mM]
 have et:=Eh (a:=u) (b:=v) (n7 hc (by decide)) h1;obtain⟨h2,F⟩:∃h2,h2=h1++[.lst ((GG u v c).map gC)]:=⟨_,rfl⟩
 rw[<- F]at et;have R2:Rst J c f s w b st W g h2:=F ▸ R1.grow _;have q2:h2[h1.length]?=ε (.lst ((GG u v c).map gC)):=by rw[F];simp
 have sk:=zF q2;have ls:=(Uo R1.hs).1;have wQ:=(Uo R1.hw).1;obtain⟨r,e,G⟩:=L0 (i:=6) (n:=h1.length) (body:=MJ) gC (fun k Q L=>∃I m E D C,Q=[ε (.ref (H+c)),P,ε (.ref s),ε (.ref (I+c)),ε (.ref w),ε (xA (u,v)),C]/\Rst J c f s w I m E D L/\HD c D E ((GG u v c).drop k)/\L[h1.length]?=ε (.lst ((GG u v c).map gC))/\h1.length<L.length/\2*fF c D+E.length<=2*fF c g+W.length) (TK J c f) (GG u v c) (by
  rintro k Q L ⟨I,m,E,D,C,rfl,U,j,Y,Z,mm⟩;exact Y) (by
  rintro k t ht Q L ⟨I,m,E,D,C,rfl,U,j,Y,Z,mm⟩;have hk:=(Uo ht).1;have dk:(GG u v c).drop k=t::(GG u v c).drop (k+1):=by rw[xr hk,(Uo ht).2]
  obtain⟨o,ho,T,S,hto⟩:=dy.mp (jo ht);obtain⟨x,y,z⟩:=t;have dd:x<c/\y<c/\z<c/\sG x y z:=by
   rcases hto with hto | hto<;>(simp![su]at hto;obtain⟨rfl,rfl,rfl⟩:=hto)
   . exact⟨O.1,O.2.1,ho,O.2.2,m5 S,m5 T⟩
   . exact⟨O.2.1,O.1,ho,m5 O.2.2,m5 T,m5 S⟩
  obtain⟨hx,hy,hz,M⟩:=dd;rw[dk]at j;have og:=U.run.ok of;obtain⟨r,e,G⟩:=jd hc of U hx hy hz M nofun (ε (.ref (H+c))) P (ε (xA (u,v)));refine⟨r,e,?_⟩;cases r with
  | nx l2 h2=>
   obtain⟨b2,a0,W2,g2,rfl,a1,kp,ll,q⟩:=G;refine⟨b2,a0,W2,g2,_,rfl,a1,?_,by rw[kp _ Z (Ce ls) (Ce wQ)];exact Y,ji Z ll,?_⟩
   . rcases q with⟨n,rfl,rfl,rfl,rfl,rfl⟩ | ⟨rfl,rfl,tt⟩
     . exact Kv og hx hy hz j n
     . exact Mv og hx hy hz M j
   . rcases q with⟨n,rfl,rfl,rfl,rfl,rfl⟩ | ⟨rfl,rfl,tt⟩
     . exact mm
     . simp![g8,Qu,Ru];omega
  | rt d h2=>exact G
  | bk l2 h2=>exact G.elim
  | ct l2 h2=>exact G.elim) [ε (.ref (H+c)),P,ε (.ref s),ε (.ref (b+c)),ε (.ref w),ε (xA (u,v)),C] h2 ⟨b,st,W,g,C,rfl,R2,Gy wt,q2,by rw[F];simp,Ra _⟩
 refine⟨r,?_,?_⟩
 . simp![ON,XA,GB,Zn,gA,Qa,Qo,iA,fA,pk,fB,Ua,Us,WD,rD,MA,EA,zA,dC,N1,Ri,et,sk];exact e
 . cases r with
   | nx Q L=>obtain⟨I,m,E,D,C,rfl,U,j,Y,Z,mm⟩:=G;rw[drop_length]at j;exact⟨I,m,E,D,_,_,rfl,U,j,by omega⟩
   | rt d h2=>exact G
   | bk l2 h2=>exact G.elim
   | ct l2 h2=>exact G.elim
theorem iR{h:HI}{c:Nat}(T:c<=100){f:Nat->Nat->Nat}(of:bB c f){q:Nat}{pd:Dt}(N:Te h q c f){P:Ms (Nat×Nat)}(hp:∀e:HI,QD (h++e) pd=ε (P.map xA))(pc:∀p∈P,p.1<c/\p.2<c/\p.1≠p.2)(wt:HD c f P [])(lP:P.length<=100000) :
 ∃d h',SI [.ref (q+c),pd] h=ε (d,h')/\TK h c f d h':=by
 have tl:=RY c f;have a0:c*(c*13)<=100*(100*13):=Ii T (Nat.mul_le_mul_right 13 T);have lN:=N.lt;have M:=N.grow [.lst []];have em:=sS M (show c<=1000 by omega);have ef:SI [.ref (q+c),pd] h=uD (VN [ε (.ref (q+c)),ε pd,none,none,none,none,none] h):=by rw[SI,pB];rfl
 have G:qh (qA xG [] (bA (eV 0) eA)) [ε (.ref (q+c)),ε pd,ε (.ref h.length),none,none,none,none] (h++[.lst []])=ε (yB c f,h++[.lst []]):=by simp![NA,MA,EA,zA,gA,Qa,iA,fA,Ri,em,VA]
 rw[ef,VN,zE (d:=.ref h.length) (h1:=h++[.lst []]) (l':=[ε (.ref (q+c)),ε pd,ε (.ref h.length),none,none,none,none]) rfl rfl];by_cases ne:yB c f=true
 . refine⟨.tup [.non,.ref h.length],h++[.lst []],?_,.non,h.length,[],f,rfl,Ra _,by simp,fun n L=>by rw[Vo L],by simp,.nil,by simp,.inl ⟨rfl,ne⟩⟩;rw[ne]at G;exact oE G rfl
 . have H:yB c f=false:=by simpa using ne
   rw[H]at G;obtain⟨h1,o⟩:∃h1:HI,h1=h++[.lst []]:=⟨_,rfl⟩
   rw[<- o]at G M;have AD:h1.length=h.length+1:=by rw[o];simp
   have cp:=HX (te:=RQ) rfl M (show c<=1000 by omega) [none] ⋯;have en:(h1++(List.range c).map fun i=>Ob.lst (WC c (f i)))++[Ob.lst (YF h1.length c)]=h1++qD h1.length c f:=by rw[nu];rfl
   have el:(h1++(List.range c).map fun i=>Ob.lst (WC c (f i))).length=h1.length+c:=by simp
   obtain⟨a,k⟩:∃a:HI,a=h1++qD h1.length c f:=⟨_,rfl⟩
   have IC:a.length=h1.length+(c+1):=by rw[k,g8,VW]
   have J:h.length<h1.length:=by rw[AD];exact vm _
   have D:h1.length+c<a.length:=by rw[IC];exact vm _
   have I:=Nat.lt_trans J (Ca (Ku _ c) D);have C2:Te a h1.length c f:=k ▸ CG h1 c f;have S:QD a pd=ε (P.map xA):=by rw[k,o,nu];exact hp _
   have X:vE pd a=ε (.ref a.length,a++[.lst (P.map xA)]):=by simp![vE,S,Ro]
   obtain⟨h3,j⟩:∃h3:HI,h3=a++[.lst (P.map xA)]:=⟨_,rfl⟩
   rw[<- j]at X;have R:Rst h c f h.length a.length h1.length [] P f h3:={
    low:=fun n L=>by rw[j,Vo (Nat.lt_trans L I),k,Vo (Nat.lt_trans L J),o,Vo L]
    len:=by rw[j,g8];exact n7 (Bs I) (Ku _ _)
    hs:=by rw[j,Vo I,k,Vo J,o];simp
    hw:=by rw[j];simp
    net:=j ▸ C2.grow _
    s0:=Ra _
    w0:=Bs I
    b0:=Bs J
    sw:=ni I
    sb:=.inl J
    wb:=.inr D
    run:=.nil
    ne:=H
    sm:=by simp
    wc:=pc }
   obtain⟨r,e,y⟩:=MX (t:=LN) (body:=ON) (fun m l' h'=>∃s b E x C B,l'=[ε (.ref (q+c)),ε pd,ε (.ref h.length),ε (.ref (s+c)),ε (.ref a.length),C,B]/\Rst h c f h.length a.length s b E x h'/\HD c x E []/\m=2*fF c x+E.length/\m<=1000000)
    (fun l' h'=>∃s b x C B,l'=[ε (.ref (q+c)),ε pd,ε (.ref h.length),ε (.ref (s+c)),ε (.ref a.length),C,B]/\Rst h c f h.length a.length s b [] x h'/\aF c x) (TK h c f) (by
    rintro m l' h' ⟨s,b,E,x,C,B,rfl,g,F,rfl,W⟩;have U:=d7 g.hw;cases E with
    | nil=>
     refine⟨false,h',?_,?_⟩
     . simp![LN,NA,wA,gA,JH,zA,Qa,Qo,iA,fA,Ru,gK,mq,eG,U,VA];rfl
     . rw[dG Va];exact⟨s,b,x,C,B,rfl,g,Jx F⟩
    | cons p E=>
     obtain⟨u,v⟩:=p;refine⟨true,h',?_,?_⟩
     . simp![LN,NA,wA,gA,JH,zA,Qa,Qo,iA,fA,Ru,gK,mq,eG,U,VA];rfl
     . rw[dh rfl];obtain⟨r,e,y⟩:=Nf T of N g F (ε pd) C B W;refine⟨r,e,?_⟩;cases r with
       | nx D a=>obtain⟨b2,Q,W2,g2,Z,Y,rfl,R2,O,mm⟩:=y;exact⟨_,mm,b2,Q,W2,g2,Z,Y,rfl,R2,O,rfl,by simp![Qu]at W;omega⟩
       | rt d a=>exact y
       | bk D a=>exact y.elim
       | ct D a=>exact y.elim) 1000000 (2*fF c f+P.length) [ε (.ref (q+c)),ε pd,ε (.ref h.length),ε (.ref (h1.length+c)),ε (.ref a.length),none,none] h3 ⟨h1.length,[],P,f,none,none,rfl,R,wt,rfl,by omega⟩ nofun
   have s3:mG (hC (eV 0)) (CA 0) uB RQ [none] [ε (.ref (q+c)),ε pd,ε (.ref h.length),none,none,none,none] h1=ε (.ref (h1.length+c),a):=by simp![RL,rD,gA,Qa,iA,fA,M.seq,rF,oF,cp,en,el,k]
   rw[<- o,dE G,zE (l':=[ε (.ref (q+c)),ε pd,ε (.ref h.length),ε (.ref (h1.length+c)),none,none,none]) s3 rfl,zE (l':=[ε (.ref (q+c)),ε pd,ε (.ref h.length),ε (.ref (h1.length+c)),ε (.ref a.length),none,none]) X rfl];simp![XA,jm,e,fA];cases r with
   | nx l' h'=>obtain⟨s,b,x,C,B,rfl,g,cl⟩:=y;refine⟨.tup [.ref (s+c),.ref h.length],h',?_,.ref (s+c),h.length,b,x,rfl,g.s0,g.len,g.low,g.hs,g.run,by have:=g.sm;omega,.inr ⟨s,rfl,g.b0,g.net,cl,g.ne,g.sb⟩⟩;simp
   | rt d h'=>exact⟨d,h',by simp,y⟩
   | bk D a=>exact y.elim
   | ct D a=>exact y.elim
def lQ(c:Nat)(m f:Nat->Nat->Nat):Prop:=∀i<c,∀j<c,Wa (m i j) (f i j)
theorem Wa.antisymm{a b:Nat}(h1:Wa a b)(h2:Wa b a):a=b:=by unfold Wa at h1 h2;rw[Nat.and_comm]at h2;exact h1.symm.trans h2
theorem qk.sub{c:Nat}{f g:Nat->Nat->Nat}{st:Ms (Nat×Nat×Nat)}(h:qk c f st g)(o:bB c f):lQ c g f:=by
 induction h with
 | nil=>exact fun i _ j _=>Wa.refl _
 | snoc h k q e d ne n ih=>exact fun a p b m=>(QT (h.ok o) k e d.2.2 a b).trans (ih a p b m)
theorem qk.keeps{c:Nat}{f g m:Nat->Nat->Nat}{st:Ms (Nat×Nat×Nat)}(h:qk c f st g)(u:bB c m)(B:aF c m)(s:lQ c m f):lQ c m g:=by
 induction h with
 | nil=>exact s
 | @snoc st g i k j h o p e d ne n ih=>
  have l:Wa (m i j) (Ue g i k j):=by have:=B i o k p j e d;unfold Ue at this ⊢;exact Et (ih i o j e) ((show Wa (m i j) (WK (m i k) (m k j))from this).trans (bh (ih i o k p) (ih k p j e)))
  intro a y b x;by_cases r:a=i/\b=j
  . obtain⟨rfl,rfl⟩:=r;rw[DH g d.2.2];exact l
  . by_cases q:a=j/\b=i
    . obtain⟨rfl,rfl⟩:=q;rw[OT,u.tn b o a e];exact jY l
    . rw[AH g r q];exact ih a y b x
theorem qk.diag{c:Nat}{f g:Nat->Nat->Nat}{st:Ms (Nat×Nat×Nat)}(h:qk c f st g)(e:∀i<c,f i i=64):∀i<c,g i i=64:=by
 induction h with
 | nil=>exact e
 | snoc h m j k d ne n ih=>intro a b;rw[AH _ (fun q=>d.2.2 (q.1.symm.trans q.2)) (fun q=>d.2.2 (q.2.symm.trans q.1))];exact ih a b
structure pu(c:Nat)(p q:Nat->Nat):Prop where
 pl:∀i<c,p i<c
 ql:∀i<c,q i<c
 qp:∀i<c,q (p i)=i
 pq:∀i<c,p (q i)=i
def Up(h h':HI):Prop:=h.length<=h'.length/\∀n,n<h.length->h'[n]?=h[n]?
theorem Up.refl(h:HI):Up h h:=⟨Ra _,fun _ _=>rfl⟩
theorem Up.trans{h h1 h2:HI}(a:Up h h1)(b:Up h1 h2):Up h h2:=⟨n7 a.1 b.1,fun n d=>by rw[b.2 n (by have:=a.1;omega),a.2 n d]⟩
theorem Up.app(h e:HI):Up h (h++e):=⟨by simp,fun n a=>Vo a⟩
theorem Up.net{h h':HI}(u:Up h h'){b c:Nat}{f:Nat->Nat->Nat}(N:Te h b c f):Te h' b c f:=by have:=N.lt;exact⟨fun i a=>by rw[u.2 _ nofun];exact N.row i a,by rw[u.2 _ this];exact N.top⟩
theorem Up.get{h h':HI}(u:Up h h'){n:Nat}{o:Ob}(e:h[n]?=ε o):h'[n]?=ε o:=by rw[u.2 n (Uo e).1];exact e
noncomputable def ZH(p q:Nat)(a b d:Int):Ms Bd:=(if b<=a then [(p,q,if b<a then -1 else 0)]else [])++(if a<=d then [(q,p,if a<d then -1 else 0)]else [])
theorem tW(p q:Nat)(a:Int){b:Ms Int}(hs:b ≠ [])(h:HI):QI [.int (p:Nat),.int (q:Nat),.int a,.lst (b.map Dt.int)] h=ε (.ref h.length,h++[.lst ((ZH p q a (dD b) (pC b)).map nA)]):=by
 have k:=fun h=>j8 (h:=h) hs
 have j:=fun h=>n8 (h:=h) hs
 generalize dD b=mx at k;generalize pC b=mn at j;have s:=fun(l:LI) (xs:Ms Bd) (g:RE) (d:Bd) (c:xs.length<5) (B:g l (h++[.lst (xs.map nA)])=ε (nA d,h++[.lst (xs.map nA)]))=>qF (h:=h++[.lst (xs.map nA)]) (l:=l) (n:=h.length) (ys:=xs.map nA) (xs:=xs.map nA) (d:=nA d) ⋯ B ⋯ (by simp;omega)
 have r:∀(xs:Ms Bd)(d:Bd),(h++[Ob.lst (xs.map nA)]).set h.length (.lst (xs.map nA++[nA d]))=h++[.lst ((xs++[d]).map nA)]:=fun xs d=>by simp
 have first:∀i:LI,i=[ε (.int (p:Nat)),ε (.int (q:Nat)),ε (.int a),ε (.lst (b.map Dt.int)),ε (.ref h.length)]->SC (qh (e2 ZV (YB UH (eV 3)) (eV 2))) (bD (CD (eV 4) (UA (bA (eV 0) (bA (eV 1) (bA (kL (qh (e2 GJ (YB UH (eV 3)) (eV 2))) (TC (ro 1)) (ro 0)) (eA))))))) (jB) i (h++[.lst []]) =
  ε (.nx i (h++[.lst ((if mx<=a then [((p,q,if mx<a then -1 else 0):Bd)]else []).map nA)])):=fun i m=>by
  subst m;by_cases f:mx<=a
  . have g:=s [ε (.int (p:Nat)),ε (.int (q:Nat)),ε (.int a),ε (.lst (b.map Dt.int)),ε (.ref h.length)] [] (UA (bA (eV 0) (bA (eV 1) (bA (kL (qh (e2 GJ (YB UH (eV 3)) (eV 2))) (TC (ro 1)) (ro 0)) (eA))))) (p,q,if mx<a then -1 else 0) ⋯ (by
     by_cases o:mx<a<;>simp[k,o,nA])
    rw[r]at g;simp![Uu,Ui]at g;simp![OB,NA,wA,dC,gA,Qa,Qo,iA,fA,k,J5,VA,f,decide_true,eG,cE,ZE,g]
  . simp[k,f]
 have e:∀(xs:Ms Bd),xs.length<5->SC (qh (e2 AQ (YB VH (eV 3)) (eV 2))) (bD (CD (eV 4) (UA (bA (eV 1) (bA (eV 0) (bA (kL (qh (e2 dL (YB VH (eV 3)) (eV 2))) (TC (ro 1)) (ro 0)) (eA))))))) (jB) [ε (.int (p:Nat)),ε (.int (q:Nat)),ε (.int a),ε (.lst (b.map Dt.int)),ε (.ref h.length)] (h++[.lst (xs.map nA)]) =
  ε (.nx [ε (.int (p:Nat)),ε (.int (q:Nat)),ε (.int a),ε (.lst (b.map Dt.int)),ε (.ref h.length)] (h++[.lst ((xs++if a<=mn then [((q,p,if a<mn then -1 else 0):Bd)]else []).map nA)])):=fun xs u=>by
  by_cases f:a<=mn
  . have g:=s [ε (.int (p:Nat)),ε (.int (q:Nat)),ε (.int a),ε (.lst (b.map Dt.int)),ε (.ref h.length)] xs (UA (bA (eV 1) (bA (eV 0) (bA (kL (qh (e2 dL (YB VH (eV 3)) (eV 2))) (TC (ro 1)) (ro 0)) (eA))))) (q,p,if a<mn then -1 else 0) u (by
     by_cases o:a<mn<;>simp[j,o,nA])
    rw[r]at g;simp![OB,NA,wA,dC,gA,Qa,Qo,iA,fA,j,aW,VA,f,decide_true,eG,cE,ZE,g]
  . simp[j,f]
 have y:=first _ rfl
 have x:=e (if mx<=a then [((p,q,if mx<a then -1 else 0):Bd)]else []) (by split<;>simp);unfold ZH;dsimp![QI,mR,Qs,Uu,Ve,Ui,XA,GB,KH,zA,mq,gK,Us,Ua,fB,y,x,qB,Qo,wB]
def pz(w:Nat):Nat×Nat:=ba.getD w (0,0)
theorem ud{w:Nat}(hw:w<13)(h:HI):jU [.int w] h=ε (pr (pz w),h):=by rcases B5 hw with rfl | rfl | rfl | rfl | rfl | rfl | rfl | rfl | rfl | rfl | rfl | rfl | rfl<;>kernel_rfl
def zs(side w:Nat):Int:=if side=0 then((pz w).1:Int)else((pz w).2:Int)
def VB(side m:Nat):Ms Int:=(eB m).map (zs side)
theorem qZ{side m:Nat}(a:eB m ≠ []):VB side m ≠ []:=by unfold VB;intro z;exact a (map_eq_nil_iff.mp z)
def TF(i j side m:Nat):Ms Bd:=ZH (2*i+side) (2*j) 1 (dD (VB side m)) (pC (VB side m))++ZH (2*i+side) (2*j+1) 3 (dD (VB side m)) (pC (VB side m))
theorem PZ{c:Prop}[Decidable c](x:Bd):(if c then [x]else []).length<=1:=by split<;>simp
theorem zU(p q:Nat)(a b d:Int):(ZH p q a b d).length<=2:=by unfold ZH;rw[g8];exact Nat.add_le_add (PZ _) (PZ _)
theorem u0{h:HI}{F G:Ms Bd}{rest:Ms Ob}{l:LI}{g:RE}(c:F.length+G.length<=100000)(b:g l (h++.lst (F.map nA)::rest)=ε (.ref (h++.lst (F.map nA)::rest).length,(h++.lst (F.map nA)::rest)++[.lst (G.map nA)])) :
 ZK g l (.ref h.length,h++.lst (F.map nA)::rest)=ε (.non,h++.lst ((F++G).map nA)::(rest++[.lst (G.map nA)])):=by
 have a:(h++Ob.lst (F.map nA)::rest)[h.length]?=ε (.lst (F.map nA)):=by simp
 have d:((h++Ob.lst (F.map nA)::rest)++[Ob.lst (G.map nA)])[h.length]?=ε (.lst (F.map nA)):=by rw[Vo ⋯];exact a
 have e2:((h++Ob.lst (F.map nA)::rest)++[Ob.lst (G.map nA)])[(h++Ob.lst (F.map nA)::rest).length]?=ε (.lst (G.map nA)):=by rw[Ye (Ra _),Bu];rfl
 rw[wY a b d e2 (by simp;omega)];simp
theorem cY(i j m side:Nat)(hs:side=0\/side=1)(R:i<=1000)(Q:j<=1000)(f:eB m ≠ [])(h:HI)(F:Ms Bd)(S:F.length<=1000)(rest:Ms Ob)(s:Ni Dt):∃y b,zL [ε (.int (i:Nat)),ε (.int (m:Nat)),ε (.int (j:Nat)),ε (.ref h.length),ε (.int (side:Nat)),s] (h++.lst (F.map nA)::rest) =
 ε (.nx [ε (.int (i:Nat)),ε (.int (m:Nat)),ε (.int (j:Nat)),ε (.ref h.length),ε (.int (side:Nat)),y] (h++.lst ((F++TF i j side m).map nA)::b)):=by
 have M:=fun h=>JL m h
 have C:∀k∈eB m,k<13:=fun k d=>Ai.mp (mem_filter.mp d).1
 have I:((eB m).map fun(k:Nat)=>Dt.int (k:Int)).length<sizeLine:=by have:(eB m).length<=13:=n7 (length_filter_le _ _) ⋯;simp;omega
 have O:=aH (te:=yL) (tc:=uB) (i:=0) (fun(k:Nat)=>Dt.int (k:Int)) (fun k=>Dt.int (zs side k)) (h++.lst (F.map nA)::rest) (eB m) [none,ε (.int (side:Nat))] (by
  intro k d;have n:=ud (C k d) (h++.lst (F.map nA)::rest);refine⟨by simp,?_⟩;rcases hs with rfl | rfl
  . simp[yL,n,pr,zs]
  . simp[yL,n,pr,zs])
 have e:=PF (l:=[none,ε (.int (side:Nat))]) (h:=h++.lst (F.map nA)::rest) (CA 0) uB yL I;rw[O]at e;have D:(eB m).map (fun k=>Dt.int (zs side k))=(VB side m).map Dt.int:=by unfold VB;rw[map_map];rfl
 rw[D]at e;have L:=fun h=>tW (2*i+side) (2*j) 1 (qZ (side:=side) f) h
 have J:=fun h=>tW (2*i+side) (2*j+1) 3 (qZ (side:=side) f) h
 have pl:∀p q a E H,(ZH p q a E H).length<=2:=zU
 have u:=fun(i:Int) (h:HI)=>SF (h:=h) (i:=2) (j:=i) (Or.inl ⟨by decide,by decide⟩)
 have r:(2:Int)*(i:Int)+(side:Int)=((2*i+side:Nat):Int):=by omega
 have o:(2:Int)*(j:Int)=((2*j:Nat):Int):=by omega
 have P:((2*j:Nat):Int)+1=((2*j+1:Nat):Int):=by omega
 have B:=u0 (h:=h) (F:=F) (G:=ZH (2*i+side) (2*j) 1 (dD (VB side m)) (pC (VB side m))) (rest:=rest) (l:=[ε (.int (i:Nat)),ε (.int (m:Nat)),ε (.int (j:Nat)),ε (.ref h.length),ε (.int (side:Nat)),ε (.lst ((VB side m).map Dt.int))])
  (g:=qA QI [] (bA (e2 MB (e2 JC (ro 2) (eV 0)) (eV 4)) (bA (e2 JC (ro 2) (eV 2)) (bA (ro 1) (bA (eV 5) (eA)))))) (by have:=pl (2*i+side) (2*j) 1 (dD (VB side m)) (pC (VB side m));omega) (by
   simp![MA,EA,zA,wA,uA,gA,Qa,Qo,iA,fA,u,eF,r,o,Ri];exact L _)
 have x:=u0 (h:=h) (F:=F++ZH (2*i+side) (2*j) 1 (dD (VB side m)) (pC (VB side m))) (G:=ZH (2*i+side) (2*j+1) 3 (dD (VB side m)) (pC (VB side m))) (rest:=rest++[.lst ((ZH (2*i+side) (2*j) 1 (dD (VB side m)) (pC (VB side m))).map nA)]) (l:=[ε (.int (i:Nat)),ε (.int (m:Nat)),ε (.int (j:Nat)),ε (.ref h.length),ε (.int (side:Nat)),ε (.lst ((VB side m).map Dt.int))])
  (g:=qA QI [] (bA (e2 MB (e2 JC (ro 2) (eV 0)) (eV 4)) (bA (e2 MB (e2 JC (ro 2) (eV 2)) (ro 1)) (bA (ro 3) (bA (eV 5) (eA)))))) (by have:=pl (2*i+side) (2*j) 1 (dD (VB side m)) (pC (VB side m));have:=pl (2*i+side) (2*j+1) 3 (dD (VB side m)) (pC (VB side m));simp;omega) (by
   simp![MA,EA,zA,wA,uA,gA,Qa,Qo,iA,fA,u,eF,r,o,P,Ri];exact J _)
 refine⟨ε (.lst ((VB side m).map Dt.int)),rest++[.lst ((ZH (2*i+side) (2*j) 1 (dD (VB side m)) (pC (VB side m))).map nA)]++[.lst ((ZH (2*i+side) (2*j+1) 3 (dD (VB side m)) (pC (VB side m))).map nA)],?_⟩;unfold TF;rw[<- nu];simp![zL,XA,GB,cH,rD,MA,EA,zA,gA,Qa,Qo,iA,fA,Ri,M,WG,rF,gJ,oF,Option.join,Ss,id,e,Us,Ua,fB,cE,WO,B,x]
theorem aJ(i j side m:Nat):(TF i j side m).length<=4:=by unfold TF;rw[g8];have b:=zU (2*i+side) (2*j) 1 (dD (VB side m)) (pC (VB side m));have a:=zU (2*i+side) (2*j+1) 3 (dD (VB side m)) (pC (VB side m));omega
def DC(i m j:Nat):Ms Bd:=TF i j 0 m++TF i j 1 m
theorem uW(i m j:Nat)(n:i<=1000)(k:j<=1000)(g:eB m ≠ [])(h:HI):∃rest,SJ [.int (i:Nat),.int (m:Nat),.int (j:Nat)] h=ε (.ref h.length,h++.lst ((DC i m j).map nA)::rest):=by
 obtain⟨a,b,q⟩:=cY i j m 0 (.inl rfl) n k g h [] ⋯ [] none;obtain⟨o,f,e2⟩:=cY i j m 1 (.inr rfl) n k g h (TF i j 0 m) (by have:=aJ i j 0 m;omega) b a;have p:C4 (.int 2,h++[.lst []])=ε (.vals [.int 0,.int 1],h++[.lst []]):=by rw[fG (by decide) (by decide)];rfl
 refine⟨f,?_⟩;have e:zL [ε (.int (i:Nat)),ε (.int (m:Nat)),ε (.int (j:Nat)),ε (.ref h.length),ε (.int 0),none] (h++[.lst []])=ε (.nx [ε (.int (i:Nat)),ε (.int (m:Nat)),ε (.int (j:Nat)),ε (.ref h.length),ε (.int 0),a] (h++.lst ((TF i j 0 m).map nA)::b)):=q;have d:zL [ε (.int (i:Nat)),ε (.int (m:Nat)),ε (.int (j:Nat)),ε (.ref h.length),ε (.int 1),a] (h++.lst ((TF i j 0 m).map nA)::b)=ε (.nx [ε (.int (i:Nat)),ε (.int (m:Nat)),ε (.int (j:Nat)),ε (.ref h.length),ε (.int 1),o] (h++.lst ((DC i m j).map nA)::f)):=e2;simp[SJ,zR,p,kC,e,d]
theorem Kq(i:Nat)(lo a:Int){g:Nat}(b:g<=1000)(h:HI):qL [.tup [.int (i:Nat),.int lo,.int a],.int (g:Nat)] h=ε (.ref h.length,h++[.lst (([(2*i,2*i+1,-lo*g),(2*i+1,2*i,a*g)]:Ms Bd).map nA)]):=by
 have u:=fun(h:HI)=>SF (h:=h) (i:=2) (j:=(i:Int)) (Or.inl ⟨by decide,by decide⟩)
 have v:=fun(x:Int) (h:HI)=>SF (h:=h) (i:=x) (j:=(g:Int)) (Or.inr ⟨by omega,by omega⟩)
 simp[qL,VQ,u,v,nA]
noncomputable abbrev Ln:=Nat×Int×Int
noncomputable def oB(x:Ln):Dt:=.tup [.int (x.1:Nat),.int x.2.1,.int x.2.2]
noncomputable def VC(g:Nat)(x:Ln):Ms Bd:=[(2*x.1,2*x.1+1,-x.2.1*g),(2*x.1+1,2*x.1,x.2.2*g)]
noncomputable def WH(c:Nat)(N:Nat->Nat->Nat):Ms Dt:=(List.range c).map fun i=>.lst ((List.range c).map fun j=>.int ((N i j:Nat):Int))
noncomputable def eD(c:Nat):Ms Bd:=(List.range c).map fun i=>(2*i,2*i+1,-1)
def KC(c:Nat)(N:Nat->Nat->Nat)(ls:Ms Ln):Ms Bd:=eD c++ls.flatMap (VC (2*c+1))++(KA c).flatMap fun p=>DC p.1 (N p.1 p.2) p.2
theorem qU{h:HI}{F G:Ms Bd}{rest cx:Ms Ob}{l:LI}{g:RE}(c:F.length+G.length<=100000)(b:g l (h++.lst (F.map nA)::rest)=ε (.ref (h++.lst (F.map nA)::rest).length,(h++.lst (F.map nA)::rest)++.lst (G.map nA)::cx)) :
 ZK g l (.ref h.length,h++.lst (F.map nA)::rest)=ε (.non,h++.lst ((F++G).map nA)::(rest++.lst (G.map nA)::cx)):=by
 have a:(h++Ob.lst (F.map nA)::rest)[h.length]?=ε (.lst (F.map nA)):=by simp
 have d:((h++Ob.lst (F.map nA)::rest)++Ob.lst (G.map nA)::cx)[h.length]?=ε (.lst (F.map nA)):=by rw[Vo ⋯];exact a
 have e2:((h++Ob.lst (F.map nA)::rest)++Ob.lst (G.map nA)::cx)[(h++Ob.lst (F.map nA)::rest).length]?=ε (.lst (G.map nA)):=by rw[Ye (Ra _),Bu];rfl
 rw[wY a b d e2 (by simp;omega)];simp
theorem VJ{a b:Type}(f:a->Ms b){xs:Ms a}{k:Nat}{x:a}(d:xs[k]?=ε x):(xs.take (k+1)).flatMap f=(xs.take k).flatMap f++f x:=by rw[take_add_one,d,flatMap_append];simp
theorem Tf(c:Nat)(h:HI):aM [.int (c:Nat)] h=ε (.int ((2*c+1:Nat):Int),h):=by
 have u:=fun(h:HI)=>SF (h:=h) (i:=2) (j:=(c:Int)) (Or.inl ⟨by decide,by decide⟩)
 simp[aM,gU,u]
theorem pv{c b:Nat}(M:c<=100){N:Nat->Nat->Nat}(D:∀i j,eB (N i j) ≠ []){h:HI}{F:Ms Bd}(O:F.length<=3000){r0:Ms Ob}(db:∀G:Ms Bd,∀a:Ms Ob,(h++.lst (G.map nA)::(r0++a))[b]?=ε (.lst ((KA c).map xA)))(f d:Ni Dt)(pl:(KA c).length<=10000)(pin:∀p∈KA c,p.1<c/\p.2<c) :
 ∃y rest,zD (CA 4) eJ [ε (.lst (WH c N)),f,ε (.ref h.length),d,none] (.rf b,h++.lst (F.map nA)::r0) =
 ε (.nx [ε (.lst (WH c N)),f,ε (.ref h.length),d,y] (h++.lst ((F++(KA c).flatMap fun p=>DC p.1 (N p.1 p.2) p.2).map nA)::rest)):=by
 obtain⟨I,o,e,⟨y,rfl⟩,a,rfl,_⟩:=zP (i:=4) (n:=b) (body:=eJ) xA (fun k l o=>(∃y,l=[ε (.lst (WH c N)),f,ε (.ref h.length),d,y])/\∃a,o=h++.lst ((F++((KA c).take k).flatMap fun p=>DC p.1 (N p.1 p.2) p.2).map nA)::(r0++a)/\(((KA c).take k).flatMap fun p=>DC p.1 (N p.1 p.2) p.2).length<=8*k) (KA c) (by
  rintro k l o ⟨_,a,rfl,_⟩;exact db _ a) (by
  rintro k x m l o ⟨⟨y,rfl⟩,a,rfl,L⟩;have J:k<(KA c).length:=(Uo m).1;obtain⟨u,s⟩:=pin x (jo m);have H:(DC x.1 (N x.1 x.2) x.2).length<=8:=by unfold DC;rw[g8];have:=aJ x.1 x.2 0 (N x.1 x.2);have:=aJ x.1 x.2 1 (N x.1 x.2);omega
  obtain⟨q,E⟩:=uW x.1 (N x.1 x.2) x.2 nofun nofun (D _ _) (h++.lst ((F++((KA c).take k).flatMap fun p=>DC p.1 (N p.1 p.2) p.2).map nA)::(r0++a));have C:(WH c N)[x.1]?=ε (.lst ((List.range c).map fun j=>.int ((N x.1 j:Nat):Int))):=by simp[WH,u]
  have B:((List.range c).map fun j=>Dt.int ((N x.1 j:Nat):Int))[x.2]?=ε (.int ((N x.1 x.2:Nat):Int)):=by simp[s]
  have r:=qU (h:=h) (F:=F++((KA c).take k).flatMap fun p=>DC p.1 (N p.1 p.2) p.2) (G:=DC x.1 (N x.1 x.2) x.2) (rest:=r0++a) (cx:=q) (l:=[ε (.lst (WH c N)),f,ε (.ref h.length),d,ε (xA x)]) (g:=qA SJ [] (bA (e2 rA (eV 4) (ro 0)) (bA (e2 rA (e2 rA (eV 0) (e2 rA (eV 4) (ro 0))) (e2 rA (eV 4) (ro 1))) (bA (e2 rA (eV 4) (ro 1)) (eA))))) (by rw[g8];omega) (by
   simp![MA,EA,zA,wA,uA,gA,Qa,Qo,iA,fA,xA,bC,FC,tF,Ro,vI,SM.lD,C,B,Ri];exact E)
  refine⟨.nx [ε (.lst (WH c N)),f,ε (.ref h.length),d,ε (xA x)] (h++.lst ((F++((KA c).take (k+1)).flatMap fun p=>DC p.1 (N p.1 p.2) p.2).map nA)::(r0++(a++.lst ((DC x.1 (N x.1 x.2) x.2).map nA)::q))),?_,⟨_,rfl⟩,_,rfl,?_⟩
  . rw[VJ _ m,<- nu,<- nu];simp![eJ,cE,WO,gA,Us,Ua,Qa,Qo,iA,fA,r]
  . rw[VJ _ m,g8];omega) [ε (.lst (WH c N)),f,ε (.ref h.length),d,none] (h++.lst (F.map nA)::r0) ⟨⟨_,rfl⟩,[],by simp,by simp⟩
 rw[Ka]at e;exact⟨y,_,e⟩
theorem AT{c:Nat}{p:Nat×Nat}(h:p∈KA c):p.1<c/\p.2<c:=by unfold KA mD at h;obtain⟨i,b,h⟩:=Li.mp h;obtain⟨k,a,rfl⟩:=Ae.mp h;have:=Ai.mp b;have:=Ai.mp a;exact⟨by omega,by show i+1+k<c;omega⟩
theorem jz{c i:Nat}(b:i<c):List.replicate i (Dt.int 8191)++[Dt.int 64]++List.replicate (c-i-1) (Dt.int 8191)=WC c (vC i):=by
 apply ext_getElem?;intro k;by_cases a:k<c
 . rw[TL a];rcases Nat.lt_trichotomy k i with h | h | h
   . rw[nu,Vo (by simpa using h)];have:¬i=k:=by omega
     simp[h,vC,this]
   . subst h;rw[nu,Ye ⋯];simp[vC]
   . rw[Ye (by simp;omega)];have:¬i=k:=by omega
     have q:k-(i+1)<c-i-1:=by omega
     simp[vC,this,getElem?_replicate,q]
 . rw[jj (by simp;omega),jj (by rw[FT];omega)]
theorem Fz{c i:Nat}(b:i<c)(g:c<=1000)(h:HI):oO [.int (c:Nat),.int (i:Nat)] h=ε (.ref h.length,h++[.lst (WC c (vC i))]):=by
 have f:=DT (h:=h) (Dt.int 8191) (show i<=1000000 by omega);have e2:=DT (h:=h) (Dt.int 8191) (show c-i-1<=1000000 by omega);have d:(c:Int)-(i:Int)-1=((c-i-1:Nat):Int):=by omega
 have e:=Y9 (h:=h) (xs:=List.replicate i (Dt.int 8191)) (ys:=[Dt.int 64]) (by simp;omega);have a:wJ (.lst (List.replicate i (Dt.int 8191)++[Dt.int 64])) (.lst (List.replicate (c-i-1) (Dt.int 8191))) h=ε (.ref h.length,h++[.lst (List.replicate i (Dt.int 8191)++[Dt.int 64]++List.replicate (c-i-1) (Dt.int 8191))]):=by simp![wJ,HA,Ss];rw[dh (by simp;omega)]
 rw[jz b]at a;simp[oO,zS,f,d,e2,e,a]
theorem uc{c:Nat}(f:c<=1000)(h:HI):pP [.int (c:Nat)] h=ε (.ref (h.length+c),h++qD h.length c vC):=by
 have b:=fG (h:=h) (show(-(2^62):Int)<=(c:Int) by omega) (show(c:Int)<2^62 by omega);simp![m6]at b;have a:=JS (te:=WT) (i:=0) (fun(k:Nat)=>Dt.int (k:Int)) (fun i=>Ob.lst (WC c (vC i))) h (List.range c) [none,ε (.int (c:Nat))] [] (by
  intro k d e;have:=Fz (Ai.mp d) f (h++e);simp[WT,this])
 rw[Ri,Ei]at a;have hs:((List.range c).map fun(k:Nat)=>Dt.int (k:Int)).length<sizeLine:=by simp;omega
 simp[pP,HU,b,PF _ _ _ hs,a,qD,YF]
def qo(h h':HI):Prop:=h.length<=h'.length/\∀(n:Nat)(a:Ms Dt),h[n]?=ε (.lst a)->h'[n]?=ε (.lst a)
theorem qo.refl(h:HI):qo h h:=⟨Ra _,fun _ _ e=>e⟩
theorem qo.trans{h h1 h2:HI}(a:qo h h1)(b:qo h1 h2):qo h h2:=⟨n7 a.1 b.1,fun n d e=>b.2 n d (a.2 n d e)⟩
theorem Up.l{h h':HI}(u:Up h h'):qo h h':=⟨u.1,fun _ _ e=>u.get e⟩
theorem qo.app(h e:HI):qo h (h++e):=(Up.app h e).l
theorem qo.net{h h':HI}(u:qo h h'){b c:Nat}{f:Nat->Nat->Nat}(N:Te h b c f):Te h' b c f:=⟨fun i a=>u.2 _ _ (N.row i a),u.2 _ _ N.top⟩
theorem qo.set{h:HI}{n:Nat}{x:Str}{fs a:Ms (Str×Dt)}(e:h[n]?=ε (.ins x fs)):qo h (h.set n (.ins x a)):=by
 refine⟨by simp,fun k b q=>?_⟩;rw[getElem?_set];by_cases z:n=k
 . subst z;rw[e]at q;cases q
 . rw[dG z];exact q
noncomputable abbrev nC:=Nat×Nat×Nat
noncomputable def yA (m:nC):Dt:=.tup [.str "ways", .int (m.1:Nat),.int (m.2.1:Nat),.int (m.2.2:Nat)]
def AE(c:Nat)(m:nC):Prop:=m.1<c/\m.2.2<c/\m.1≠m.2.2/\m.2.1<8192
def ek(h:HI)(d:Dt)(g:Ms nC):Prop:=∃n,d=.ref n/\h[n]?=ε (.lst (g.map yA))
theorem ek.up{h h':HI}{d:Dt}{g:Ms nC}(q:ek h d g)(u:qo h h'):ek h' d g:=by obtain⟨n,e,q⟩:=q;exact⟨n,e,u.2 _ _ q⟩
noncomputable def tD(c:Nat)(g:Nat->Nat->Nat):Nat->Nat->Nat:=fun i j=>if i<c/\j<c then g i j else 0
theorem DG{c:Nat}(g:Nat->Nat->Nat){i j:Nat}(b:i<c)(a:j<c):tD c g i j=g i j:=dh ⟨b,a⟩
theorem Ek{c:Nat}{g g':Nat->Nat->Nat}(e:∀i<c,∀j<c,g i j=g' i j):tD c g=tD c g':=by
 funext i j
 unfold tD;split
 . rename_i q;exact e i q.1 j q.2
 . rfl
theorem OY{h:HI}{b c:Nat}{g:Nat->Nat->Nat}(N:Te h b c g):Te h b c (tD c g):=N.congr fun _ d _ a=>(DG g d a).symm
theorem bV{c:Nat}{g:Nat->Nat->Nat}(o:bB c g):bB c (tD c g):=⟨fun i b j a=>by rw[DG g b a];exact o.lt i b j a,fun i b j a=>by rw[DG g b a,DG g a b];exact o.tn i b j a⟩
theorem vh{c:Nat}{g:Nat->Nat->Nat}{i k j:Nat}(d:i<c)(a:k<c)(b:j<c):Ue (tD c g) i k j=Ue g i k j:=by unfold Ue;rw[DG g d b,DG g d a,DG g a b]
theorem Oz{c:Nat}{g:Nat->Nat->Nat}(o:aF c g):aF c (tD c g):=fun i b k e j a d=>by rw[vh b e a,DG g b a];exact o i b k e j a d
theorem FS{a:Type}{p q:a->Bool}:∀{xs:Ms a},(∀x∈xs,p x=q x)->xs.any p=xs.any q
 | [],_=>rfl
 | x::xs,h=>by rw[Jo,Jo,h x ⋯,FS fun y b=>h y (by simp[b])]
theorem Sx{c:Nat}{g g':Nat->Nat->Nat}(e:∀i<c,∀j<c,g i j=g' i j):yB c g=yB c g':=by unfold yB;exact FS fun i b=>FS fun j a=>by rw[e i (Ai.mp b) j (Ai.mp a)]
theorem IX(c:Nat)(g:Nat->Nat->Nat):yB c (tD c g)=yB c g:=Sx fun _ b _ a=>DG g b a
def bm(c:Nat)(f:Nat->Nat->Nat)(st:Ms (Nat×Nat×Nat))(g:Nat->Nat->Nat):Prop:=∃a,qk c f st a/\aF c a/\yB c a=false/\g=tD c a
theorem bm.ok{c:Nat}{f g:Nat->Nat->Nat}{st:Ms (Nat×Nat×Nat)}(e:bm c f st g)(o:bB c f):bB c g/\aF c g/\yB c g=false:=by obtain⟨b,s,a,ne,rfl⟩:=e;exact⟨bV (s.ok o),Oz a,by rw[IX];exact ne⟩
theorem bm.unique{c:Nat}{f g g':Nat->Nat->Nat}{st a:Ms (Nat×Nat×Nat)}(o:bB c f)(e:bm c f st g)(n:bm c f a g'):g=g':=by
 obtain⟨x,s,p,ne,rfl⟩:=e;obtain⟨u,b,d,m,rfl⟩:=n;refine Ek fun i k j h=>?_
 have r:=s.keeps (b.ok o) d (b.sub o) i k j h;have q:=b.keeps (s.ok o) p (s.sub o) i k j h;exact Wa.antisymm q r
theorem bm.ce{c:Nat}{f g g':Nat->Nat->Nat}{st a:Ms (Nat×Nat×Nat)}(o:bB c f)(e:bm c f st g)(h:qk c f a g'):yB c g'=false:=by
 obtain⟨m,s,n,ne,rfl⟩:=e;have p:=h.keeps (s.ok o) n (s.sub o);cases z:yB c g' with
 | false=>rfl
 | true=>
  obtain⟨i,d,j,b,e⟩:=ej.mp z;have:=p i d j b;rw[e]at this;have k:m i j=0:=by unfold Wa at this;rw[Nat.and_zero]at this;exact this.symm
  exact Ci k (G.ce ne d b)
noncomputable def rj(m:Nat):Nat:=8191-m
def cF(f:Nat->Nat->Nat)(k:Nat):Ms nC->Nat->(Nat->Nat->Nat)
 | [],_=>f
 | m::ms,p=>cF (LB f m.1 (if p=k then m.2.1 else rj m.2.1) m.2.2) k ms (p+1)
def RP(f:Nat->Nat->Nat)(g:Ms nC)(k:Nat):Nat->Nat->Nat:=cF f k g 0
theorem UW(k:Nat)(m:nC):∀(a:Ms nC)(f:Nat->Nat->Nat)(p:Nat),cF f k (a++[m]) p=LB (cF f k a p) m.1 (if p+a.length=k then m.2.1 else rj m.2.1) m.2.2
 | [],f,p=>by simp[cF]
 | x::a,f,p=>by show cF (LB f x.1 (if p=k then x.2.1 else rj x.2.1) x.2.2) k (a++[m]) (p+1)=_;rw[UW k m a _ (p+1),Qu,show p+(a.length+1)=p+1+a.length by omega];rfl
theorem SX{c k:Nat}:∀(e:Ms nC)(_:∀m∈e,AE c m)(f:Nat->Nat->Nat)(p:Nat),bB c f->bB c (cF f k e p)
 | [],_,f,p,o=>o
 | m::e,h,f,p,o=>by obtain⟨a,b,d,_⟩:=h m ⋯;exact SX e (fun x g=>h x (by simp[g])) _ _ (tK o a b d _)
def FH(c:Nat)(g:Nat->Nat->Nat):Ni (Nat×Nat):=(KA c).find? fun p=>decide (1<(eB (g p.1 p.2)).length)
theorem Wt{m:Nat}(h:m<8192):Builtin.bitAnd 8191 (Builtin.bitNot ((m:Nat):Int))=((rj m:Nat):Int):=by
 have d:Builtin.bitNot (Builtin.bitNot ((m:Nat):Int))=(m:Int):=by unfold Builtin.bitNot;omega
 have b:¬(0<=Builtin.bitNot ((m:Nat):Int)):=by unfold Builtin.bitNot;omega
 have a:(8191:Nat)&&&m=m:=by rw[Nat.and_comm,show(8191:Nat)=2^13-1 from rfl,Nat.and_two_pow_sub_one_eq_mod];exact Nat.mod_eq_of_lt h
 unfold Builtin.bitAnd;have f:decide ((8191:Int) >=0)=true:=by decide
 have e:decide (Builtin.bitNot ((m:Nat):Int) >=0)=false:=eN b;simp![f,e,d];show(8191:Int)-(((8191:Int).toNat&&&(m:Int).toNat:Nat):Int)=_;rw[show(8191:Int).toNat=8191 from rfl,m6,a];unfold rj;omega
theorem Jt{a:Type}{xs:Ms a}{k:Nat}(h:k<=xs.length):(xs.take k).length=k:=by rw[Ba];omega
theorem YJ{a:Type}{xs:Ms a}{k:Nat}{x:a}(h:xs[k]?=ε x):xs.take (k+1)=xs.take k++[x]:=by rw[take_add_one,h];rfl
theorem Vq{h:HI}{b c:Nat}{f:Nat->Nat->Nat}(N:Te h b c f)(F:c<=1000){n:Nat}{g:Ms nC}(D:h[n]?=ε (.lst (g.map yA)))(ok:∀m∈g,AE c m)(k:Nat) :
 ∃d h',aO [.ref (b+c),.ref n,.int (k:Nat)] h=ε (.ref (d+c),h')/\Te h' d c (RP f g k)/\Up h h':=by
 obtain⟨J,h',e,d,s,r,q,rfl,p,U⟩:=U8 (i:=3) (j:=4) (n:=n) (body:=JN) yA (fun a l h'=>∃d s r q,l=[ε (.ref (d+c)),ε (.ref n),ε (.int (k:Nat)),s,r,q]/\Te h' d c (cF f k (g.take a) 0)/\Up h h') g (by
  rintro a l h' ⟨d,s,r,q,rfl,p,U⟩;exact U.get D) (by
  rintro a x u l h' ⟨d,s,r,q,rfl,p,U⟩;obtain⟨I,H,O,G⟩:=ok x (jo u);have L:a<g.length:=(Uo u).1;have eq:cF f k (g.take (a+1)) 0=LB (cF f k (g.take a) 0) x.1 (if a=k then x.2.1 else rj x.2.1) x.2.2:=by rw[YJ u,UW,Jt nofun,xu]
  have o:=qO p F I H (if a=k then x.2.1 else rj x.2.1);rw[<- eq]at o;have M:=CG h' c (cF f k (g.take (a+1)) 0);refine⟨.nx [ε (.ref (h'.length+c)),ε (.ref n),ε (.int (k:Nat)),ε (.int (a:Nat)),ε (yA x),ε (.int ((if a=k then x.2.1 else rj x.2.1:Nat):Int))] (h'++qD h'.length c (cF f k (g.take (a+1)) 0)),?_,h'.length,_,_,_,rfl,M,U.trans (Up.app _ _)⟩;have B:atI [Dt.str "ways",Dt.int (x.1:Nat),Dt.int (x.2.1:Nat),Dt.int (x.2.2:Nat)] 2=ε (.int (x.2.1:Nat)):=rfl;have C:atI [Dt.str "ways",Dt.int (x.1:Nat),Dt.int (x.2.1:Nat),Dt.int (x.2.2:Nat)] 1=ε (.int (x.1:Nat)):=rfl;have y:atI [Dt.str "ways",Dt.int (x.1:Nat),Dt.int (x.2.1:Nat),Dt.int (x.2.2:Nat)] 3=ε (.int (x.2.2:Nat)):=rfl;by_cases z:a=k
  . subst z;rw[dh rfl]at o ⊢;have E:decide ((a:Int)=(a:Int))=true:=eO rfl;simp![JN,XA,GB,wI,NA,wA,gA,uA,Us,Ua,Qa,Qo,iA,fA,XF,decide_true,VA,eG,yA,bC,C,B,y,Ro,fB,MA,EA,zA,Ri,o]
  . rw[dG z]at o ⊢;have E:decide ((a:Int)=(k:Int))=false:=eN nofun;simp![JN,XA,GB,wI,NA,wA,gA,uA,Us,Ua,Qa,Qo,iA,fA,XF,E,VA,Vs,eH,yA,bC,C,B,y,Ro,Ij,Gg,FM,Wt G,fB,MA,EA,zA,Ri,o]) [ε (.ref (b+c)),ε (.ref n),ε (.int (k:Nat)),none,none,none] h ⟨b,_,_,_,rfl,N,Up.refl h⟩
 rw[Ka]at p;refine⟨d,h',?_,p,U⟩;dsimp![aO,YQ,Qs,Uu,Ve,Ui,XA,WD,Xn,Qo,Gw D,e,fB,qB,wB]
theorem Uq{h:HI}{b c:Nat}{g:Nat->Nat->Nat}(N:Te h b c g)(I:c<=1000) :
 ∃h',mL [.ref (b+c)] h=ε ((match FH c g with | none=>.non | some p=>xA p),h')/\Up h h':=by
 have C:=rO I h;have U:Up h (h++[.lst ((KA c).map xA)]):=Up.app _ _;have D:Te (h++[.lst ((KA c).map xA)]) b c g:=U.net N;have m:(h++[Ob.lst ((KA c).map xA)])[h.length]?=ε (.lst ((KA c).map xA)):=by simp
 refine⟨h++[.lst ((KA c).map xA)],?_,U⟩;have body:∀p∈KA c,∀y,IN [ε (.ref (b+c)),ε (xA p)] (h++[.lst ((KA c).map xA)])=ε (if decide (1<(eB (g p.1 p.2)).length)=true then .rt (xA p) (h++[.lst ((KA c).map xA)])else .nx [ε (.ref (b+c)),ε (xA p)] (h++[.lst ((KA c).map xA)]))\/y:=by
  intro p H y;obtain⟨o,G⟩:=AT H
  left
  have u:=FE D.top (p.1:Int);rw[SM.lD,ZO o,Ro]at u;have s:=FE (D.row _ o) (p.2:Int);rw[SM.lD,TL G,Ro]at s;have L:decide ((1:Int)<(((eB (g p.1 p.2)).map fun(k:Nat)=>Dt.int (k:Int)).length:Nat))=decide (1<(eB (g p.1 p.2)).length):=by
   rw[lq];by_cases z:1<(eB (g p.1 p.2)).length
   . rw[eO z,eO nofun]
   . rw[eN z,eN nofun]
  simp![IN,OB,NA,wA,dC,MA,EA,zA,gA,uA,Qa,Qo,iA,fA,xA,bC,FC,tF,Ro,u,s,Ri,JL,QU,vN,L,VA,qB,QE];split<;>rfl
 obtain⟨r,e,f⟩:=L0 (i:=1) (n:=h.length) (body:=IN) xA (fun k l h'=>(∃y,l=[ε (.ref (b+c)),y])/\h'=h++[.lst ((KA c).map xA)]/\((KA c).take k).find? (fun p=>decide (1<(eB (g p.1 p.2)).length))=none) (fun d h'=>h'=h++[.lst ((KA c).map xA)]/\∃p,FH c g=ε p/\d=xA p) (KA c) (by
  rintro k l h' ⟨_,rfl,_⟩;exact m) (by
  rintro k x j l h' ⟨⟨y,rfl⟩,rfl,a⟩;rcases body x (jo j) False with bb | bb
  . refine⟨_,bb,?_⟩;by_cases z:decide (1<(eB (g x.1 x.2)).length)=true
    . rw[dh z];refine⟨rfl,x,?_,rfl⟩;unfold FH;rw[<- take_append_drop k (KA c),find?_append,a,Option.none_or];have:(KA c).drop k=x::(KA c).drop (k+1):=by obtain⟨F,E⟩:=Uo j;rw[<- E];exact xr F
      rw[this,Ia,z]
    . rw[dG z];refine⟨⟨_,rfl⟩,rfl,?_⟩;rw[YJ j,find?_append,a,Option.none_or,Ia];simp![show decide (1<(eB (g x.1 x.2)).length)=false by simpa using z];rfl
  . exact bb.elim) [ε (.ref (b+c)),none] (h++[.lst ((KA c).map xA)]) ⟨⟨_,rfl⟩,rfl,rfl⟩
 have B:=N.len;cases r with
 | nx q h'=>obtain⟨_,rfl,a⟩:=f;rw[Ka]at a;have:FH c g=none:=a;rw[this];dsimp![mL,HN,Qs,Uu,Ve,Ui,XA,WD,rD,MA,EA,zA,dC,B,Ri,C,zF m,e,fB,qB,uA,wB]
 | rt d h'=>obtain⟨rfl,p,J,rfl⟩:=f;rw[J];dsimp![mL,HN,Qs,Uu,Ve,Ui,XA,WD,rD,MA,EA,zA,dC,B,Ri,C,zF m,e,RF,wB]
 | bk q h'=>exact f.elim
 | ct q h'=>exact f.elim
inductive qa where
 | ways (m:nC)
 | long (x:Ln)
 | one (g:List nC)
def ab(h:HI)(d:Dt):qa->Prop
 | .ways m=>d=yA m
 | .long x=>d=.tup [.str "long", .int (x.1:Nat),.int x.2.1,.int x.2.2]
 | .one g=>∃a,d=.tup [.str "one",a]/\ek h a g
theorem ab.up{h h':HI}{d:Dt}{f:qa}(q:ab h d f)(u:qo h h'):ab h' d f:=by
 cases f with
 | ways m=>exact q
 | long x=>exact q
 | one g=>obtain⟨a,e,q⟩:=q;exact⟨a,e,q.up u⟩
noncomputable def dH(c:Nat):qa->Prop
 | .ways m=>AE c m
 | .long x=>x.1<c
 | .one g=>∀m∈g,AE c m
inductive Yi(h:HI):List Dt->List qa->Prop where
 | nil:Yi h [] []
 | cons {d:Dt} {f:qa} {ds:List Dt} {fs:List qa} (a:ab h d f) (r:Yi h ds fs):Yi h (d::ds) (f::fs)
theorem Yi.up{h h':HI}{ds:Ms Dt}{fs:Ms qa}(q:Yi h ds fs)(u:qo h h'):Yi h' ds fs:=by
 induction q with
 | nil=>exact .nil
 | cons a r ih=>exact .cons (a.up u) ih
theorem Yi.len{h:HI}{ds:Ms Dt}{fs:Ms qa}(q:Yi h ds fs):ds.length=fs.length:=by
 induction q with
 | nil=>rfl
 | cons a r ih=>simp[ih]
theorem Yi.get{h:HI}{ds:Ms Dt}{fs:Ms qa}(q:Yi h ds fs):∀{k:Nat}{d:Dt},ds[k]?=ε d->∃f,fs[k]?=ε f/\ab h d f:=by
 induction q with
 | nil=>intro k d e;simp at e
 | cons a r ih=>
  intro k d e;cases k with
  | zero=>simp at e;subst e;exact⟨_,by simp,a⟩
  | succ k=>exact(by obtain⟨f,b,e2⟩:=ih (k:=k) (by simpa using e);exact⟨f,by simpa using b,e2⟩)
theorem Yi.snoc{h:HI}{ds:Ms Dt}{fs:Ms qa}(q:Yi h ds fs){d:Dt}{f:qa}(a:ab h d f):Yi h (ds++[d]) (fs++[f]):=by
 induction q with
 | nil=>exact .cons a .nil
 | cons b r ih=>exact .cons b ih
noncomputable def vQ:qa->Bool
 | .ways _=>true
 | _=>false
noncomputable def rN:qa->Bool
 | .long _=>true
 | _=>false
noncomputable def LK:qa->Bool
 | .one _=>true
 | _=>false
theorem Xl:decide ((("long" :Str))=(("ways" :Str)))=false:=by decide +kernel
theorem Gp:decide ((("one" :Str))=(("ways" :Str)))=false:=by decide +kernel
theorem w_l:decide ((("ways" :Str))=(("long" :Str)))=false:=by decide +kernel
theorem Ep:decide ((("one" :Str))=(("long" :Str)))=false:=by decide +kernel
theorem Kl:decide ((("ways" :Str))=(("one" :Str)))=false:=by decide +kernel
theorem Rm:decide ((("long" :Str))=(("one" :Str)))=false:=by decide +kernel
theorem Fp:decide ((("one" :Str))=(("one" :Str)))=true:=eO rfl
theorem S9 {h:HI} {d:Dt} {f:qa} (q:ab h d f) (l:LI) (k:HI) (i:Nat) (a:l[i]?=ε (ε d)):e2 RB (e2 rA (eV i) (ro 0)) (eC (.str "ways")) l k=ε (.bl (vQ f),k):=by
 cases f with
 | ways m=>rw[show d=yA m from q]at a;simp![wA,gA,a,iA,fA,uA,yA,bC,FC,Qa,Ro,JG,decide_true,vQ]
 | long x=>rw[show d=_ from q]at a;simp![wA,gA,a,iA,fA,uA,bC,FC,Qa,Ro,JG,Xl,vQ]
 | one g=>obtain⟨b,rfl,_⟩:=q;simp![wA,gA,a,iA,fA,uA,bC,FC,Qa,Ro,JG,Gp,vQ]
theorem R9 {h:HI} {d:Dt} {f:qa} (q:ab h d f) (l:LI) (k:HI) (i:Nat) (a:l[i]?=ε (ε d)):e2 RB (e2 rA (eV i) (ro 0)) (eC (.str "long")) l k=ε (.bl (rN f),k):=by
 cases f with
 | ways m=>rw[show d=yA m from q]at a;simp![wA,gA,a,iA,fA,uA,yA,bC,FC,Qa,Ro,JG,w_l,rN]
 | long x=>rw[show d=_ from q]at a;simp![wA,gA,a,iA,fA,uA,bC,FC,Qa,Ro,JG,decide_true,rN]
 | one g=>obtain⟨b,rfl,_⟩:=q;simp![wA,gA,a,iA,fA,uA,bC,FC,Qa,Ro,JG,Ep,rN]
theorem P1 {h:HI} {d:Dt} {f:qa} (q:ab h d f) (l:LI) (k:HI) (i:Nat) (a:l[i]?=ε (ε d)):e2 RB (e2 rA (eV i) (ro 0)) (eC (.str "one")) l k=ε (.bl (LK f),k):=by
 cases f with
 | ways m=>rw[show d=yA m from q]at a;simp![wA,gA,a,iA,fA,uA,yA,bC,FC,Qa,Ro,JG,Kl,LK]
 | long x=>rw[show d=_ from q]at a;simp![wA,gA,a,iA,fA,uA,bC,FC,Qa,Ro,JG,Rm,LK]
 | one g=>obtain⟨b,rfl,_⟩:=q;simp![wA,gA,a,iA,fA,uA,bC,FC,Qa,Ro,JG,decide_true,LK]
def DD(f:Nat->Nat->Nat):Ms qa->(Nat->Nat->Nat)
 | []=>f
 | .ways m::fs=>DD (LB f m.1 m.2.1 m.2.2) fs
 | _::fs=>DD f fs
theorem kO(x:qa):∀(fs:Ms qa)(f:Nat->Nat->Nat),DD f (fs++[x])=DD (DD f fs) [x]
 | [],f=>rfl
 | .ways m::fs,f=>kO x fs _
 | .long m::fs,f=>kO x fs _
 | .one m::fs,f=>kO x fs _
theorem fJ{c:Nat}:∀(fs:Ms qa)(_:∀x∈fs,dH c x)(f:Nat->Nat->Nat),bB c f->bB c (DD f fs)
 | [],_,f,o=>o
 | .ways m::fs,h,f,o=>by obtain⟨a,b,d,_⟩:=h (.ways m) ⋯;exact fJ fs (fun x e=>h x (by simp[e])) _ (tK o a b d _)
 | .long m::fs,h,f,o=>fJ fs (fun x e=>h x (by simp[e])) _ o
 | .one m::fs,h,f,o=>fJ fs (fun x e=>h x (by simp[e])) _ o
theorem NW{h:HI}{a c:Nat}(r:c<=1000){ds:Ms Dt}(s:h[a]?=ε (.lst ds)){fs:Ms qa}(F:Yi h ds fs)(ok:∀x∈fs,dH c x) :
 ∃b h',PJ [.int (c:Nat),.ref a] h=ε (.ref (b+c),h')/\Te h' b c (DD vC fs)/\Up h h':=by
 have H:=uc r h;have u:Up h (h++qD h.length c vC):=Up.app _ _;have O:=CG h c vC;have C:ds=ds.map id:=by simp
 obtain⟨Q,h',e,f,y,rfl,g,U⟩:=zP (i:=3) (n:=a) (body:=BL) id (fun k l h'=>∃f y,l=[ε (.int (c:Nat)),ε (.ref a),ε (.ref (f+c)),y]/\Te h' f c (DD vC (fs.take k))/\Up h h') ds (by
  rintro k l h' ⟨f,y,rfl,g,U⟩;rw[<- C];exact U.get s) (by
  rintro k d hd l h' ⟨f,y,rfl,g,U⟩;obtain⟨x,p,q⟩:=F.get hd;have j:=S9 q [ε (.int (c:Nat)),ε (.ref a),ε (.ref (f+c)),ε d] h' 3 rfl;have o:=ok x (jo p);have eq:DD vC (fs.take (k+1))=DD (DD vC (fs.take k)) [x]:=by rw[YJ p,kO]
  have P:([ε (.int (c:Nat)),ε (.ref a),ε (.ref (f+c)),y]:LI).set 3 (ε (id d))=[ε (.int (c:Nat)),ε (.ref a),ε (.ref (f+c)),ε d]:=rfl;rw[P];cases x with
  | ways m=>obtain⟨L,J,S,R⟩:=o;have B:d=yA m:=q;have I:=qO g r L J m.2.1;have M:=CG h' c (LB (DD vC (fs.take k)) m.1 m.2.1 m.2.2);refine⟨.nx [ε (.int (c:Nat)),ε (.ref a),ε (.ref (h'.length+c)),ε d] (h'++qD h'.length c (LB (DD vC (fs.take k)) m.1 m.2.1 m.2.2)),?_,h'.length,_,rfl,by rw[eq];exact M,U.trans (Up.app _ _)⟩;have E:atI [Dt.str "ways",Dt.int (m.1:Nat),Dt.int (m.2.1:Nat),Dt.int (m.2.2:Nat)] 2=ε (.int (m.2.1:Nat)):=rfl;have G:atI [Dt.str "ways",Dt.int (m.1:Nat),Dt.int (m.2.1:Nat),Dt.int (m.2.2:Nat)] 1=ε (.int (m.1:Nat)):=rfl;have D:atI [Dt.str "ways",Dt.int (m.1:Nat),Dt.int (m.2.1:Nat),Dt.int (m.2.2:Nat)] 3=ε (.int (m.2.2:Nat)):=rfl;unfold BL;rw[OB,NA,j];rw[B];simp![vQ,fA,VA,eG,GB,MA,EA,zA,wA,gA,uA,Qa,Qo,iA,yA,bC,G,E,D,Ro,Ri,I,Us,Ua]
  | long m=>refine⟨.nx [ε (.int (c:Nat)),ε (.ref a),ε (.ref (f+c)),ε d] h',?_,f,_,rfl,by rw[eq];exact g,U⟩;unfold BL;rw[OB,NA,j];simp![vQ,fA,VA,Vs,eH,QE]
  | one m=>
   refine⟨.nx [ε (.int (c:Nat)),ε (.ref a),ε (.ref (f+c)),ε d] h',?_,f,_,rfl,by rw[eq];exact g,U⟩;unfold BL;rw[OB,NA,j];simp![vQ,fA,VA,Vs,eH,QE]) [ε (.int (c:Nat)),ε (.ref a),ε (.ref (h.length+c)),none] (h++qD h.length c vC) ⟨h.length,_,rfl,O,u⟩
 rw[F.len,Ka]at g;refine⟨f,h',?_,g,U⟩;dsimp![PJ,QR,Qs,Uu,Ve,Ui,XA,GB,MA,EA,zA,Qo,Ri,H,fB,Us,Ua,WD,rD,zF (u.get s),e,qB,wB]
theorem GX{te:RE}{tc:RT}{n:Nat}(p:qa->Bool)(o:Dt->qa->Dt){ds:Ms Dt}{fs:Ms qa}(l:LI)(h:HI)(F:Yi h ds fs)(e:h[n]?=ε (.lst ds))(D:ds.length<sizeLine)
 (H:∀d f,ab h d f->f∈fs->tc (l.set 0 (ε d)) h=ε (p f,h)/\(p f=true->te (l.set 0 (ε d)) h=ε (o d f,h))) :
 BE (CA 0) tc te l (.rf n,h)=ε (((ds.zip fs).filter fun x=>p x.2).map fun x=>o x.1 x.2,h):=by
 have go:∀(m k:Nat)(i:LI),(∀d,i.set 0 d=l.set 0 d)->m=ds.length-k+1->k<=ds.length->∀g:Ms Dt,g.length<=k->g=((((ds.zip fs).take k).filter fun x=>p x.2).map fun x=>o x.1 x.2)->eE (CA 0) tc te (.rf n) m k i h g=ε (((ds.zip fs).filter fun x=>p x.2).map fun x=>o x.1 x.2,h):=by
  intro m
  induction m with
  | zero=>intro k i _ e;omega
  | succ m ih=>
   intro k i r E G g B b;unfold eE;simp![qi.at,e];by_cases a:k<ds.length
   . obtain⟨f,j,q⟩:=F.get (iu a);have s:(ds.zip fs)[k]?=ε (ds[k],f):=by rw[getElem?_zip_eq_some];exact⟨iu a,j⟩
     obtain⟨y,u⟩:=H ds[k] f q (jo j);rw[iu a];simp![gG,Ss,r,y];by_cases z:p f=true
     . rw[dh z];simp![u z,Ss];rw[dh nofun];refine ih (k+1) _ (fun d=>by rw[set_set]) nofun nofun _ (by simp;omega) ?_;rw[YJ s,filter_append,Fe,<- b];simp[z]
     . rw[dG z];refine ih (k+1) _ (fun d=>by rw[set_set]) nofun nofun _ nofun ?_;rw[YJ s,filter_append,Fe,<- b];simp[z]
   . rw[jj nofun];have C:(ds.zip fs).length=ds.length:=by rw[length_zip,F.len];omega
     rw[Je nofun]at b;rw[b]
 have j:qi.fuel (.rf n) h=ds.length-0+1:=by simp![qi.fuel,e];omega
 unfold BE;simp![j];exact go _ 0 l (fun _=>rfl) rfl (mq _) [] ⋯ ⋯
def ED:Ms qa->Ms Ln
 | []=>[]
 | .long x::fs=>x::ED fs
 | _::fs=>ED fs
def LC:Ms qa->Ms (Ms nC)
 | []=>[]
 | .one g::fs=>g::LC fs
 | _::fs=>LC fs
def Um:qa->Dt
 | .long x=>oB x
 | _=>.non
noncomputable def Qm:Dt->Dt
 | .tup [_,x]=>x
 | _=>.non
theorem AW{h:HI}{a:Nat}{ds:Ms Dt}(b:h[a]?=ε (.lst ds))(hz:ds.length<sizeLine){fs:Ms qa}(F:Yi h ds fs):xL [.ref a] h=ε (.lst ((ED fs).map oB),h):=by
 have e:=GX (te:=rW) (tc:=pR) rN (fun _ f=>Um f) [none] h F b hz (by
  intro d f q _;refine⟨?_,fun z=>?_⟩
  . unfold pR;rw[NA,R9 q _ _ 0 rfl];rfl
  . cases f with
    | long x=>rw[show d=_ from q];rfl
    | ways m=>cases z
    | one g=>cases z)
 have eq:∀(ds:Ms Dt)(fs:Ms qa),Yi h ds fs->((ds.zip fs).filter fun x=>rN x.2).map (fun x=>Um x.2)=(ED fs).map oB:=by
  intro ds fs F
  induction F with
  | nil=>rfl
  | @cons d f ds fs a r ih=>
   rw[zip_cons_cons,filter_cons];cases f with
   | long x=>rw[dh (show rN (qa.long x)=true from rfl),Qs,ih];rfl
   | ways m=>rw[dG (show ¬rN (qa.ways m)=true from Va),ih];rfl
   | one g=>rw[dG (show ¬rN (qa.one g)=true from Va),ih];rfl
 rw[eq _ _ F]at e;dsimp![xL,yR,Qs,Uu,Ve,Ui,Ri,qB,cH,rD,zF b,rF,oF,e,wB]
inductive ad(h:HI):List Dt->List (List nC)->Prop where
 | nil:ad h [] []
 | cons {d:Dt} {g:List nC} {ds:List Dt} {gs:List (List nC)} (a:ek h d g) (r:ad h ds gs):ad h (d::ds) (g::gs)
theorem ad.up{h h':HI}{ds:Ms Dt}{gs:Ms (Ms nC)}(q:ad h ds gs)(u:qo h h'):ad h' ds gs:=by
 induction q with
 | nil=>exact .nil
 | cons a r ih=>exact .cons (a.up u) ih
theorem OW{h:HI}{a:Nat}{ds:Ms Dt}(e:h[a]?=ε (.lst ds))(hz:ds.length<sizeLine){fs:Ms qa}(F:Yi h ds fs):∃b,ad h b (LC fs)/\QJ [.ref a] h=ε (.lst b,h):=by
 have i:=GX (te:=BW) (tc:=ER) LK (fun d _=>Qm d) [none] h F e hz (by
  intro d f q _;refine⟨?_,fun z=>?_⟩
  . unfold ER;rw[NA,P1 q _ _ 0 rfl];rfl
  . cases f with
    | one g=>obtain⟨j,rfl,_⟩:=q;rfl
    | ways m=>cases z
    | long x=>cases z)
 refine⟨((ds.zip fs).filter fun x=>LK x.2).map fun x=>Qm x.1,?_,?_⟩
 rotate_left
 . dsimp![QJ,SR,Qs,Uu,Ve,Ui,Ri,qB,cH,rD,zF e,rF,oF,i,wB]
 . clear i e hz
   induction F with
   | nil=>exact .nil
   | @cons d f ds fs a r ih=>
    rw[zip_cons_cons,filter_cons];cases f with
    | one g=>obtain⟨j,rfl,q⟩:=a;rw[dh (show LK (qa.one g)=true from rfl),Qs];exact .cons q ih
    | ways m=>rw[dG (show ¬LK (qa.ways m)=true from Va)];exact ih
    | long x=>rw[dG (show ¬LK (qa.long x)=true from Va)];exact ih
theorem Bk{j:Type}{te:RE}{i n:Nat}(D F:j->Dt)(xs:Ms j)(l:LI)(h:HI)(e:h[n]?=ε (.lst (xs.map D)))(q:xs.length<sizeLine)(H:∀x∈xs,te (l.set i (ε (D x))) h=ε (F x,h)) :
 BE (CA i) uB te l (.rf n,h)=ε (xs.map F,h):=by
 have go:∀(m k:Nat)(b:LI),(∀d,b.set i d=l.set i d)->m=xs.length-k+1->k<=xs.length->eE (CA i) uB te (.rf n) m k b h ((xs.take k).map F)=ε (xs.map F,h):=by
  intro m
  induction m with
  | zero=>intro k b _ e;omega
  | succ m ih=>
   intro k b g r s;unfold eE;simp![qi.at,e,qu];by_cases a:k<xs.length
   . rw[iu a];have f:=H xs[k] (getElem_mem a);have o:((xs.take k).map F).length<sizeLine:=by rw[lq,Ba];omega
     simp![Ro,gG,Ss,oM,eG,g,f,dh o];have:=ih (k+1) (l.set i (ε (D xs[k]))) (fun d=>by rw[set_set]) nofun nofun;rw[take_add_one,iu a,Fe]at this;exact this
   . rw[jj nofun];have:k=xs.length:=by omega
     subst this;simp![Option.map_none,Ka]
 have p:qi.fuel (.rf n) h=xs.length-0+1:=by simp![qi.fuel,e,lq];omega
 unfold BE;have:=go (xs.length-0+1) 0 l (fun _=>rfl) rfl (mq _);simp![p];exact this
inductive Zu{α β:Type}(R:α->β->Prop):List α->List β->Prop where
 | nil:Zu R [] []
 | cons {a:α} {b:β} {as:List α} {bs:List β} (h:R a b) (r:Zu R as bs):Zu R (a::as) (b::bs)
theorem Zu.imp{e d:Type}{R S:e->d->Prop}(i:∀a b,R a b->S a b){f:Ms e}{bs:Ms d}(h:Zu R f bs):Zu S f bs:=by
 induction h with
 | nil=>exact .nil
 | cons a r ih=>exact .cons (i _ _ a) ih
theorem Zu.len{d b:Type}{R:d->b->Prop}{e:Ms d}{bs:Ms b}(h:Zu R e bs):e.length=bs.length:=by
 induction h with
 | nil=>rfl
 | cons a r ih=>simp[ih]
theorem Zu.gy{g e d:Type}{R:d->e->Prop}{f:g->d}:∀{i:Ms g}{bs:Ms e},Zu (fun a b=>R (f a) b) i bs->Zu R (i.map f) bs
 | _,_,.nil=>.nil
 | _,_,.cons h r=>.cons h (Zu.gy r)
theorem rS{e:Type}{te:RE}(D:e->Dt)(P:HI->e->Dt->Prop)(up:∀h a x d,Up h a->P h x d->P a x d):∀(xs:Ms e)(l:LI)(h:HI),(∀x∈xs,∀a,Up h a->∃d b,te (l.set 0 (ε (D x))) a=ε (d,b)/\Up a b/\P b x d)->
 ∃ds a,DE (CA 0) uB te (xs.map D) l h=ε (ds,a)/\Up h a/\Zu (P a) xs ds
 | [],l,h,_=>⟨[],h,rfl,Up.refl h,.nil⟩
 | x::xs,l,h,H=>by
  obtain⟨d,m,n,g,j⟩:=H x ⋯ h (Up.refl h);obtain⟨ds,b,e2,f,i⟩:=rS D P up xs (l.set 0 (ε (D x))) m (fun y k a u=>by
   rw[set_set];exact H y (by simp[k]) a (g.trans u))
  refine⟨d::ds,b,?_,g.trans f,.cons (up _ _ _ _ f j) i⟩;simp![Qs,DE,gG,Ss,oM,eG,n,e2]
def be(h:HI)(c:Nat)(f:Nat->Nat->Nat)(d:Dt):Prop:=∃b,d=.ref (b+c)/\Te h b c f
theorem be.up{h h':HI}{c:Nat}{f:Nat->Nat->Nat}{d:Dt}(n:be h c f d)(u:qo h h'):be h' c f d:=by obtain⟨b,e,N⟩:=n;exact⟨b,e,u.net N⟩
def XD(c:Nat)(g:Nat->Nat->Nat):Ms (Ms nC)->Ni (Ni (Nat×Nat)×Ms (Nat->Nat->Nat)×Ms (Nat×Nat))
 | grp::_=>ε (none,(List.range grp.length).map (RP g grp),grp.map fun m=>(m.1,m.2.2))
 | []=>match FH c g with
  | none=>none
  | some p=>ε (ε p,(eB (g p.1 p.2)).map fun w=>LB g p.1 (2^w) p.2,[p])
def EC(tag:Ni (Nat×Nat))(a:Ms Dt)(b:Ms (Nat×Nat)):Dt:=match tag with
 | none=>.tup [.str "one", .tup [],.lst a,.lst (b.map xA)]
 | some p=>.tup [.str "split",xA p,.lst a,.lst (b.map xA)]
theorem ZS:∀g:Ms nC,HC (g.map yA)=true
 | []=>rfl
 | m::g=>by rw[Qs];simp![HC,yA,BB,Fi];exact ZS g
theorem xT:∀g:Ms nC,ID (g.map yA)<=1
 | []=>mq _
 | m::g=>by rw[Qs];have:=xT g;have a:OG (yA m)=1:=rfl;simp![ID,a];omega
theorem oY(h:HI):∀g:Ms nC,XB (LA h 6) (g.map yA)=ε (g.map yA)
 | []=>rfl
 | m::g=>by rw[Qs];have ih:=oY h g;have a:LA h 6 (yA m)=ε (yA m):=rfl;simp![XB,a,ih,Ss,Ro]
theorem Ph{h:HI}{ds:Ms Dt}{b:Ms (Ms nC)}(q:ad h ds b):XB (LA h 7) ds=ε (b.map fun g=>.lst (g.map yA)):=by
 induction q with
 | nil=>rfl
 | @cons d g ds b a r ih=>
  obtain⟨n,rfl,e⟩:=a;have f:LA h 7 (.ref n)=ε (.lst (g.map yA)):=by show(match h[n]? with | some (.lst xs)=>(XB (LA h 6) xs).map Dt.lst | _=>none)=_;rw[e];simp![oY,Ro]
  simp![XB,f,ih,Ss,Ro,Qs]
theorem OX:∀a:Ms (Ms nC),HC (a.map fun g=>.lst (g.map yA))=true
 | []=>rfl
 | g::a=>by rw[Qs];simp![HC,BB,ZS,Fi];exact OX a
theorem zY:∀a:Ms (Ms nC),ID (a.map fun g=>.lst (g.map yA))<=2
 | []=>mq _
 | g::a=>by rw[Qs];have:=zY a;have b:=xT g;simp![ID,OG];omega
theorem Ir{h:HI}{ds:Ms Dt}{a:Ms (Ms nC)}(q:ad h ds a):RC (.lst ds) (.lst []) h=ε (.bl (!a.isEmpty),h):=by
 have d:LA h 8 (.lst ds)=ε (.lst (a.map fun g=>.lst (g.map yA))):=by show(XB (LA h 7) ds).map Dt.lst=_;rw[Ph q];rfl
 have b:LA h 8 (.lst [])=ε (.lst []):=by simp[LA,XB]
 have ok:uE (a.map fun g=>Dt.lst (g.map yA)) []=true:=by unfold uE;rw[OX];have:=zY a;simp[HC];omega
 rw[sV d b ok];cases a with
 | nil=>rfl
 | cons p W=>rfl
theorem jX{h:HI}{b c:Nat}{g:Nat->Nat->Nat}(N:Te h b c g)(og:bB c g)(hc:c<=100){gds:Ms Dt}{D:Ms (Ms nC)}(Q:ad h gds D)(ok:∀x∈D,∀m∈x,AE c m)(sm:∀x∈D,x.length<=1000) :
 ∃j,Up h j/\match XD c g D with
  | none=>OF [.ref (b+c),.lst gds] h=ε (.non,j)
  | some (tag,bs,ps)=>∃f,Zu (be j c) bs f/\OF [.ref (b+c),.lst gds] h=ε (EC tag f ps,j):=by
 have ne:=Ir Q;cases Q with
 | @cons d grp ds a0 a r=>
  obtain⟨n,rfl,s⟩:=a;have gl:=sm grp ⋯;have H:=ok grp ⋯;have S:=fun h=>fG (h:=h) (show(-(2^62):Int)<=(grp.length:Int) by omega) (show(grp.length:Int)<2^62 by omega)
  simp![m6]at S;obtain⟨f,j,e,U,A⟩:=rS (te:=QN) (fun(k:Nat)=>Dt.int (k:Int)) (fun h k d=>be h c (RP g grp k) d) (fun h j k d u q=>q.up u.l) (List.range grp.length) [none,ε (.ref (b+c)),ε (.ref n)] h (by
   intro k _ j u;obtain⟨b',h2,e,N',U'⟩:=Vq (u.net N) nofun (u.get s) H k;refine⟨_,h2,?_,U',b',rfl,N'⟩;simp![QN,MA,EA,zA,gA,Ua,Qa,Qo,iA,fA,Ri,e])
  have C:=PF (l:=[none,ε (.ref (b+c)),ε (.ref n)]) (h:=h) (CA 0) uB QN (xs:=(List.range grp.length).map fun(k:Nat)=>Dt.int (k:Int)) (by simp[sizeLine];omega);rw[e]at C;have B:=Bk (te:=xW) (i:=0) yA (fun m:nC=>xA (m.1,m.2.2)) grp [none] j (U.get s) (by simp[sizeLine];omega) (by
   intro m _;rfl)
  have R:=EH s;rw[lq]at R;refine⟨j,U,?_⟩;show ∃f,Zu (be j c) ((List.range grp.length).map (RP g grp)) f/\OF [.ref (b+c),.lst (.ref n::ds)] h=ε (EC none f (grp.map fun m=>(m.1,m.2.2)),j)
  refine⟨f,A.gy,?_⟩;have pm:grp.map (fun m:nC=>xA (m.1,m.2.2))=(grp.map fun m=>(m.1,m.2.2)).map xA:=by rw[map_map];rfl
  rw[pm]at B;have Y:=zF (U.get s);dsimp![OF,mO,Qs,Uu,Ve,Ui,XA,OB,NA,wA,uA,JH,zA,Qo,mq,ne,isEmpty_cons,qe,VA,GB,vI,FC,Ro,Us,Ua,fB,cH,IK,dC,R,S,rF,gJ,oF,Ks,C,qB,yE,EA,rD,Y,B,RF,wB];rfl
 | nil=>
  obtain⟨o,E,I⟩:=Uq N (show c<=1000 by omega);generalize y:OF [.ref (b+c),.lst []] h=X;dsimp![OF,mO,Qs,Uu,Ve,Ui,XA,OB,NA,wA,uA,JH,zA,Qo,mq,ne,isEmpty_nil,qg,VA,Vs,eH,QE,fB,GB,MA,EA,Ri]at y;cases lp:FH c g with
  | none=>
   rw[lp]at E;refine⟨o,I,?_⟩;have F:XD c g []=none:=by simp![XD,lp]
   rw[F];simp![E,fA,fB,XA,OB,NA,wA,gA,uA,Qa,Qo,iA,Us,Ua,v3,vJ,VA,eG,qB,RF,wB]at y;exact y.symm
  | some p=>
   rw[lp]at E;have F:XD c g []=ε (ε p,(eB (g p.1 p.2)).map (fun w=>LB g p.1 (2^w) p.2),[p]):=by simp![XD,lp]
   rw[F];have hp:p∈KA c:=za lp;obtain⟨G,M⟩:=AT hp;have J:=I.net N;obtain⟨f,j,e,U,A⟩:=rS (te:=RN) (fun(w:Nat)=>Dt.int (w:Int)) (fun h w d=>be h c (LB g p.1 (2^w) p.2) d) (fun h j k d u q=>q.up u.l) (eB (g p.1 p.2)) [none,ε (.ref (b+c)),ε (xA p)] o (by
    intro w hw j u;have L:=(bj.mp hw).1;have s:=qO (u.net J) (show c<=1000 by omega) G M (2^w);refine⟨_,_,?_,Up.app _ _,j.length,rfl,CG j c _⟩;have Z:=QM (h:=j) (UK L);have pw:(1:Int)*2^w=((2^w:Nat):Int):=by simp
    simp![RN,MA,EA,zA,wA,uA,gA,Ua,Qa,Qo,iA,fA,xA,bC,FC,tF,Ro,Z,m6,pw,Ri,s])
   have L:=NL (g p.1 p.2);have C:=PF (l:=[none,ε (.ref (b+c)),ε (xA p)]) (h:=o) (CA 0) uB RN (xs:=(eB (g p.1 p.2)).map fun(w:Nat)=>Dt.int (w:Int)) (by simp[sizeLine];omega);rw[e]at C;have P:=FE J.top (p.1:Int);rw[SM.lD,ZO G,Ro]at P;have O:=FE (J.row _ G) (p.2:Int);rw[SM.lD,TL M,Ro]at O;refine⟨j,I.trans U,f,A.gy,?_⟩;have np:vJ (xA p)=false:=rfl;have W:rA (xA p) (.int 0) o=ε (.int (p.1:Nat),o):=rfl;have T:rA (xA p) (.int 1) o=ε (.int (p.2:Nat),o):=rfl;simp![E,fA,fB,XA,OB,NA,wA,gA,uA,Qa,Qo,iA,Us,Ua,v3,np,VA,Vs,eH,QE,GB,MA,EA,zA,Ri,W,T,P,O,cH,rD,JL,WG,rF,gJ,oF,Ks,C,qB,yE,Qu,Ru,Nat.reduceAdd,wB]at y;rw[<- y];rfl
theorem iw{c b:Nat}(C:c<=100){N:Nat->Nat->Nat}{ls:Ms Ln}(B:ls.length<=1000){h:HI}(r:Te h b c N)(a d:Ni Dt):∃y rest,kC (CA 3) pO (ls.map oB) [ε (.ref (b+c)),a,ε (.ref h.length),none,d] (h++[.lst ((eD c).map nA)]) =
 ε (.nx [ε (.ref (b+c)),a,ε (.ref h.length),y,d] (h++.lst ((eD c++ls.flatMap (VC (2*c+1))).map nA)::rest)):=by
 have n:(eD c).length=c:=by simp[eD]
 obtain⟨s,j,e,⟨y,rfl⟩,rest,rfl,_⟩:=qM (i:=3) (body:=pO) oB (fun k l j=>(∃y,l=[ε (.ref (b+c)),a,ε (.ref h.length),y,d])/\∃rest,j=h++.lst ((eD c++(ls.take k).flatMap (VC (2*c+1))).map nA)::rest/\((ls.take k).flatMap (VC (2*c+1))).length<=2*k) ls 0 (by
  rintro k x f l j ⟨⟨y,rfl⟩,rest,rfl,p⟩;rw[xu]at p ⊢;have u:k<ls.length:=(Uo f).1;have m:(VC (2*c+1) x).length=2:=rfl;have o:=(r.grow (.lst ((eD c++(ls.take k).flatMap (VC (2*c+1))).map nA)::rest)).len;have q:=Kq x.1 x.2.1 x.2.2 (g:=2*c+1) nofun (h++.lst ((eD c++(ls.take k).flatMap (VC (2*c+1))).map nA)::rest);have a:=qU (h:=h) (F:=eD c++(ls.take k).flatMap (VC (2*c+1))) (G:=VC (2*c+1) x) (rest:=rest) (cx:=[]) (l:=[ε (.ref (b+c)),a,ε (.ref h.length),ε (oB x),d]) (g:=qA qL [] (bA (eV 3) (bA (qA aM [] (bA (YB QB (eV 0)) (eA))) (eA)))) (by rw[g8,n,m];omega) (by
   simp![MA,EA,zA,dC,gA,Qa,Qo,iA,fA,o,Tf,Ri,oB];exact q)
  refine⟨.nx [ε (.ref (b+c)),_,ε (.ref h.length),ε (oB x),d] (h++.lst ((eD c++(ls.take (k+1)).flatMap (VC (2*c+1))).map nA)::(rest++[.lst ((VC (2*c+1) x).map nA)])),?_,⟨ε (oB x),rfl⟩,rest++[.lst ((VC (2*c+1) x).map nA)],rfl,?_⟩
  . rw[VJ _ f,<- nu];simp![pO,cE,WO,gA,Us,Ua,Qa,Qo,iA,fA,a]
  . rw[VJ _ f,g8,m];omega) [ε (.ref (b+c)),a,ε (.ref h.length),none,d] (h++[.lst ((eD c).map nA)]) ⟨⟨_,rfl⟩,[],by simp,by simp⟩
 rw[xu,Ka]at *;exact⟨y,rest,e⟩
theorem sy{c d b:Nat}(Q:c<=100){N:Nat->Nat->Nat}(H:∀i j,i<c->j<c->eB (N i j) ≠ []){h:HI}(J:Te h d c N){F:Ms Bd}(R:F.length<=3000){r0:Ms Ob}(db:∀G:Ms Bd,∀a:Ms Ob,(h++.lst (G.map nA)::(r0++a))[b]?=ε (.lst ((KA c).map xA)))(m f:Ni Dt)(pl:(KA c).length<=10000)(pin:∀p∈KA c,p.1<c/\p.2<c) :
 ∃y rest,zD (CA 4) eJ [ε (.ref (d+c)),m,ε (.ref h.length),f,none] (.rf b,h++.lst (F.map nA)::r0) =
 ε (.nx [ε (.ref (d+c)),m,ε (.ref h.length),f,y] (h++.lst ((F++(KA c).flatMap fun p=>DC p.1 (N p.1 p.2) p.2).map nA)::rest)):=by
 obtain⟨M,q,e,⟨y,rfl⟩,a,rfl,_⟩:=zP (i:=4) (n:=b) (body:=eJ) xA (fun k l q=>(∃y,l=[ε (.ref (d+c)),m,ε (.ref h.length),f,y])/\∃a,q=h++.lst ((F++((KA c).take k).flatMap fun p=>DC p.1 (N p.1 p.2) p.2).map nA)::(r0++a)/\(((KA c).take k).flatMap fun p=>DC p.1 (N p.1 p.2) p.2).length<=8*k) (KA c) (by
  rintro k l q ⟨_,a,rfl,_⟩;exact db _ a) (by
  rintro k x o l q ⟨⟨y,rfl⟩,a,rfl,P⟩;have O:k<(KA c).length:=(Uo o).1;obtain⟨r,u⟩:=pin x (jo o);have L:(DC x.1 (N x.1 x.2) x.2).length<=8:=by unfold DC;rw[g8];have:=aJ x.1 x.2 0 (N x.1 x.2);have:=aJ x.1 x.2 1 (N x.1 x.2);omega
  have D:=J.grow (.lst ((F++((KA c).take k).flatMap fun p=>DC p.1 (N p.1 p.2) p.2).map nA)::(r0++a));obtain⟨s,I⟩:=uW x.1 (N x.1 x.2) x.2 nofun nofun (H _ _ r u) (h++.lst ((F++((KA c).take k).flatMap fun p=>DC p.1 (N p.1 p.2) p.2).map nA)::(r0++a));have C:=FE D.top (x.1:Int);rw[SM.lD,ZO r,Ro]at C;have B:=FE (D.row _ r) (x.2:Int);rw[SM.lD,TL u,Ro]at B;have E:=qU (h:=h) (F:=F++((KA c).take k).flatMap fun p=>DC p.1 (N p.1 p.2) p.2) (G:=DC x.1 (N x.1 x.2) x.2) (rest:=r0++a) (cx:=s) (l:=[ε (.ref (d+c)),m,ε (.ref h.length),f,ε (xA x)]) (g:=qA SJ [] (bA (e2 rA (eV 4) (ro 0)) (bA (e2 rA (e2 rA (eV 0) (e2 rA (eV 4) (ro 0))) (e2 rA (eV 4) (ro 1))) (bA (e2 rA (eV 4) (ro 1)) (eA))))) (by rw[g8];omega) (by
   simp![MA,EA,zA,wA,uA,gA,Qa,Qo,iA,fA,xA,bC,FC,tF,Ro,C,B,Ri];exact I)
  refine⟨.nx [ε (.ref (d+c)),m,ε (.ref h.length),f,ε (xA x)] (h++.lst ((F++((KA c).take (k+1)).flatMap fun p=>DC p.1 (N p.1 p.2) p.2).map nA)::(r0++(a++.lst ((DC x.1 (N x.1 x.2) x.2).map nA)::s))),?_,⟨_,rfl⟩,_,rfl,?_⟩
  . rw[VJ _ o,<- nu,<- nu];simp![eJ,cE,WO,gA,Us,Ua,Qa,Qo,iA,fA,E]
  . rw[VJ _ o,g8];omega) [ε (.ref (d+c)),m,ε (.ref h.length),f,none] (h++.lst (F.map nA)::r0) ⟨⟨_,rfl⟩,[],by simp,by simp⟩
 rw[Ka]at e;exact⟨y,_,e⟩
theorem oX{c m:Nat}(d:c<=100){N:Nat->Nat->Nat}(E:∀i j,i<c->j<c->eB (N i j) ≠ []){ls:Ms Ln}(o:ls.length<=1000){h:HI}(f:Te h m c N) :
 ∃rest,jI [.ref (m+c),.lst (ls.map oB)] h=ε (.ref h.length,h++.lst ((KC c N ls).map nA)::rest):=by
 have C:=f.len;have r:=fG (h:=h) (show(-(2^62):Int)<=(c:Int) by omega) (show(c:Int)<2^62 by omega);simp![m6]at r;have u:=fun(i:Int) (h:HI)=>SF (h:=h) (i:=2) (j:=i) (Or.inl ⟨by decide,by decide⟩)
 have J:=aH (te:=nO) (tc:=uB) (i:=0) (fun(k:Nat)=>Dt.int (k:Int)) (fun k=>nA (2*k,2*k+1,-1)) h (List.range c) [none] (by
  intro k _;exact⟨by simp,by simp[nO,u,nA]⟩)
 have e:=PF (l:=[none]) (h:=h) (CA 0) uB nO (xs:=(List.range c).map fun(k:Nat)=>Dt.int (k:Int)) (by simp;omega);rw[J]at e;have I:(List.range c).map (fun k=>nA (2*k,2*k+1,-1))=(eD c).map nA:=by unfold eD;rw[map_map];rfl
 rw[I]at e;obtain⟨y,r0,s⟩:=iw d o f (ε (.lst (ls.map oB))) none;have a:=(f.grow (.lst ((eD c++ls.flatMap (VC (2*c+1))).map nA)::r0)).len;have g:=rO (c:=c) nofun (h++.lst ((eD c++ls.flatMap (VC (2*c+1))).map nA)::r0);have H:(ls.flatMap (VC (2*c+1))).length<=2*ls.length:=by
  clear s g e a
  induction ls with
  | nil=>simp
  | cons x ls ih=>rw[flatMap_cons,g8,Qu];have:(VC (2*c+1) x).length=2:=rfl;have:=ih (by simp at o;omega);omega
 have pl:(KA c).length<=10000:=by have:=XJ c c;have M:c*c<=100*100:=Ii d d;unfold KA;omega
 obtain⟨L,rest,e2⟩:=sy (b:=(h++Ob.lst ((eD c++ls.flatMap (VC (2*c+1))).map nA)::r0).length) d E f (F:=eD c++ls.flatMap (VC (2*c+1))) (by simp[eD]at H ⊢;omega) (r0:=r0++[.lst ((KA c).map xA)]) (fun G r2=>by
  have:h++Ob.lst (G.map nA)::(r0++[Ob.lst ((KA c).map xA)]++r2)=(h++Ob.lst (G.map nA)::r0)++Ob.lst ((KA c).map xA)::r2:=by simp
  rw[this,Ye ⋯];simp) (ε (.lst (ls.map oB))) y pl (fun p D=>AT D)
 refine⟨rest,?_⟩;have q:(h++Ob.lst ((eD c++ls.flatMap (VC (2*c+1))).map nA)::r0)++[Ob.lst ((KA c).map xA)]=h++Ob.lst ((eD c++ls.flatMap (VC (2*c+1))).map nA)::(r0++[Ob.lst ((KA c).map xA)]):=by simp
 rw[q]at g;have B:=zF (h:=h++Ob.lst ((eD c++ls.flatMap (VC (2*c+1))).map nA)::(r0++[Ob.lst ((KA c).map xA)])) (n:=(h++Ob.lst ((eD c++ls.flatMap (VC (2*c+1))).map nA)::r0).length) (xs:=(KA c).map xA) (by
  rw[<- q,Ye (Ra _),Bu];rfl)
 unfold KC;dsimp![jI,ST,Qs,Uu,Ve,Ui,XA,GB,RL,IK,dC,Qo,C,a,r,rF,oF,e,Us,Ua,fB,WD,rD,WG,ZF,s,MA,EA,zA,Ri,g,B,e2,qB,wB]
theorem R0(f:Nat->Nat->Nat){i j:Nat}(m:Nat)(a:i≠j):LB f i m j i j=f i j&&&m:=by unfold LB FB;have:¬i=j:=a;simp[this]
theorem Z6(f:Nat->Nat->Nat)(i m j:Nat):LB f i m j j i=Za (f i j&&&m):=by unfold LB FB;simp
theorem ZI(f:Nat->Nat->Nat){i m j a b:Nat}(h1:¬(a=i/\b=j))(h2:¬(a=j/\b=i)):LB f i m j a b=f a b:=by
 unfold LB FB;by_cases g:a=j
 . by_cases e2:b=i
   . exact Ci ⟨g,e2⟩ h2
   . rw[dh g,dG e2];by_cases d:a=i
     . by_cases e:b=j
       . exact Ci ⟨d,e⟩ h1
       . rw[dh d,dG e]
     . rw[dG d]
 . rw[dG g];by_cases d:a=i
   . by_cases e:b=j
     . exact Ci ⟨d,e⟩ h1
     . rw[dh d,dG e]
   . rw[dG d]
theorem zW{c:Nat}{f:Nat->Nat->Nat}(h:aF c f):HD c f [] []:=fun i e k a j b d n=>Ci (h i e k a j b d) n
theorem nY{c:Nat}{f:Nat->Nat->Nat}(o:bB c f){x z:Nat}(H:x<c)(hz:z<c)(O:x≠z)(b:Nat){W:Ms (Nat×Nat)}(h:HD c f W []):HD c (LB f x b z) (W++[(x,z)]) []:=by
 have E:=tK o H hz O b;have e:∀i<c,∀k<c,∀j<c,sG i k j->¬(i=z/\j=x)->Ue (LB f x b z) i k j≠LB f x b z i j->UD (W++[(x,z)]) i k j:=by
  intro i r k g j p d y m;obtain⟨u,e2,s⟩:=d;have grow:∀{i k j},UD W i k j->UD (W++[(x,z)]) i k j:=by
   intro i k j q;unfold UD at q ⊢;simp![Aa];rcases q with q | q | q | q
   . exact .inl (.inl q)
   . exact .inr (.inl (.inl q))
   . exact .inr (.inr (.inl (.inl q)))
   . exact .inr (.inr (.inr (.inl q)))
  have un:∀{i k j},Ue f i k j≠f i j->i<c->k<c->j<c->sG i k j->UD W i k j:=by
   intro i k j n r g p d;rcases h i r k g j p d n with q | q | q
   . exact q
   . cases q
   . cases q
  by_cases D:i=x/\j=z
  . obtain⟨rfl,rfl⟩:=D;have C:LB f i b j i k=f i k:=ZI f (fun q=>e2 q.2) (fun q=>u q.2.symm);have B:LB f i b j k j=f k j:=ZI f (fun q=>u q.1.symm) (fun q=>e2 q.1);have n:Ue f i k j≠f i j:=by intro q;apply m;unfold Ue;rw[C,B,R0 f b s];exact EY (sL (f i j) _) q
    exact grow (un n r g p ⟨u,e2,s⟩)
  . by_cases a:UD [(x,z)] i k j
    . unfold UD at a ⊢;simp![Aa];rcases a with q | q | q | q
      . exact .inl (.inr q)
      . exact .inr (.inl (.inr q))
      . exact .inr (.inr (.inl (.inr q)))
      . exact .inr (.inr (.inr (.inr q)))
    . unfold UD at a;simp![zu,not_mem_nil,or_false,su,not_or]at a;obtain⟨M,L,J,I⟩:=a;have G:LB f x b z i j=f i j:=ZI f (fun q=>D q) (fun q=>y q);have C:LB f x b z i k=f i k:=ZI f (fun q=>M q) (fun q=>L ⟨q.2,q.1⟩);have B:LB f x b z k j=f k j:=ZI f (fun q=>J q) (fun q=>I ⟨q.2,q.1⟩);have n:Ue f i k j≠f i j:=by unfold Ue at m ⊢;rw[G,C,B]at m;exact m
      exact grow (un n r g p ⟨u,e2,s⟩)
 intro i r k g j p d m
 left
 by_cases y:i=z/\j=x
 . obtain⟨u,e2,s⟩:=d;have F:=xU E p g r m;have q:=e j p k g i r ⟨m5 e2,m5 u,m5 s⟩ (fun q=>s nofun) F;unfold UD at q ⊢;rcases q with q | q | q | q
   . exact .inr (.inr (.inr q))
   . exact .inr (.inr (.inl q))
   . exact .inr (.inl q)
   . exact .inl q
 . exact e i r k g j p d y m
theorem aX{c k:Nat}:∀(e:Ms nC)(_:∀m∈e,AE c m)(f:Nat->Nat->Nat)(p:Nat)(W:Ms (Nat×Nat)),bB c f->HD c f W []->HD c (cF f k e p) (W++e.map fun m=>(m.1,m.2.2)) []
 | [],_,f,p,W,o,h=>by simpa[cF]using h
 | m::e,hm,f,p,W,o,h=>by obtain⟨a,b,d,_⟩:=hm m ⋯;have:=aX (k:=k) e (fun x g=>hm x (by simp[g])) _ (p+1) _ (tK o a b d (if p=k then m.2.1 else rj m.2.1)) (nY o a b d (if p=k then m.2.1 else rj m.2.1) h);rw[nu]at this;exact this
inductive Tr where
 | Wu (st:List (Nat×Nat×Nat))
 | ring (st:List (Nat×Nat×Nat)) (cs:Nat->Option Nat) (P k:Nat)
 | one (st:List (Nat×Nat×Nat)) (bs:List Tr)
 | split (st:List (Nat×Nat×Nat)) (p:Nat×Nat) (bs:List Tr)
inductive ri where
 | opn
 | laid (t:Nat->Int)
 | clash (tr:Tr)
inductive Wd where | opn | laid | clash
noncomputable def ri.wd:ri->Wd
 | .opn=>.opn
 | .laid _=>.laid
 | .clash _=>.clash
noncomputable def xQ(tag:Ni (Nat×Nat))(st:Ms (Nat×Nat×Nat))(bs:Ms Tr):Tr:=match tag with
 | none=>.one st bs
 | some p=>.split st p bs
noncomputable abbrev OA:=Nat->Nat->Nat
def uF(L:OA->Ms (Ms nC)->Nat->ri->Nat->Prop)(tag:Ni (Nat×Nat))(st:Ms (Nat×Nat×Nat))(e:Ms (Ms nC)):Ms OA->Nat->Ms Tr->ri->Nat->Prop
 | [],made,acc,a,bn=>a=.clash (xQ tag st acc)/\bn=made
 | b::bs,made,acc,a,bn=>(∃f d,L b e made (.clash f) d/\uF L tag st e bs d (acc++[f]) a bn)\/(a.wd≠.clash/\L b e made a bn)
def sD(c m:Nat)(ls:Ms Ln):Nat->OA->Ms (Ms nC)->Nat->ri->Nat->Prop
 | 0,_,_,_,_,_=>False
 | n+1,f,gs,made,a,bn=>
  (∃st g,qk c f st g/\yB c g=true/\a=.clash (.Wu st)/\bn=made)\/
  ∃st g,bm c f st g/\
   ((∃d P k,QH (2*c) (AB (KC c g ls)) (OK (KC c g ls)) d P k/\a=.clash (.ring st d P k)/\bn=made)\/
    (∃t,(∀e∈KC c g ls,mH t e)/\
     ((XD c g gs=none/\a=.laid t/\bn=made)\/
      (∃b bs h,XD c g gs=ε (b,bs,h)/\
       ((m<=made/\a=.opn/\bn=made)\/(made<m/\uF (sD c m ls n) b st gs.tail bs (made+1) [] a bn))))))
def ai(c:Nat)(a:Ms (Ms nC)):Prop:=∀x∈a,∀m∈x,AE c m
theorem ai.tail{c:Nat}{a:Ms (Ms nC)}(h:ai c a):ai c a.tail:=fun x b=>h x (mem_of_mem_tail b)
theorem kM{c:Nat}{g:OA}(o:bB c g){a:Ms (Ms nC)}(ok:ai c a){tag:Ni (Nat×Nat)}{bs:Ms OA}{e:Ms (Nat×Nat)}(h:XD c g a=ε (tag,bs,e)):∀b∈bs,bB c b:=by
 cases a with
 | cons grp a=>simp![XD,Es,su]at h;obtain⟨_,rfl,_⟩:=h;intro b d;obtain⟨k,_,rfl⟩:=Ae.mp d;exact SX grp (ok grp ⋯) g 0 o
 | nil=>
  simp![XD]at h;cases lp:FH c g with
  | none=>rw[lp]at h;cases h
  | some p=>rw[lp]at h;simp![Es,su]at h;obtain⟨_,rfl,_⟩:=h;intro b d;obtain⟨w,_,rfl⟩:=Ae.mp d;have f:p∈KA c:=za lp;obtain⟨j,i⟩:=cb.mp f;exact tK o nofun nofun nofun _
theorem ET{c:Nat}{g:OA}{ls:Ms Ln}{cs:Nat->Ni Nat}{P k:Nat}(R:QH (2*c) (AB (KC c g ls)) (OK (KC c g ls)) cs P k){t:Nat->Int}(a:∀e∈KC c g ls,mH t e):False:=
 Vt (b:=t) (fun e d=>by have:=a e d;unfold mH at this;omega) R
theorem cK{c m:Nat}{ls:Ms Ln}:∀(n:Nat)(f:OA)(E:Ms (Ms nC))(made:Nat)(a y:ri)(s s':Nat),bB c f->ai c E->sD c m ls n f E made a s->sD c m ls n f E made y s'->a.wd=y.wd/\s=s'
 | 0,_,_,_,_,_,_,_,_,_,h,_=>h.elim
 | n+1,f,E,made,a,y,s,s',of,og,h,e=>by
  rcases h with⟨st,g,J,h2,rfl,rfl⟩ | ⟨st,g,J,h⟩
  . rcases e with⟨p,W,D,k2,rfl,rfl⟩ | ⟨p,W,D,e⟩
    . exact⟨rfl,rfl⟩
    . have:=D.ce of J;rw[h2]at this;cases this
  . rcases e with⟨p,W,D,k2,rfl,rfl⟩ | ⟨p,W,D,e⟩
    . have:=J.ce of D;rw[k2]at this;cases this
    . have eg:=J.unique of D;subst eg;have S:=(J.ok of).1;rcases h with⟨cs,P,k,R,rfl,rfl⟩ | ⟨t,ht,h⟩
      . rcases e with⟨X,P',k',R',rfl,rfl⟩ | ⟨t',I,e⟩
        . exact⟨rfl,rfl⟩
        . exact(ET R I).elim
      . rcases e with⟨X,P',k',R',rfl,rfl⟩ | ⟨t',I,e⟩
        . exact(ET R' ht).elim
        . rcases h with⟨H,rfl,rfl⟩ | ⟨G,bs,ps,H,h⟩
          . rcases e with⟨d,rfl,rfl⟩ | ⟨F,Y,Q,d,e⟩
            . exact⟨rfl,rfl⟩
            . rw[H]at d;cases d
          . rcases e with⟨d,rfl,rfl⟩ | ⟨F,Y,Q,d,e⟩
            . rw[H]at d;cases d
            . rw[H]at d;cases d;rcases h with⟨lm,rfl,rfl⟩ | ⟨lm,h⟩
              . rcases e with⟨B,rfl,rfl⟩ | ⟨B,e⟩
                . exact⟨rfl,rfl⟩
                . omega
              . rcases e with⟨B,rfl,rfl⟩ | ⟨B,e⟩
                . omega
                . have Z:=kM S og H;have go:∀(bs:Ms OA),(∀b∈bs,bB c b)->∀(u:Nat)(C o:Ms Tr)(a y:ri)(s s':Nat),uF (sD c m ls n) G st E.tail bs u C a s->uF (sD c m ls n) G p E.tail bs u o y s'->a.wd=y.wd/\s=s':=by
                   intro bs
                   induction bs with
                   | nil=>rintro _ u C o a y s s' ⟨rfl,rfl⟩ ⟨rfl,rfl⟩;exact⟨rfl,rfl⟩
                   | cons b bs ih=>
                    intro hb u C o a y s s' q q';have r:=hb b ⋯;have U:∀x∈bs,bB c x:=fun x hx=>hb x (by simp[hx])
                    rcases q with⟨tr,m1,M,L⟩ | ⟨M,L⟩
                    . rcases q' with⟨O,T,j,i⟩ | ⟨j,i⟩
                      . obtain⟨_,rfl⟩:=cK n b _ u _ _ _ _ r og.tail M j;exact ih U _ _ _ _ _ _ _ L i
                      . obtain⟨z,_⟩:=cK n b _ u _ _ _ _ r og.tail M i;exact Ci z.symm j
                    . rcases q' with⟨O,T,j,i⟩ | ⟨j,i⟩
                      . obtain⟨z,_⟩:=cK n b _ u _ _ _ _ r og.tail L j;exact Ci z M
                      . exact cK n b _ u _ _ _ _ r og.tail L i
                  exact go bs Z _ _ _ _ _ _ _ h e
theorem wU{c m:Nat}{ls:Ms Ln}:∀(n:Nat)(f:OA)(p:Ms (Ms nC))(made:Nat)(a:ri)(s:Nat),sD c m ls n f p made a s->made<=s/\(made<=m->s<=m)/\(made<=m->a.wd=.opn->s=m)
 | 0,_,_,_,_,_,h=>h.elim
 | n+1,f,p,made,a,s,h=>by
  rcases h with⟨st,g,y,J,rfl,rfl⟩ | ⟨st,g,y,h⟩
  . exact⟨Ra _,id,fun _ z=>by cases z⟩
  . rcases h with⟨L,P,k,R,rfl,rfl⟩ | ⟨t,I,h⟩
    . exact⟨Ra _,id,fun _ z=>by cases z⟩
    . rcases h with⟨u,rfl,rfl⟩ | ⟨j,bs,G,u,h⟩
      . exact⟨Ra _,id,fun _ z=>by cases z⟩
      . rcases h with⟨x,rfl,rfl⟩ | ⟨x,h⟩
        . exact⟨Ra _,id,fun _ _=>by omega⟩
        . have go:∀(bs:Ms OA)(d:Nat)(e:Ms Tr)(a:ri)(s:Nat),uF (sD c m ls n) j st p.tail bs d e a s->d<=s/\(d<=m->s<=m)/\(d<=m->a.wd=.opn->s=m):=by
           intro bs
           induction bs with
           | nil=>rintro d e a s ⟨rfl,rfl⟩;refine⟨Ra _,id,fun _ z=>by cases z⟩
           | cons b bs ih=>
            intro d e a s q;rcases q with⟨F,H,r,o⟩ | ⟨r,o⟩
            . obtain⟨E,i,_⟩:=wU n b _ d _ _ r;obtain⟨M,C,B⟩:=ih _ _ _ _ o;exact⟨by omega,fun z=>C (i z),fun z=>B (i z)⟩
            . exact wU n b _ d _ _ o
          obtain⟨E,i,D⟩:=go bs _ _ _ _ h;exact⟨by omega,fun _=>i nofun,fun _=>D nofun⟩
mutual
noncomputable def Yo(lo:Nat)(h:HI):Tr->Dt->Prop
 | .Wu st,d=>∃s,d=.tup [.str "threes", .ref s]/\lo<=s/\h[s]?=ε (.lst (st.map gC))
 | .ring st cs P k,d=>∃s r,d=.tup [.str "ring", .ref s,.ref r]/\lo<=s/\lo<=r/\h[s]?=ε (.lst (st.map gC))/\h[r]?=ε (.lst (GC cs P k))
 | .one st bs,d=>∃s r ds,d=.tup [.str "one", .ref s,.ref r]/\lo<=s/\lo<=r/\h[s]?=ε (.lst (st.map gC))/\h[r]?=ε (.lst ds)/\Xo lo h bs ds
 | .split st p bs,d=>∃s r ds,d=.tup [.str "split", .ref s,.int (p.1:Nat),.int (p.2:Nat),.ref r]/\lo<=s/\lo<=r/\h[s]?=ε (.lst (st.map gC))/\h[r]?=ε (.lst ds)/\Xo lo h bs ds
noncomputable def Xo(lo:Nat)(h:HI):Ms Tr->Ms Dt->Prop
 | [],ds=>ds=[]
 | t::ts,ds=>∃d r,ds=d::r/\Yo lo h t d/\Xo lo h ts r
end
def MV(lo:Nat)(h h':HI):Prop:=∀(n:Nat)(a:Ms Dt),lo<=n->h[n]?=ε (.lst a)->h'[n]?=ε (.lst a)
mutual
theorem Yo.up{lo f:Nat}(m:f<=lo){h h':HI}(u:MV lo h h'):∀(t:Tr){d:Dt},Yo lo h t d->Yo f h' t d
 | .Wu st,d,q=>by simp![Yo]at q ⊢;obtain⟨s,e,l,q⟩:=q;exact⟨s,e,by omega,u _ _ l q⟩
 | .ring st cs P k,d,q=>by simp![Yo]at q ⊢;obtain⟨s,r,e,i,g,b,a⟩:=q;exact⟨s,r,e,by omega,by omega,u _ _ i b,u _ _ g a⟩
 | .one st bs,d,q=>by simp![Yo]at q ⊢;obtain⟨s,r,ds,e,i,g,b,a,j⟩:=q;exact⟨s,r,ds,e,by omega,by omega,u _ _ i b,u _ _ g a,Xo.up m u bs j⟩
 | .split st p bs,d,q=>by simp![Yo]at q ⊢;obtain⟨s,r,ds,e,i,g,b,a,j⟩:=q;exact⟨s,r,ds,e,by omega,by omega,u _ _ i b,u _ _ g a,Xo.up m u bs j⟩
theorem Xo.up{lo a:Nat}(f:a<=lo){h h':HI}(u:MV lo h h'):∀(b:Ms Tr){ds:Ms Dt},Xo lo h b ds->Xo a h' b ds
 | [],ds,q=>by simp![Xo]at q ⊢;exact q
 | t::b,ds,q=>by simp![Xo]at q ⊢;obtain⟨d,r,e,i,g⟩:=q;exact⟨d,r,e,Yo.up f u t i,Xo.up f u b g⟩
end
theorem Xo.snoc{lo:Nat}{h:HI}{t:Tr}{d:Dt}(a:Yo lo h t d):∀(b:Ms Tr){ds:Ms Dt},Xo lo h b ds->Xo lo h (b++[t]) (ds++[d])
 | [],ds,q=>by simp![Xo]at q;subst q;simp![Ui,Xo];exact⟨d,[],rfl,a,rfl⟩
 | t'::b,ds,q=>by simp![Xo]at q;obtain⟨g,r,rfl,f,e⟩:=q;simp![Ve,Xo];exact⟨g,r++[d],rfl,f,Xo.snoc a b e⟩
noncomputable def UP(c:Nat)(u:Nat->Int):Ms Dt:=(List.range c).map fun k=>.tup [.int (u (2*k)),.int (u (2*k+1))]
def ci(lo:Nat)(h:HI)(c:Nat):ri->Dt->Prop
 | .opn,d=>d=.tup [.str "open", .non]
 | .laid t,d=>d=.tup [.str "laid", .lst (UP c (nE (2*c) t))]
 | .clash tr,d=>∃x,d=.tup [.str "clash",x]/\Yo lo h tr x
theorem ci.up{lo b:Nat}(g:b<=lo){h h':HI}(u:MV lo h h'){c:Nat}{a:ri}{d:Dt}(q:ci lo h c a d):ci b h' c a d:=by
 cases a with
 | opn=>exact q
 | laid t=>exact q
 | clash f=>obtain⟨x,e,q⟩:=q;exact⟨x,e,Yo.up g u f q⟩
theorem Pq{c:Nat}(q:c<=100)(u:Nat->Int)(h:HI):YN [.lst (TB (2*c) u)] h=ε (.lst (UP c u),h):=by
 have m:K5 2 (.int 0) (.int ((2*c:Nat):Int),h)=ε (.vals ((List.range c).map fun(k:Nat)=>Dt.int (0+(k:Int)*(2:Nat))),h):=by
  have o:((((2*c:Nat):Int)-0+((2:Nat):Int)-1)/((2:Nat):Int)).toNat=c:=by omega
  have p:(0:Int)<=0/\(0:Int)<2^61/\0<=((2*c:Nat):Int)/\((2*c:Nat):Int)<2^61/\0<2/\2<1000:=by omega
  simp![K5,dh p,o]
 have n:=aH (te:=KN) (tc:=uB) (i:=0) (fun(k:Nat)=>Dt.int (0+(k:Int)*(2:Nat))) (fun k=>Dt.tup [.int (u (2*k)),.int (u (2*k+1))]) h (List.range c) [none,ε (.lst (TB (2*c) u))] (by
  intro k a;have a:=Ai.mp a;refine⟨by simp,?_⟩;have j:(0:Int)+(k:Int)*((2:Nat):Int)=((2*k:Nat):Int):=by omega
  have g:((2*k:Nat):Int)+1=((2*k+1:Nat):Int):=by omega
  have f:=YO u (show 2*k<2*c by omega);have e:=YO u (show 2*k+1<2*c by omega);rw[j];simp![KN,yE,EA,zA,wA,uA,gA,Ua,Qa,Qo,iA,fA,eF,g,vI,SM.lD,f,e,Ro];rfl)
 have b:=PF (l:=[none,ε (.lst (TB (2*c) u))]) (h:=h) (CA 0) uB KN (xs:=(List.range c).map fun(k:Nat)=>Dt.int (0+(k:Int)*(2:Nat))) (by simp[sizeLine];omega);rw[n]at b;have d:=mT (2*c) u;dsimp![YN,nR,Qs,Uu,Ri,qB,cH,Hj,uA,dC,QU,d,m,rF,gJ,oF,Ks,b,wB];rfl
def gz(h:HI)(d:Dt)(P:Ms (Nat×Nat)):Prop:=d=.lst (P.map xA)\/∃n,d=.ref n/\h[n]?=ε (.lst (P.map xA))
theorem gz.seq{h:HI}{d:Dt}{P:Ms (Nat×Nat)}(q:gz h d P)(e:HI):QD (h++e) d=ε (P.map xA):=by
 rcases q with rfl | ⟨n,rfl,q⟩
 . rfl
 . have:=(Up.app h e).get q;simp![QD,HA,this]
def ae (h:HI) (o:Nat) (ls:Ms Ln) (m made:Nat):Prop:=h[o]?=ε (.ins "Search" [("lengths", .lst (ls.map oB)),("most", .int (m:Nat)),("made", .int (made:Nat))])
theorem ae.up{h h':HI}(u:Up h h'){o m made:Nat}{ls:Ms Ln}(s:ae h o ls m made):ae h' o ls m made:=u.get s
theorem xZ{m:Nat}(a:m<8192)(h:m≠0):eB m ≠ []:=by
 intro e;apply h;refine dM a (by decide) fun k b=>?_
 cases z:m.testBit k with
 | false=>simp
 | true=>have:k∈eB m:=bj.mpr ⟨b,z⟩;rw[e]at this;cases this
theorem Tg{c:Nat}{g:OA}(o:bB c g)(ne:yB c g=false):∀i j,i<c->j<c->eB (g i j) ≠ []:=fun i j b a=>xZ (o.lt i b j a) (ce ne b a)
theorem ZY{c:Nat}{p:Nat×Nat}(h:p∈KA c):p.1<p.2/\p.2<c:=by unfold KA mD at h;obtain⟨i,b,h⟩:=Li.mp h;obtain⟨k,a,rfl⟩:=Ae.mp h;have:=Ai.mp b;have:=Ai.mp a;exact⟨by show i<i+1+k;omega,by show i+1+k<c;omega⟩
theorem A1{p q:Nat}{a b d:Int}{e:Bd}(h:e∈ZH p q a b d):(e.1=p/\e.2.1=q)\/(e.1=q/\e.2.1=p):=by
 unfold ZH at h;rcases Aa.mp h with h | h
 . split at h
   . rw[zc.mp h];exact .inl ⟨rfl,rfl⟩
   . exact nomatch h
 . split at h
   . rw[zc.mp h];exact .inr ⟨rfl,rfl⟩
   . exact nomatch h
theorem sZ{i j side m:Nat}{e:Bd}(h:e∈TF i j side m):∃z:Nat,z<2/\((e.1=2*i+side/\e.2.1=2*j+z)\/(e.1=2*j+z/\e.2.1=2*i+side)):=by
 unfold TF at h;rcases Aa.mp h with h | h
 . exact⟨0,by omega,A1 h⟩
 . exact⟨1,by omega,A1 h⟩
theorem eU{c:Nat}(N:Nat->Nat->Nat){ls:Ms Ln}(h:∀x∈ls,x.1<c):∀e∈KC c N ls,e.1<2*c/\e.2.1<2*c/\e.1≠e.2.1:=by
 intro e he;unfold KC at he;rcases Aa.mp he with he | he
 . rcases Aa.mp he with he | he
   . obtain⟨i,j,rfl⟩:=Ae.mp he;have:=Ai.mp j;refine⟨?_,?_,?_⟩<;>simp only<;>omega
   . obtain⟨x,f,he⟩:=Li.mp he;have:=h x f;unfold VC at he;simp![zu,not_mem_nil,or_false]at he;rcases he with rfl | rfl
     . refine⟨?_,?_,?_⟩<;>simp only<;>omega
     . refine⟨?_,?_,?_⟩<;>simp only<;>omega
 . obtain⟨p,g,he⟩:=Li.mp he;obtain⟨m,k⟩:=ZY g;unfold DC at he;rcases Aa.mp he with he | he
   . obtain⟨z,d,⟨a,b⟩ | ⟨a,b⟩⟩:=sZ he
     . rw[a,b];omega
     . rw[a,b];omega
   . obtain⟨z,d,⟨a,b⟩ | ⟨a,b⟩⟩:=sZ he
     . rw[a,b];omega
     . rw[a,b];omega
theorem uT{a b:Type}(f:a->Ms b)(n:Nat):∀(xs:Ms a)(_:∀x∈xs,(f x).length<=n),(xs.flatMap f).length<=n*xs.length
 | [],_=>by simp
 | x::xs,h=>by have:=uT f n xs (fun y d=>h y (by simp[d]));have:=h x ⋯;rw[flatMap_cons,g8,Qu,Nat.mul_succ];omega
theorem ZT{c:Nat}(a:c<=8)(N:Nat->Nat->Nat){ls:Ms Ln}(b:ls.length<=100):(KC c N ls).length<=1000:=by
 unfold KC;rw[g8,g8];have i:(eD c).length=c:=by simp[eD]
 have h:=uT (VC (2*c+1)) 2 ls (fun x _=>Ra _);have g:=uT (fun p:Nat×Nat=>DC p.1 (N p.1 p.2) p.2) 8 (KA c) (fun x _=>by
  unfold DC;rw[g8];have:=aJ x.1 x.2 0 (N x.1 x.2);have:=aJ x.1 x.2 1 (N x.1 x.2);omega)
 have f:=XJ c c;have d:c*c<=8*8:=Ii a a;have e:(KA c).length<=64:=by unfold KA;omega
 omega
theorem W1{h h':HI}(f:∀m,m<h.length->h'[m]?=h[m]?):Up h h':=by refine⟨?_,f⟩;apply Classical.byContradiction;intro n;have e:=f h'.length nofun;rw[jj (Ra _),iu nofun]at e;cases e
theorem Jr{h:HI}{ds:Ms Dt}{b:Ms (Ms nC)}(q:ad h ds b):ad h (ds.drop 1) b.tail:=by
 cases q with
 | nil=>exact .nil
 | cons a r=>exact r
theorem i8 {x y z:Dt}:JD "lengths" [("lengths",x),("most",y),("made",z)]=ε x:=by rfl
theorem P7 {x y z:Dt}:JD "most" [("lengths",x),("most",y),("made",z)]=ε y:=by
 have:¬((("most" :Str))=(("lengths" :Str))):=by decide +kernel
 simp![JD,dG this,eG]
theorem B0 {x y z:Dt}:JD "made" [("lengths",x),("most",y),("made",z)]=ε z:=by
 have b:¬((("made" :Str))=(("lengths" :Str))):=by decide +kernel
 have a:¬((("made" :Str))=(("most" :Str))):=by decide +kernel
 simp![JD,dG b,dG a,eG]
theorem DZ {x y z:Dt}:JD "look" [("lengths",x),("most",y),("made",z)]=none:=by
 have d:¬((("look" :Str))=(("lengths" :Str))):=by decide +kernel
 have b:¬((("look" :Str))=(("most" :Str))):=by decide +kernel
 have a:¬((("look" :Str))=(("made" :Str))):=by decide +kernel
 simp![JD,dG d,dG b,dG a]
theorem Q7 {x y z:Dt}:JD "look_at_branches" [("lengths",x),("most",y),("made",z)]=none:=by
 have d:¬((("look_at_branches" :Str))=(("lengths" :Str))):=by decide +kernel
 have b:¬((("look_at_branches" :Str))=(("most" :Str))):=by decide +kernel
 have a:¬((("look_at_branches" :Str))=(("made" :Str))):=by decide +kernel
 simp![JD,dG d,dG b,dG a]
theorem B7 {x y z v:Dt}:jF "made" v [("lengths",x),("most",y),("made",z)]=([("lengths",x),("most",y),("made",v)]:Ms (Str×Dt)):=by
 have b:¬((("lengths" :Str))=(("made" :Str))):=by decide +kernel
 have a:¬((("most" :Str))=(("made" :Str))):=by decide +kernel
 simp![jF,dG b,dG a,eG]
theorem Dp:decide ((("open" :Str))=(("clash" :Str)))=false:=by decide +kernel
theorem w5:decide ((("laid" :Str))=(("clash" :Str)))=false:=by decide +kernel
theorem Yp:decide ((("times" :Str))=(("ring" :Str)))=false:=by decide +kernel
def Uh(c m:Nat)(ls:Ms Ln)(n:Nat)(f:OA)(e:Ms (Ms nC))(made o:Nat)(h:HI)(r:Ni (Dt×HI)):Prop:=
 ∃d b a s,r=ε (d,b)/\sD c m ls n f e made a s/\ci h.length b c a d/\qo h b/\ae b o ls m s
structure N8(c m:Nat)(ls:List Ln)(n:Nat)(f:OA)(gs:List (List nC))(gds:List Dt)(made b o:Nat)(pd:Dt)(P:List (Nat×Nat))(h:HI):Prop where
 ex:∃a s,sD c m ls n f gs made a s
 of:bB c f
 og:ai c gs
 sg:∀x∈gs,x.length<=1000
 net:Te h b c f
 grp:ad h gds gs
 prs:gz h pd P
 pc:∀p∈P,p.1<c/\p.2<c/\p.1≠p.2
 wt:HD c f P []
 lp:P.length<=1000
 ob:ae h o ls m made
def WU(c m:Nat)(ls:Ms Ln)(n:Nat):Prop:=∀(f:OA)(e:Ms (Ms nC))(a:Ms Dt)(made b o:Nat)(d:Dt)(P:Ms (Nat×Nat))(h:HI),N8 c m ls n f e a made b o d P h->Uh c m ls n f e made o h (sE n [.ref o,.ref (b+c),d,.lst a] h)
theorem D9(tag:Ni (Nat×Nat))(a:Ms Dt)(b:Ms (Nat×Nat))(k:HI):rA (EC tag a b) (.int 2) k=ε (.lst a,k):=by cases tag<;>rfl
theorem E9(tag:Ni (Nat×Nat))(a:Ms Dt)(b:Ms (Nat×Nat))(k:HI):rA (EC tag a b) (.int 3) k=ε (.lst (b.map xA),k):=by cases tag<;>rfl
theorem Rk{c m n:Nat}{ls:Ms Ln}(IH:WU c m ls n){tag:Ni (Nat×Nat)}{st st0:Ms (Nat×Nat×Nat)}{G:Ms (Ms nC)}{gds:Ms Dt}{B:Ms (Nat×Nat)}{bo:Ms Dt}{hB:HI}{o sr:Nat}(og:ai c G)(sg:∀x∈G,x.length<=1000)(G0:ad hB gds G)(pc:∀p∈B,p.1<c/\p.2<c/\p.1≠p.2)(lp:B.length<=1000) :
 ∀(bs:Ms OA)(Q:Ms Dt)(made:Nat)(u H:Ms Tr)(j:Ms Dt)(h:HI)(y5 X:Ni Dt)(a0:ri)(s0:Nat),uF (sD c m ls n) tag st0 G bs made H a0 s0->(∀b∈bs,bB c b)->(∀b∈bs,HD c b B [])->Zu (be hB c) bs Q->qo hB h->h[hB.length]?=ε (.lst j)->Xo (hB.length+1) h u j->j.length+bs.length<=5000->ae h o ls m made->
  ∃r,kC (CA 5) (OI (sE n)) Q [ε (.ref o),ε (EC tag bo B),ε (.ref sr),ε (.lst gds),ε (.ref hB.length),y5,X] h=ε r/\
   ((∃a3 a2 D E J M,r=.nx [ε (.ref o),ε (EC tag bo B),ε (.ref sr),ε (.lst gds),ε (.ref hB.length),a3,a2] D/\qo hB D/\D[hB.length]?=ε (.lst J)/\Xo (hB.length+1) D E J/\ae D o ls m M/\uF (sD c m ls n) tag st G bs made u (.clash (xQ tag st E)) M)\/
    (∃d D a M,r=.rt d D/\qo hB D/\ci (hB.length+1) D c a d/\ae D o ls m M/\a.wd≠.clash/\uF (sD c m ls n) tag st G bs made u a M)):=by
 intro bs
 induction bs with
 | nil=>intro Q made u H j h y5 X a0 s0 q _ _ A U hb T _ O;cases A;exact⟨_,rfl,.inl ⟨y5,X,h,u,j,made,rfl,U,hb,T,O,rfl,rfl⟩⟩
 | cons b bs ih=>
  intro Q made u H j h y5 X a0 s0 q P a4 A U hb T sz O;cases A with
  | @cons _ nd _ I a5 A=>
  have a6:hB.length+1<=h.length:=(Uo hb).1;obtain⟨W,rfl,N1⟩:=a5;have a8:∃a s,sD c m ls n b G made a s:=by
   rcases q with⟨tr,m1,q1,_⟩ | ⟨_,q2⟩
   . exact⟨_,_,q1⟩
   . exact⟨_,_,q2⟩
  obtain⟨d,C,a,s,e,L,AN,U1,O1⟩:=IH b G gds made W o (.lst (B.map xA)) B h ⟨a8,P b ⋯,og,sg,U.net N1,G0.up U,.inl rfl,pc,a4 b ⋯,lp,O⟩;have mt:=aT (x := "Search") (m := "look") (F:=sE n) (ga:=bA (eV 5) (bA (e2 rA (eV 1) (ro 3)) (bA (eV 3) eA))) (l:=[ε (.ref o),ε (EC tag bo B),ε (.ref sr),ε (.lst gds),ε (.ref hB.length),ε (.ref (W+c)),X]) O DZ;have ev:tJ "Search" "look" (sE n) (eV 0) (bA (eV 5) (bA (e2 rA (eV 1) (ro 3)) (bA (eV 3) eA))) [ε (.ref o),ε (EC tag bo B),ε (.ref sr),ε (.lst gds),ε (.ref hB.length),ε (.ref (W+c)),X] h=ε (d,C):=by simp![fV,gA,Qa,iA,fA,mt,EA,zA,wA,uA,Qo,E9,e]
  have tt:∀w y v,d=.tup [.str w,y]->decide (w = "clash")=v->qh (e2 QC (e2 rA (eV 6) (ro 0)) (eC (.str "clash"))) [ε (.ref o),ε (EC tag bo B),ε (.ref sr),ε (.lst gds),ε (.ref hB.length),ε (.ref (W+c)),ε d] C=ε (!v,C):=by rintro w y v rfl rfl;simp![NA,wA,gA,uA,Qa,Qo,iA,fA,bC,FC,Ro,B3,VA]
  have rt:∀w y,d=.tup [.str w,y]->decide (w = "clash")=false->kC (CA 5) (OI (sE n)) (.ref (W+c)::I) [ε (.ref o),ε (EC tag bo B),ε (.ref sr),ε (.lst gds),ε (.ref hB.length),y5,X] h=ε (.rt d C):=fun w y dd q=>congrArg (fun z=>Option.bind z (dN (kC (CA 5) (OI (sE n)) I))) (show OI _ _ _=ε (.rt d C)from Eq.trans (zE (i:=6) ev rfl) (P0 (f:=eV 6) (tt w y _ dd q) rfl))
  cases a with
  | opn=>exact⟨.rt d C,rt _ _ AN Dp,.inr ⟨d,C,.opn,s,rfl,U.trans U1,AN,O1,(fun z=>by cases z),.inr ⟨(fun z=>by cases z),L⟩⟩⟩
  | laid t=>exact⟨.rt d C,rt _ _ AN w5,.inr ⟨d,C,.laid t,s,rfl,U.trans U1,AN,O1,(fun z=>by cases z),.inr ⟨(fun z=>by cases z),L⟩⟩⟩
  | clash tr=>
   obtain⟨x,rfl,TA⟩:=AN;have S:=U1.2 _ _ hb;obtain⟨h2,R⟩:∃h2:HI,h2=C.set hB.length (.lst (j++[x])):=⟨_,rfl⟩
   have l1:hB.length<C.length:=(Uo S).1;have g2:∀k,k≠hB.length->h2[k]?=C[k]?:=fun k Y=>by rw[R,ju (m5 Y)]
   have U2:qo hB h2:=⟨by rw[R,Ju];exact n7 U.1 U1.1,fun k xs Y=>by
    have kl:=(Uo Y).1;rw[g2 k nofun];exact U1.2 _ _ (U.2 _ _ Y)⟩
   have F2:MV (hB.length+1) C h2:=fun k xs Y hx=>by rw[g2 k nofun];exact hx
   have a7:h2[hB.length]?=ε (.lst (j++[x])):=by rw[R,ou l1]
   have O2:ae h2 o ls m s:=by
    have:o≠hB.length:=by intro z;unfold ae at O1;rw[z,S]at O1;cases O1
    unfold ae;rw[g2 o this];exact O1
   have T2:Xo (hB.length+1) h2 (u++[tr]) (j++[x]):=Xo.snoc (Yo.up a6 (fun k xs Y hx=>F2 k xs nofun hx) tr TA) u (Xo.up (Ra _) (fun k xs Y hx=>F2 k xs Y (U1.2 _ _ hx)) u T);have ap:=qF (l:=[ε (.ref o),ε (EC tag bo B),ε (.ref sr),ε (.lst gds),ε (.ref hB.length),ε (.ref (W+c)),ε (.tup [.str "clash",x])]) (h:=C) (g:=e2 rA (eV 6) (ro 1)) (d:=x) S ⋯ S (by simp at sz;simp[sizeLine];omega);rw[<- R]at ap;obtain⟨a1,s1,Z,q3⟩:∃a1 s1 Z,uF (sD c m ls n) tag st0 G bs s Z a1 s1:=by
    rcases q with⟨a9,m1,q1,q2⟩ | ⟨q1,q2⟩
    . obtain⟨_,z⟩:=cK n b G made _ _ _ _ (P b ⋯) og q1 L;subst z;exact⟨_,_,_,q2⟩
    . obtain⟨z,_⟩:=cK n b G made _ _ _ _ (P b ⋯) og q2 L;exact Ci z q1
   obtain⟨r,e3,er⟩:=ih I s (u++[tr]) Z (j++[x]) h2 (ε (.ref (W+c))) (ε (.tup [.str "clash",x])) a1 s1 q3 (fun y hy=>P y (by simp[hy])) (fun y hy=>a4 y (by simp[hy])) A U2 a7 T2 (by simp at sz ⊢;omega) O2;refine⟨r,?_,?_⟩
   . have s6:OI (sE n) [ε (.ref o),ε (EC tag bo B),ε (.ref sr),ε (.lst gds),ε (.ref hB.length),ε (.ref (W+c)),X] h=ε (.nx [ε (.ref o),ε (EC tag bo B),ε (.ref sr),ε (.lst gds),ε (.ref hB.length),ε (.ref (W+c)),ε (.tup [.str "clash",x])] h2):=
      Eq.trans (zE (i:=6) ev rfl) (Eq.trans (dE (tt _ _ _ rfl (decide_true _))) (by simp![Us,Ua,cE,ZE,gA,Qa,Qo,iA,fA,ap]))
     exact Eq.trans (congrArg (fun z=>Option.bind z (dN (kC (CA 5) (OI (sE n)) I))) s6) e3
   . rcases er with⟨a3,a2,D,E,J,M,z1,z2,z3,z4,z5,z6⟩ | ⟨d,D,a,M,z1,z2,z3,z4,z5,z6⟩
     . exact .inl ⟨a3,a2,D,E,J,M,z1,z2,z3,z4,z5,.inl ⟨tr,s,L,z6⟩⟩
     . exact .inr ⟨d,D,a,M,z1,z2,z3,z4,z5,.inl ⟨tr,s,L,z6⟩⟩
theorem Fl:1<=sizeLine:=by decide
theorem fN:2<=sizeLine:=by decide
theorem V5:3<=sizeLine:=by decide
theorem S8{c m n:Nat}{ls:Ms Ln}(IH:WU c m ls n){tag:Ni (Nat×Nat)}{st st0:Ms (Nat×Nat×Nat)}{u:Ms (Ms nC)}{gds:Ms Dt}{h:Ms (Nat×Nat)}{bs:Ms OA}{f:Ms Dt}{hB:HI}{o sr lo made:Nat}{R:ri}{s0:Nat}(og:ai c u)(sg:∀x∈u,x.length<=1000)(G0:ad hB gds u)(pc:∀p∈h,p.1<c/\p.2<c/\p.1≠p.2)(lp:h.length<=1000)
 (q:uF (sD c m ls n) tag st0 u bs made [] R s0) (H:∀b∈bs,bB c b) (F:∀b∈bs,HD c b h []) (A:Zu (be hB c) bs f) (lb:bs.length<=4000) (O:ae hB o ls m made) (hs:hB[sr]?=ε (.lst (st.map gC))) (P:lo<=sr) (M:lo<=hB.length) :
 ∃d g a s,bI (sE n) [.ref o,EC tag f h,.ref sr,.lst gds] hB=ε (d,g)/\uF (sD c m ls n) tag st u bs made [] a s/\ci lo g c a d/\qo hB g/\ae g o ls m s:=by
 have U0:qo hB (hB++[.lst []]):=qo.app _ _;obtain⟨r,e,er⟩:=Rk IH (tag:=tag) (st:=st) (st0:=st0) (bo:=f) (sr:=sr) og sg G0 pc lp bs f made [] [] [] (hB++[.lst []]) none none R s0 q H F A U0 ⋯ (by simp![Xo]) (by simp;omega) (ae.up (Up.app hB [.lst []]) O);have G:=fun k=>D9 tag f h k
 rcases er with⟨y5,y6,g,i,gS,s,rfl,U,Q,T,C,B⟩ | ⟨d,g,a,s,rfl,U,AN,C,na,B⟩
 . have j:=U.2 _ _ hs;have S:Xo lo g i gS:=Xo.up nofun (fun k W Z I=>I) i T;cases tag with
   | none=>
    refine⟨.tup [.str "clash", .tup [.str "one", .ref sr,.ref hB.length]],g,_,s,?_,B,⟨_,rfl,?_⟩,U,C⟩
    . have L:∀k:HI,xJ (.tup [.str "one", .ref sr]) (.tup []) k=ε (.tup [.str "one", .ref sr],k):=fun _=>rfl
      have J:∀k:HI,xJ (.tup [.str "one", .ref sr]) (.tup [.ref hB.length]) k=ε (.tup [.str "one", .ref sr,.ref hB.length],k):=fun _=>rfl
      have X:∀x y:Dt,[x,y].length<=sizeLine:=fun _ _=>by simp[sizeLine]
      have Y:∀x:Dt,[x].length<=sizeLine:=fun _=>by simp[sizeLine]
      have E:∀k:HI,rA (EC none f h) (.int 0) k=ε (.str "one",k):=fun _=>rfl
      have D:∀k:HI,rA (EC none f h) (.int 1) k=ε (.tup [],k):=fun _=>rfl
      dsimp![bI,lL,Qs,Uu,Ve,Ui,XA,GB,KH,zA,mq,Us,Ua,fB,WD,rD,wA,uA,Qo,G,WG,ZF,e,qB,yE,EA,E,D,Fl,fN,L,J,wB]
    . show Yo lo g (.one st i) _;simp![Yo];exact⟨sr,hB.length,gS,rfl,P,M,j,Q,S⟩
   | some p=>
    refine⟨.tup [.str "clash", .tup [.str "split", .ref sr,.int (p.1:Nat),.int (p.2:Nat),.ref hB.length]],g,_,s,?_,B,⟨_,rfl,?_⟩,U,C⟩
    . have L:∀k:HI,xJ (.tup [.str "split", .ref sr]) (xA p) k=ε (.tup [.str "split", .ref sr,.int (p.1:Nat),.int (p.2:Nat)],k):=fun _=>rfl
      have J:∀k:HI,xJ (.tup [.str "split", .ref sr,.int (p.1:Nat),.int (p.2:Nat)]) (.tup [.ref hB.length]) k=ε (.tup [.str "split", .ref sr,.int (p.1:Nat),.int (p.2:Nat),.ref hB.length],k):=fun _=>rfl
      have X:∀x y:Dt,[x,y].length<=sizeLine:=fun _ _=>by simp[sizeLine]
      have Y:∀x:Dt,[x].length<=sizeLine:=fun _=>by simp[sizeLine]
      have E:∀k:HI,rA (EC (ε p) f h) (.int 0) k=ε (.str "split",k):=fun _=>rfl
      have D:∀k:HI,rA (EC (ε p) f h) (.int 1) k=ε (xA p,k):=fun _=>rfl
      dsimp![bI,lL,Qs,Uu,Ve,Ui,XA,GB,KH,zA,mq,Us,Ua,fB,WD,rD,wA,uA,Qo,G,WG,ZF,e,qB,yE,EA,E,D,Fl,fN,L,J,wB]
    . show Yo lo g (.split st p i) _;simp![Yo];exact⟨sr,hB.length,gS,rfl,P,M,j,Q,S⟩
 . refine⟨d,g,a,s,?_,B,AN.up nofun (fun k W Z I=>I),U,C⟩;dsimp![bI,lL,Qs,Uu,Ve,Ui,XA,GB,KH,zA,mq,Us,Ua,fB,WD,rD,wA,uA,Qo,G,WG,ZF,e,RF,wB]
theorem Bt{c:Nat}{g:OA}(o:bB c g)(q:aF c g){e:Ms (Ms nC)}(ok:ai c e)(sg:∀x∈e,x.length<=1000){tag:Ni (Nat×Nat)}{bs:Ms OA}{f:Ms (Nat×Nat)}(h:XD c g e=ε (tag,bs,f)):(∀p∈f,p.1<c/\p.2<c/\p.1≠p.2)/\f.length<=1000/\(∀b∈bs,HD c b f [])/\bs.length<=1000:=by
 cases e with
 | cons grp e=>
  simp![XD,Es,su]at h;obtain⟨_,rfl,rfl⟩:=h;have n:=ok grp ⋯;refine⟨fun p j=>?_,by simp;exact sg grp ⋯,fun b m=>?_,by simp;exact sg grp ⋯⟩
  . obtain⟨x,i,rfl⟩:=Ae.mp j;obtain⟨a,b,d,_⟩:=n x i;exact⟨a,b,d⟩
  . obtain⟨k,_,rfl⟩:=Ae.mp m;have:=aX (k:=k) grp n g 0 [] o (zW q);rw[Ui]at this;exact this
 | nil=>
  simp![XD]at h;cases lp:FH c g with
  | none=>rw[lp]at h;cases h
  | some p=>
   rw[lp]at h;simp![Es,su]at h;obtain⟨_,rfl,rfl⟩:=h;have j:p∈KA c:=za lp;obtain⟨s,r⟩:=cb.mp j;refine⟨fun x i=>?_,by simp,fun b m=>?_,by have:=NL (g p.1 p.2);simp;omega⟩
   . rw[zc.mp i];omega
   . obtain⟨w,_,rfl⟩:=Ae.mp m;have:=nY o (show p.1<c by omega) (show p.2<c by omega) nofun (2^w) (zW q);rw[Ui]at this;exact this
theorem Lx(n:Nat):sE (n+1)=UB 4 9 (OJ (sE n)):=rfl
noncomputable def qG(o:Nat)(n p g:Dt)(a b c d e:Ni Dt):LI:=[ε (.ref o),ε n,ε p,ε g,a,b,c,d,e]
section
variable{o:Nat}{n p g:Dt}{a b c d e:Ni Dt}
theorem A5:(qG o n p g a b c d e)[0]?=ε (ε (.ref o)):=rfl
theorem Yl:(qG o n p g a b c d e)[1]?=ε (ε n):=rfl
theorem vp:(qG o n p g a b c d e)[2]?=ε (ε p):=rfl
theorem Vm:(qG o n p g a b c d e)[3]?=ε (ε g):=rfl
theorem Wm:(qG o n p g a b c d e)[5]?=ε b:=rfl
theorem yp:(qG o n p g a b c d e)[6]?=ε c:=rfl
theorem Xm:(qG o n p g a b c d e)[7]?=ε d:=rfl
theorem Bp:(qG o n p g a b c d e)[8]?=ε e:=rfl
end
theorem Yd{c m:Nat}{ls:Ms Ln}(b5:1<=c)(hc:c<=8)(hl:ls.length<=100)(a3:∀x∈ls,x.1<c):∀n,WU c m ls n:=by
 intro n
 induction n with
 | zero=>intro f gs gds made b o pd P h K;obtain⟨a,s,q⟩:=K.ex;exact q.elim
 | succ n IH=>
  intro f gs gds made b o pd P h K;obtain⟨a0,s0,q0⟩:=K.ex;obtain⟨d,h1,e1,x,sr,st,g,rfl,r1,r2,r3,r4,r5,r6,r7⟩:=iR (show c<=100 by omega) K.of K.net (pd:=pd) (P:=P) (fun e=>K.prs.seq e) K.pc K.wt (by have:=K.lp;omega);have Y:Up h h1:=⟨r2,r3⟩;have ef:sE (n+1) [.ref o,.ref (b+c),pd,.lst gds] h=uD (OJ (sE n) (qG o (.ref (b+c)) pd (.lst gds) none none none none none) h):=by rw[Lx,pB];rfl
  have s1:qA SI [] (bA (eV 1) (bA (eV 2) eA)) (qG o (.ref (b+c)) pd (.lst gds) none none none none none) h=ε (.tup [x,.ref sr],h1):=by simp![MA,EA,zA,gA,Yl,vp,iA,fA,Ri,e1]
  generalize u:sE (n+1) [.ref o,.ref (b+c),pd,.lst gds] h=X;rw[ef,OJ,zE s1 (l':=qG o (.ref (b+c)) pd (.lst gds) (ε (.tup [x,.ref sr])) none none none none) rfl,zE (d:=x) (h1:=h1) rfl (l':=qG o (.ref (b+c)) pd (.lst gds) (ε (.tup [x,.ref sr])) (ε x) none none none) rfl,zE (d:=.ref sr) (h1:=h1) rfl (l':=qG o (.ref (b+c)) pd (.lst gds) (ε (.tup [x,.ref sr])) (ε x) (ε (.ref sr)) none none) rfl]at u;have O1:ae h1 o ls m made:=K.ob.up Y;rcases r7 with⟨rfl,em⟩ | ⟨p,rfl,bl,Ng,cl,ne,_⟩
  . refine⟨.tup [.str "clash", .tup [.str "threes", .ref sr]],h1,.clash (.Wu st),made,?_,.inl ⟨st,g,r5,em,rfl,rfl⟩,⟨_,rfl,?_⟩,Y.l,O1⟩
    . rw[oE (h1:=h1) rfl (d:=.tup [.str "clash", .tup [.str "threes", .ref sr]]) (h2:=h1) rfl]at u;exact u.symm
    . show Yo h.length h1 (.Wu st) _;simp![Yo];exact⟨sr,rfl,r1,r4⟩
  . have O:bm c f st (tD c g):=⟨g,r5,cl,ne,rfl⟩;obtain⟨D,a1,neg⟩:=O.ok K.of;have L:=OY Ng;generalize tD c g=g' at O D a1 neg L;obtain⟨rest,eb⟩:=oX (show c<=100 by omega) (Tg D neg) (show ls.length<=1000 by omega) L;obtain⟨h2,S⟩:∃h2:HI,h2=h1++.lst ((KC c g' ls).map nA)::rest:=⟨_,rfl⟩
    rw[<- S]at eb;have M:Up h1 h2:=S ▸ Up.app _ _;have a6:h2[h1.length]?=ε (.lst ((KC c g' ls).map nA)):=by rw[S];simp
    have O2:=O1.up M;have nl:=L.len;have u1:=fun(h:HI)=>SF (h:=h) (i:=2) (j:=(c:Int)) (Or.inl ⟨by decide,by decide⟩)
    have g2:(2:Int)*(c:Int)=((2*c:Nat):Int):=by omega
    have a7:=SO (x := "Search") (k := "lengths") O1 (i8);have s4:∀(d:Dt) (h3:HI),aG [.int ((2*c:Nat):Int),.ref h1.length] h2=ε (d,h3)->qA aG [] (bA (e2 JC (ro 2) (YB QB (eV 5))) (bA (qA jI [] (bA (eV 5) (bA (tG "Search" "lengths" (eV 0)) eA))) eA)) (qG o (.ref (b+c)) pd (.lst gds) (ε (.tup [.ref (p+c),.ref sr])) (ε (.ref (p+c))) (ε (.ref sr)) none none) h1=ε (d,h3):=fun d h3 e=>by simp![MA,EA,zA,wA,dC,gA,uA,A5,Wm,iA,fA,nl,u1,g2,ZP,a7,eb,Ri,e]
    rw[dE (h1:=h1) rfl]at u;rcases tY (n:=2*c) (a:=h1.length) nofun nofun (KC c g' ls) (eU g' a3) (ZT hc g' hl) h2 a6 with⟨t,h3,H,fr,et⟩ | ⟨cs,PP,k,r,h3,R,fr,hr,et,rl⟩
    . have J:Up h2 h3:=W1 fr;have O3:=O2.up J;obtain⟨h4,U4,W⟩:=jX ((M.trans J).net L) D (show c<=100 by omega) (K.grp.up (Y.trans (M.trans J)).l) K.og K.sg;have U:=O3.up U4;rw[zE (s4 _ _ et) (l':=qG o (.ref (b+c)) pd (.lst gds) (ε (.tup [.ref (p+c),.ref sr])) (ε (.ref (p+c))) (ε (.ref sr)) (ε (.tup [.str "times", .lst (TB (2*c) (nE (2*c) t))])) none) rfl]at u;have s5:qh (e2 RB (e2 rA (eV 7) (ro 0)) (eC (.str "ring"))) (qG o (.ref (b+c)) pd (.lst gds) (ε (.tup [.ref (p+c),.ref sr])) (ε (.ref (p+c))) (ε (.ref sr)) (ε (.tup [.str "times", .lst (TB (2*c) (nE (2*c) t))])) none) h3=ε (false,h3):=by simp![NA,wA,gA,uA,Xm,iA,fA,bC,FC,Qa,Ro,JG,Yp,VA]
      have s6:∀y,OF [.ref (p+c),.lst gds] h3=ε (y,h4)->qA OF [] (bA (eV 5) (bA (eV 3) eA)) (qG o (.ref (b+c)) pd (.lst gds) (ε (.tup [.ref (p+c),.ref sr])) (ε (.ref (p+c))) (ε (.ref sr)) (ε (.tup [.str "times", .lst (TB (2*c) (nE (2*c) t))])) none) h3=ε (y,h4):=fun y e=>by simp![MA,EA,zA,gA,Wm,Vm,iA,fA,Ri,e]
      rw[dE s5]at u;have T:Up h h4:=Y.trans (M.trans (J.trans U4));cases G:XD c g' gs with
      | none=>rw[G]at W;have a9:=Pq (c:=c) nofun (nE (2*c) t) h4;refine⟨.tup [.str "laid", .lst (UP c (nE (2*c) t))],h4,.laid t,made,?_,.inr ⟨st,g',O,.inr ⟨t,H,.inl ⟨G,rfl,rfl⟩⟩⟩,rfl,T.l,U⟩;rw[zE (s6 _ W) (l':=qG o (.ref (b+c)) pd (.lst gds) (ε (.tup [.ref (p+c),.ref sr])) (ε (.ref (p+c))) (ε (.ref sr)) (ε (.tup [.str "times", .lst (TB (2*c) (nE (2*c) t))])) (ε .non)) rfl,oE (h1:=h4) rfl (d:=.tup [.str "laid", .lst (UP c (nE (2*c) t))]) (h2:=h4) (by simp![yE,EA,zA,MA,wA,gA,uA,Xm,iA,fA,bC,tF,Qo,Qa,Ro,Ri,a9,Qu,Ru,Nat.reduceAdd,fN,eG])]at u;exact u.symm
      | some v=>
       obtain⟨tag,bs,Q⟩:=v;rw[G]at W;obtain⟨E,A,W⟩:=W;have fm:=SO (x := "Search") (k := "made") U (B0);have fM:=SO (x := "Search") (k := "most") U (P7);have s8:qh (e2 AQ (tG "Search" "made" (eV 0)) (tG "Search" "most" (eV 0))) (qG o (.ref (b+c)) pd (.lst gds) (ε (.tup [.ref (p+c),.ref sr])) (ε (.ref (p+c))) (ε (.ref sr)) (ε (.tup [.str "times", .lst (TB (2*c) (nE (2*c) t))])) (ε (EC tag E Q))) h4=ε (decide (((m:Nat):Int)<=((made:Nat):Int)),h4):=by simp![NA,wA,gA,ZP,A5,iA,fA,fm,fM,aW,VA]
       rw[zE (s6 _ W) (l':=qG o (.ref (b+c)) pd (.lst gds) (ε (.tup [.ref (p+c),.ref sr])) (ε (.ref (p+c))) (ε (.ref sr)) (ε (.tup [.str "times", .lst (TB (2*c) (nE (2*c) t))])) (ε (EC tag E Q))) rfl,dE (h1:=h4) (by cases tag<;>rfl)]at u;by_cases lm:m<=made
       . refine⟨.tup [.str "open", .non],h4,.opn,made,?_,.inr ⟨st,g',O,.inr ⟨t,H,.inr ⟨tag,bs,Q,G,.inl ⟨lm,rfl,rfl⟩⟩⟩⟩,rfl,T.l,U⟩;have dg:decide (((m:Nat):Int)<=((made:Nat):Int))=true:=eO nofun;rw[dg]at s8;rw[oE s8 (d:=.tup [.str "open", .non]) (h2:=h4) rfl]at u;exact u.symm
       . have dg:decide (((m:Nat):Int)<=((made:Nat):Int))=false:=eN nofun;have b1:=kM D K.og G;obtain⟨pc,pl,wb,lb⟩:=Bt D a1 K.og K.sg G;obtain⟨h5,I⟩:∃h5:HI,h5=h4.set o (.ins "Search" [("lengths", .lst (ls.map oB)),("most", .int (m:Nat)),("made", .int ((made+1:Nat):Int))]):=⟨_,rfl⟩
         have ol:=(Uo U).1;have O5:ae h5 o ls m (made+1):=by unfold ae;rw[I,ou ol]
         have U5:qo h4 h5:=I ▸ qo.set U;have l5:h5.length=h4.length:=by rw[I,Ju]
         have sf:=FO (x := "Search") (k := "made") (v:=.int ((made+1:Nat):Int)) (l:=(qG o (.ref (b+c)) pd (.lst gds) (ε (.tup [.ref (p+c),.ref sr])) (ε (.ref (p+c))) (ε (.ref sr)) (ε (.tup [.str "times", .lst (TB (2*c) (nE (2*c) t))])) (ε (EC tag E Q)))) U ⋯;rw[B7,<- I]at sf;have m1:((made:Nat):Int)+1=((made+1:Nat):Int):=by omega
         have a5:h5[sr]?=ε (.lst (st.map gC)):=U5.2 _ _ ((M.trans (J.trans U4)).get r4);have qb:∃Z,uF (sD c m ls n) tag Z gs.tail bs (made+1) [] a0 s0:=by
          rcases q0 with⟨a2,g1,k1,k2,_,_⟩ | ⟨a2,g1,k1,k⟩
          . have:=O.ce K.of k1;rw[k2]at this;cases this
          . have eg:=O.unique K.of k1;subst eg;rcases k with⟨b6,P',k',R',_,_⟩ | ⟨t',b4,k⟩
            . exact(ET R' H).elim
            . rcases k with⟨C,_,_⟩ | ⟨b2,c0,b3,C,k⟩
              . rw[G]at C;cases C
              . rw[G]at C;cases C;rcases k with⟨a4,_,_⟩ | ⟨a4,k⟩
                . omega
                . exact⟨_,k⟩
         obtain⟨Z,qb⟩:=qb;obtain⟨d,h',a,s,e6,B,AN,U6,O6⟩:=S8 IH (tag:=tag) (st:=st) (gds:=gds.drop 1) (sr:=sr) (lo:=h.length) (hB:=h5) K.og.tail (fun x hx=>K.sg x (mem_of_mem_tail hx)) (Jr (K.grp.up (T.l.trans U5))) pc pl qb b1 wb (A.imp fun _ _ z=>z.up U5) nofun O5 a5 r1 (by have:=T.1;omega);refine⟨d,h',a,s,?_,.inr ⟨st,g',O,.inr ⟨t,H,.inr ⟨tag,bs,Q,G,.inr ⟨by omega,B⟩⟩⟩⟩,AN,T.l.trans (U5.trans U6),O6⟩;have mt:=aT (x := "Search") (m := "look_at_branches") (F:=bI (sE n)) (ga:=bA (eV 8) (bA (eV 6) (bA (DJ (eV 3) (JF (ro 1)) gL) eA))) (l:=(qG o (.ref (b+c)) pd (.lst gds) (ε (.tup [.ref (p+c),.ref sr])) (ε (.ref (p+c))) (ε (.ref sr)) (ε (.tup [.str "times", .lst (TB (2*c) (nE (2*c) t))])) (ε (EC tag E Q)))) O5 Q7;have cf:UE gds (ε 1) none=gds.drop 1:=rT gds 1;have a8:DJ (eV 3) (JF (ro 1)) gL (qG o (.ref (b+c)) pd (.lst gds) (ε (.tup [.ref (p+c),.ref sr])) (ε (.ref (p+c))) (ε (.ref sr)) (ε (.tup [.str "times", .lst (TB (2*c) (nE (2*c) t))])) (ε (EC tag E Q))) h5=ε (.lst (gds.drop 1),h5):=by simp![WP,gA,Vm,iA,fA,xP,uA,fP,yP,BH,Ro,cf]
         rw[dg]at s8;rw[dE s8]at u;simp![XA,qB,fV,gA,wA,uA,A5,yp,Bp,iA,fA,ZP,fm,K1,eF,m1,sf,fB,mt,EA,zA,a8,Ri,Ve,Ui,e6,wB]at u;exact u.symm
    . have J:Up h2 h3:=W1 fr;have T:Up h h3:=Y.trans (M.trans J);refine⟨.tup [.str "clash", .tup [.str "ring", .ref sr,.ref r]],h3,.clash (.ring st cs PP k),made,?_,.inr ⟨st,g',O,.inl ⟨cs,PP,k,R,rfl,rfl⟩⟩,⟨_,rfl,?_⟩,T.l,O2.up J⟩
      . rw[zE (s4 _ _ et) (l':=qG o (.ref (b+c)) pd (.lst gds) (ε (.tup [.ref (p+c),.ref sr])) (ε (.ref (p+c))) (ε (.ref sr)) (ε (.tup [.str "ring", .ref r])) none) rfl,oE (h1:=h3) rfl (d:=.tup [.str "clash", .tup [.str "ring", .ref sr,.ref r]]) (h2:=h3) rfl]at u;exact u.symm
      . show Yo h.length h3 (.ring st cs PP k) _;simp![Yo];refine⟨sr,r,rfl,r1,?_,(M.trans J).get r4,hr⟩;have:=(Y.trans M).1;omega
theorem Fw{c:Nat}(b:c<=8){f:OA}(of:bB c f):∃st,(∃g,qk c f st g/\yB c g=true)\/(∃g,bm c f st g):=by
 have N:=CG [] c f;have C:=XJ c c;have j:c*c<=8*8:=Ii b b;obtain⟨d,D,E,x,n,st,g,rfl,u,s,r,q,a,o,h⟩:=iR (show c<=100 by omega) of N (pd:=.lst ((KA c).map xA)) (P:=KA c) (fun e=>rfl) (fun p i=>by
  obtain⟨B,y⟩:=cb.mp i;omega) (oT c f) (by unfold KA;omega)
 rcases h with⟨rfl,k⟩ | ⟨G,rfl,F,H,m,ne,_⟩
 . exact⟨st,.inl ⟨g,a,k⟩⟩
 . exact⟨st,.inr ⟨_,g,a,m,ne,rfl⟩⟩
theorem Qv{c m:Nat}{ls:Ms Ln}(T:1<=c)(G:c<=8)(S:ls.length<=100)(y:∀x∈ls,x.1<c):∀(n:Nat)(f:OA)(j:Ms (Ms nC))(made:Nat),bB c f->ai c j->made<=m->m+1<=made+n->∃a s,sD c m ls n f j made a s:=by
 intro n
 induction n with
 | zero=>intro f j made _ _ X W;omega
 | succ n ih=>
  intro f j made of og X W;obtain⟨st,⟨g,s,em⟩ | ⟨g,o⟩⟩:=Fw G of
  . exact⟨_,_,.inl ⟨st,g,s,em,rfl,rfl⟩⟩
  . obtain⟨u,a0,neg⟩:=o.ok of;rcases tY (n:=2*c) (a:=0) nofun nofun (KC c g ls) (eU g y) (ZT G g S) [.lst ((KC c g ls).map nA)] rfl with⟨t,U,h,Y,Z⟩ | ⟨cs,PP,k,r,U,R,Y,hr,Z,rl⟩
    . cases p:XD c g j with
      | none=>exact⟨_,_,.inr ⟨st,g,o,.inr ⟨t,h,.inl ⟨p,rfl,rfl⟩⟩⟩⟩
      | some v=>
       obtain⟨e,bs,E⟩:=v;by_cases P:m<=made
       . exact⟨_,_,.inr ⟨st,g,o,.inr ⟨t,h,.inr ⟨e,bs,E,p,.inl ⟨P,rfl,rfl⟩⟩⟩⟩⟩
       . have C:=kM u og p;have go:∀(bs:Ms OA),(∀b∈bs,bB c b)->∀(i:Nat)(d:Ms Tr),i<=m->m+1<=i+n->∃a s,uF (sD c m ls n) e st j.tail bs i d a s:=by
          intro bs
          induction bs with
          | nil=>intro _ i d _ _;exact⟨_,_,rfl,rfl⟩
          | cons b bs B=>
           intro H i d F O;obtain⟨a,s,q⟩:=ih b j.tail i (H b ⋯) og.tail F O;obtain⟨z1,J,_⟩:=wU n b _ i _ _ q;have I:=J F;cases a with
           | clash D=>obtain⟨a',L,M⟩:=B (fun x Q=>H x (by simp[Q])) s (d++[D]) I nofun;exact⟨a',L,.inl ⟨D,s,q,M⟩⟩
           | opn=>exact⟨_,_,.inr ⟨(fun z=>by cases z),q⟩⟩
           | laid t=>exact⟨_,_,.inr ⟨(fun z=>by cases z),q⟩⟩
         obtain⟨a,s,q⟩:=go bs C (made+1) [] nofun nofun;exact⟨a,s,.inr ⟨st,g,o,.inr ⟨t,h,.inr ⟨e,bs,E,p,.inr ⟨by omega,q⟩⟩⟩⟩⟩
    . exact⟨_,_,.inr ⟨st,g,o,.inl ⟨cs,PP,k,R,rfl,rfl⟩⟩⟩
noncomputable def UG:Wd->Dt
 | .opn=>.str "open"
 | .laid=>.str "laid"
 | .clash=>.str "clash"
structure rh(c:Nat)(h:HI)(a:Nat)(fs:List qa):Prop where
 ds:∃ds,h[a]?=ε (.lst ds)/\Yi h ds fs
 ok:∀x∈fs,dH c x
 sg:∀x∈LC fs,x.length<=1000
 len:fs.length<=100
theorem WJ:∀fs:Ms qa,(ED fs).length<=fs.length
 | []=>Ra _
 | .long x::fs=>by have:=WJ fs;simp![ED,Qu];omega
 | .ways x::fs=>by have:=WJ fs;simp![ED,Qu];omega
 | .one x::fs=>by have:=WJ fs;simp![ED,Qu];omega
theorem VL{c:Nat}:∀fs:Ms qa,(∀x∈fs,dH c x)->∀x∈ED fs,x.1<c
 | [],_,x,hx=>nomatch hx
 | .long y::fs,h,x,hx=>by
  simp![ED,zu]at hx;rcases hx with rfl | hx
  . exact h (.long x) ⋯
  . exact VL fs (fun z a=>h z (by simp[a])) x hx
 | .ways y::fs,h,x,hx=>VL fs (fun z a=>h z (by simp[a])) x hx
 | .one y::fs,h,x,hx=>VL fs (fun z a=>h z (by simp[a])) x hx
theorem kJ{c:Nat}:∀fs:Ms qa,(∀x∈fs,dH c x)->ai c (LC fs)
 | [],_,x,hx=>nomatch hx
 | .one y::fs,h,x,hx=>by
  simp![LC,zu]at hx;rcases hx with rfl | hx
  . exact h (.one x) ⋯
  . exact kJ fs (fun z a=>h z (by simp[a])) x hx
 | .ways y::fs,h,x,hx=>kJ fs (fun z a=>h z (by simp[a])) x hx
 | .long y::fs,h,x,hx=>kJ fs (fun z a=>h z (by simp[a])) x hx
def A2(c m:Nat)(fs:Ms qa)(n:Nat)(a:ri)(s:Nat):Prop:=sD c m (ED fs) n (DD vC fs) (LC fs) 0 a s
theorem Vd {h:HI} (ls:Ms Ln) (m:Nat):rL [.ref h.length,.lst (ls.map oB),.int (m:Nat)] (h++[.ins "Search" []])=ε (.non,h++[.ins "Search" [("lengths", .lst (ls.map oB)),("most", .int (m:Nat)),("made", .int ((0:Nat):Int))]]):=by
 have o:¬((("lengths" :Str))=(("most" :Str))):=by decide +kernel
 have j:¬((("lengths" :Str))=(("made" :Str))):=by decide +kernel
 have i:¬((("most" :Str))=(("made" :Str))):=by decide +kernel
 have g:jF "lengths" (.lst (ls.map oB)) []=([("lengths", .lst (ls.map oB))]:Ms (Str×Dt)):=rfl;have f:jF "most" (.int (m:Nat)) [("lengths", .lst (ls.map oB))]=([("lengths", .lst (ls.map oB)),("most", .int (m:Nat))]:Ms (Str×Dt)):=by simp![jF,dG o]
 have e:jF "made" (.int 0) [("lengths", .lst (ls.map oB)),("most", .int (m:Nat))]=([("lengths", .lst (ls.map oB)),("most", .int (m:Nat)),("made", .int 0)]:Ms (Str×Dt)):=by simp![jF,dG j,dG i]
 have d:=FO (h:=h++[.ins "Search" []]) (n:=h.length) (x := "Search") (k := "lengths") (v:=.lst (ls.map oB)) (l:=[ε (.ref h.length),ε (.lst (ls.map oB)),ε (.int (m:Nat))]) (fs:=[]) ⋯ ⋯;have b:=FO (h:=h++[.ins "Search" [("lengths", .lst (ls.map oB))]]) (n:=h.length) (x := "Search") (k := "most") (v:=.int (m:Nat)) (l:=[ε (.ref h.length),ε (.lst (ls.map oB)),ε (.int (m:Nat))]) (fs:=[("lengths", .lst (ls.map oB))]) ⋯ ⋯;have a:=FO (h:=h++[.ins "Search" [("lengths", .lst (ls.map oB)),("most", .int (m:Nat))]]) (n:=h.length) (x := "Search") (k := "made") (v:=.int 0) (l:=[ε (.ref h.length),ε (.lst (ls.map oB)),ε (.int (m:Nat))]) (fs:=[("lengths", .lst (ls.map oB)),("most", .int (m:Nat))]) ⋯ ⋯;rw[g]at d;rw[f]at b;rw[e]at a;have hs:∀x y:Ob,(h++[x]).set h.length y=h++[y]:=fun x y=>by simp
 rw[hs]at d b a;dsimp![rL,WQ,Qs,Uu,Ri,XA,K1,uA,Qo,d,fB,b,a,Ld];rfl
theorem Cw{c m:Nat}(q:1<=c)(r:c<=8){h:HI}{a:Nat}{fs:Ms qa}(F:rh c h a fs)(ex:∃A s,A2 c m fs 12 A s) :
 ∃A s x h',A2 c m fs 12 A s/\XI [.int (c:Nat),.ref a,.int (m:Nat)] h=ε (.tup [UG A.wd,x,.int (s:Nat)],h')/\ci h.length h' c A (.tup [UG A.wd,x])/\qo h h':=by
 obtain⟨ds,u,D⟩:=F.ds;have W:=D.len;have fl:=F.len;have E:ds.length<sizeLine:=by rw[W];simp[sizeLine];omega
 have T:=AW u E D;obtain⟨h1,g⟩:∃h1:HI,h1=h++[.ins "Search" [("lengths", .lst ((ED fs).map oB)),("most", .int (m:Nat)),("made", .int ((0:Nat):Int))]]:=⟨_,rfl⟩
 have G:=Vd (h:=h) (ED fs) m;rw[<- g]at G;have C:Up h h1:=g ▸ Up.app _ _;have J:ae h1 h.length (ED fs) m 0:=by unfold ae;rw[g];simp
 obtain⟨b,i,S,Z,I⟩:=NW (show c<=1000 by omega) (C.get u) (D.up C.l) F.ok;have H:=rO (show c<=1000 by omega) i;obtain⟨h3,f⟩:∃h3:HI,h3=i++[.lst ((KA c).map xA)]:=⟨_,rfl⟩
 rw[<- f]at H;have B:Up i h3:=f ▸ Up.app _ _;have j:Up h h3:=C.trans (I.trans B);obtain⟨y,GA,U⟩:=OW (j.get u) E (D.up j.l);have pl:=XJ c c;have Q:c*c<=8*8:=Ii r r;obtain⟨d,h',A,s,e,L,n,X,Y⟩:=Yd (m:=m) q r (show(ED fs).length<=100 by have:=WJ fs;omega) (VL fs F.ok) 12 (DD vC fs) (LC fs) y 0 b h.length (.ref i.length) (KA c) h3
  ⟨ex,fJ fs F.ok _ (oP c),kJ fs F.ok,F.sg,B.net Z,GA,.inr ⟨i.length,rfl,by rw[f];simp⟩,(fun p P=>by obtain⟨q1,q2⟩:=cb.mp P;omega),oT c _,by unfold KA;omega,(J.up I).up B⟩
 have O:h.length<=h3.length:=j.1;have R:=SO (x := "Search") (k := "made") Y (B0);have M:=aT (h:=h1) (x := "Search") (m := "look") (F:=sE 12) (ga:=bA (qA PJ [] (bA (eV 0) (bA (eV 1) eA))) (bA (qA fI [] (bA (eV 0) eA)) (bA (qA QJ [] (bA (eV 1) eA)) eA))) (l:=[ε (.int (c:Nat)),ε (.ref a),ε (.int (m:Nat)),ε (.ref h.length),none]) J DZ;obtain⟨x,o⟩:∃x,d=.tup [UG A.wd,x]:=by
  cases A with
  | opn=>exact⟨_,n⟩
  | laid t=>exact⟨_,n⟩
  | clash tr=>obtain⟨x,e,_⟩:=n;exact⟨x,e⟩
 subst o;refine⟨A,s,x,h',L,?_,n.up O (fun k xs hk o=>o),(j.l).trans X⟩;dsimp![XI,SS,Qs,Uu,Ve,Ui,XA,GB,o9,MA,EA,zA,Qo,Ri,T,G,yw,Us,Ua,fB,fV,M,S,H,U,e,qB,yE,wA,uA,bC,FC,tF,Ro,ZP,R,V5,wB]
def re(c:Nat)(f:OA)(s:Nat->Int×Int):Prop:=∀i<c,∀j<c,i≠j->(f i j).testBit (Yu (s i) (s j))=true
theorem re.nar{c:Nat}{f:OA}{s:Nat->Int×Int}(ok:∀i,i<c->IE (s i))(h:re c f s){i j:Nat}(n:i<c)(k:j<c)(d:i≠j){m:Nat}(r:m.testBit (Yu (s i) (s j))=true):re c (LB f i m j) s:=by
 have hw:=YG (ok i n) (ok j k);have o:(f i j&&&m).testBit (Yu (s i) (s j))=true:=by rw[wu,h i n j k d,r];rfl
 intro a p b e g;by_cases q:a=i/\b=j
 . obtain⟨rfl,rfl⟩:=q;rw[R0 f m d];exact o
 . by_cases e2:a=j/\b=i
   . obtain⟨rfl,rfl⟩:=e2;rw[Z6,Nv (ok b e) (ok a p),AG _ nofun,show 12-(12-Yu (s b) (s a))=Yu (s b) (s a) by omega];exact o
   . rw[ZI f q e2];exact h a p b e g
theorem re.steps{c:Nat}{f g:OA}{st:Ms (Nat×Nat×Nat)}{s:Nat->Int×Int}(ok:∀i,i<c->IE (s i))(h:qk c f st g)(q:re c f s):re c g s:=by
 induction h with
 | nil=>exact q
 | @snoc st g i k j h e a b d ne n ih=>refine re.nar ok ih e b d.2.2 ?_;unfold Ue;rw[wu,ih i e j b d.2.2,Fi];exact(eM _ _ _).mpr ⟨_,_,YG (ok i e) (ok k a),ih i e k a d.1,YG (ok k a) (ok j b),ih k a j b d.2.1,JX (ok i e) (ok k a) (ok j b)⟩
theorem re.cut{c:Nat}{f:OA}{s:Nat->Int×Int}(h:re c f s):re c (tD c f) s:=fun i d j b a=>by rw[DG f d b];exact h i d j b a
theorem Tt(k:Nat):(0:Nat).testBit k=false:=by simp
theorem re.ne{c:Nat}{f:OA}{s:Nat->Int×Int}(h:re c f s)(d:∀i<c,f i i=64):yB c f=false:=by
 cases z:yB c f with
 | false=>rfl
 | true=>
  obtain⟨i,b,j,g,e⟩:=ej.mp z;by_cases a:i=j
  . subst a;rw[d i b]at e;cases e
  . have:=h i b j g a;rw[e,Tt]at this;cases this
theorem yT{c:Nat}{f:OA}(d:∀i<c,f i i=64){i j:Nat}(a:i≠j)(m:Nat):∀k<c,LB f i m j k k=64:=fun k b=>by rw[ZI f (fun q=>a (q.1.symm.trans q.2)) (fun q=>a (q.2.symm.trans q.1))];exact d k b
theorem TX{c k:Nat}:∀(a:Ms nC)(_:∀m∈a,AE c m)(f:OA)(p:Nat),(∀i<c,f i i=64)->∀i<c,cF f k a p i i=64
 | [],_,f,p,d=>d
 | m::a,h,f,p,d=>TX a (fun x b=>h x (by simp[b])) _ _ (yT d (h m ⋯).2.2.1 _)
theorem Ug{m k:Nat}(a:m<8192)(b:k<13):(rj m).testBit k=!m.testBit k:=by
 have:rj m=2^13-(m+1):=by unfold rj;omega
 rw[this,Nat.testBit_two_pow_sub_succ a];simp[b]
def sJ(s:Nat->Int×Int)(m:nC):Bool:=m.2.1.testBit (Yu (s m.1) (s m.2.2))
theorem re.only{c k:Nat}{s:Nat->Int×Int}(ok:∀i,i<c->IE (s i)):∀(g:Ms nC)(_:∀m∈g,AE c m)(f:OA)(p:Nat),re c f s->(∀(i:Nat) m,g[i]?=ε m->sJ s m=decide (p+i=k))->re c (cF f k g p) s
 | [],_,f,p,q,_=>q
 | m::g,h,f,p,q,H=>by
  obtain⟨a,b,d,e⟩:=h m ⋯;have j:=H 0 m rfl;refine re.only ok g (fun x n=>h x (by simp[n])) _ _ (q.nar ok a b d ?_) (fun i x n=>?_)
  . unfold sJ at j;by_cases z:p=k
    . rw[dh z];rw[eO (show p+0=k by omega)]at j;exact j
    . rw[dG z,Ug e (YG (ok _ a) (ok _ b)),j,eN (show ¬p+0=k by omega)];rfl
  . rw[H (i+1) x (by simpa using n)]
    congr 1
    rw[show p+(i+1)=p+1+i by omega]
def FP(s:Nat->Int×Int)(g:Ms nC):Prop:=∃k,k<g.length/\∀(i:Nat) m,g[i]?=ε m->sJ s m=decide (i=k)
noncomputable def cN(s:Nat->Int×Int)(p:Nat):Int:=if p%2=0 then(s (p/2)).1 else(s (p/2)).2
theorem iL(s:Nat->Int×Int)(i:Nat):cN s (2*i)=(s i).1:=by unfold cN;rw[dh nofun,show 2*i/2=i by omega]
theorem jL(s:Nat->Int×Int)(i:Nat):cN s (2*i+1)=(s i).2:=by unfold cN;rw[dG nofun,show(2*i+1)/2=i by omega]
def px(T t:Nat->Int)(p q:Nat):Prop:=(T p<T q->t p<t q)/\(T p=T q->t p=t q)/\(T q<T p->t q<t p)
theorem U9(a b c:Int):decide ((WB [a,b,c]).length=3)=decide (a≠b/\b≠c/\a≠c):=by
 by_cases g:a=b
 . subst g;by_cases f:a=c
   . subst f;simp[WB]
   . have d:¬c=a:=fun z=>f z.symm
     simp[WB,d]
 . have e:¬b=a:=fun z=>g z.symm
   by_cases f:b=c
   . subst f;simp[WB,e]
   . have d:¬c=b:=fun z=>f z.symm
     by_cases i:a=c
     . subst i;simp[WB,g,e]
     . have h:¬c=a:=fun z=>i z.symm
       simp[WB,g,f,i,e,d,h]
noncomputable def MG(c i k j:Nat):Bool:=decide (i≠k/\k≠j/\i≠j)&&decide (i<c/\k<c/\j<c)
theorem Ez(c i k j:Nat)(h:HI):DL [sC i k j,.int (c:Nat)] h=ε (.bl (MG c i k j),h):=by
 have fs:QO (.tup [.int (i:Nat),.int (k:Nat),.int (j:Nat)]) h=ε (.int ((WB [(i:Int),(k:Int),(j:Int)]).length:Nat),h):=by simp![QO,pD,Ss,Ro];rw[dh (show [(i:Int),(k:Int),(j:Int)].length+1<4096 by simp)]
 have u:=U9 (i:Int) (k:Int) (j:Int);have d:decide ((((WB [(i:Int),(k:Int),(j:Int)]).length:Nat):Int)=3)=decide (i≠k/\k≠j/\i≠j):=by have:decide ((((WB [(i:Int),(k:Int),(j:Int)]).length:Nat):Int)=3)=decide ((WB [(i:Int),(k:Int),(j:Int)]).length=3):=decide_eq_decide.mpr nofun;rw[this,u];exact decide_eq_decide.mpr nofun
 have g:=aH (te:=PN) (tc:=uB) (i:=0) (fun(x:Nat)=>Dt.int (x:Int)) (fun x=>Dt.bl (decide (x<c))) h [i,k,j] [none,ε (.int (c:Nat))] fun x _=>⟨rfl,by
  have a:decide ((0:Int)<=(x:Int))=true:=eO nofun;have b:decide ((x:Int)<(c:Int))=decide (x<c):=decide_eq_decide.mpr nofun;simp[PN,a,b]⟩
 have g:DE (CA 0) uB PN [.int (i:Nat),.int (k:Nat),.int (j:Nat)] [none,ε (.int (c:Nat))] h=ε ([.bl (decide (i<c)),.bl (decide (k<c)),.bl (decide (j<c))],h):=g;have fa:TH (.lst [.bl (decide (i<c)),.bl (decide (k<c)),.bl (decide (j<c))]) h=ε (.bl (decide (i<c/\k<c/\j<c)),h):=by have:=P2 (h:=h) [decide (i<c),decide (k<c),decide (j<c)];simp![Qs,Uu]at this;rw[this];by_cases p:i<c<;>by_cases o:k<c<;>by_cases n:j<c<;>simp[p,o,n]
 have m:[Dt.int (i:Nat),.int (k:Nat),.int (j:Nat)].length<sizeLine:=show 3<sizeLine by decide
 unfold sC;by_cases e:i≠k/\k≠j/\i≠j
 . rw[eO e]at d;dsimp![DL,lO,Qs (f:=some),Uu (f:=some),Ri,qB,iV,wA,dC,uA,Qo,fs,XF,d,qT,cH,Yn,Mt,rF,gJ,oF,Ks,PF _ _ _ m,g,fa,wB,MG,eO e,Fi]
 . rw[eN e]at d;dsimp![DL,lO,Qs (f:=some),Uu (f:=some),Ri,qB,iV,wA,dC,uA,Qo,fs,XF,d,qT,Vs,eH,wB,MG,eN e,Ga]
def xC(c:Nat):OA->Ms (Nat×Nat×Nat)->Ni OA
 | f,[]=>ε f
 | f,(i,k,j)::st=>if yB c f=true\/MG c i k j=false\/Ue f i k j=f i j then none else xC c (jC f i k j) st
theorem XT(c:Nat)(f:OA)(i k j:Nat)(st:Ms (Nat×Nat×Nat)):xC c f ((i,k,j)::st)=if yB c f=true\/MG c i k j=false\/Ue f i k j=f i j then none else xC c (jC f i k j) st:=rfl
theorem ff{c i k j:Nat}:MG c i k j=true↔sG i k j/\i<c/\k<c/\j<c:=by unfold MG sG;simp
theorem MY{c:Nat}:∀(st a:Ms (Nat×Nat×Nat))(f g:OA),xC c f st=ε g->xC c f (st++a)=xC c g a
 | [],_,f,g,e=>by cases e;rfl
 | (i,k,j)::st,a,f,g,e=>by
  rw[Ve,XT];rw[XT]at e;split at e
  . cases e
  . rename_i n;rw[dG n];exact MY st a _ _ e
theorem xX{c:Nat}{f g:OA}{st:Ms (Nat×Nat×Nat)}(S:qk c f st g):xC c f st=ε g:=by
 induction S with
 | nil=>rfl
 | @snoc st g i k j h e a b d ne n ih=>rw[MY _ _ _ _ ih];unfold xC;have t:MG c i k j=true:=ff.mpr ⟨d,e,a,b⟩;rw[dG (by rw[ne,t];simp[n])];rfl
theorem YU{c:Nat}:∀(st:Ms (Nat×Nat×Nat))(f g:OA),bB c f->xC c f st=ε g->bB c g
 | [],f,g,o,e=>by cases e;exact o
 | (i,k,j)::st,f,g,o,e=>by
  unfold xC at e;split at e
  . cases e
  . rename_i n;have t:MG c i k j=true:=by
     cases q:MG c i k j with
     | true=>rfl
     | false=>exact Ci (.inr (.inl q)) n
    obtain⟨d,b,h,a⟩:=ff.mp t;exact YU st _ _ (mU o b a d.2.2) e
inductive qV(c:Nat)(f:OA)(st:List (Nat×Nat×Nat))(h':HI):Dt->Prop
 | no:xC c f st=none->qV c f st h' .non
 | net {g:OA} {b:Nat}:xC c f st=ε g->Te h' b c g->qV c f st h' (.ref (b+c))
theorem jf{h:HI}{b c:Nat}{f:OA}(N:Te h b c f):QB (.ref (b+c)) h=ε (.int (c:Nat),h):=by have:=EH N.top;rwa[mM]at this
theorem FY{h:HI}{b c:Nat}{f:OA}(N:Te h b c f)(B:c<=100)(p x:Ni Dt)(i k j:Nat) :
 wG ([ε (.ref (b+c)),p,x].set 2 (ε (sC i k j))) h=if yB c f=true\/MG c i k j=false\/Ue f i k j=f i j then ε (.rt .non h)else ε (.nx [ε (.ref (h.length+c)),p,ε (sC i k j)] (h++qD h.length c (LB f i (Ue f i k j) j))):=by
 have e:=sS N nofun;have a:=Ez c i k j h;have o:=jf N;cases q:yB c f with
 | true=>rw[q]at e;rw[dh (.inl rfl)];simp![wG,Us,Ua,XA,OB,GF,NA,MA,EA,zA,gA,uA,Qa,Qo,iA,fA,Ri,e,VA,eG,qB,RF]
 | false=>
  rw[q]at e;cases n:MG c i k j with
  | false=>rw[n]at a;rw[dh (.inr (.inl rfl))];simp![wG,Us,Ua,XA,OB,GF,lJ,NA,MA,EA,zA,dC,gA,uA,Qa,Qo,iA,fA,Ri,e,o,a,VA,Vs,eH,qe,eG,qB,RF]
  | true=>
   rw[n]at a;obtain⟨d,u,r,s⟩:=ff.mp n;have m:=rX N u r s;have y:=qX N nofun u r s;by_cases g:Ue f i k j=f i j
   . rw[eO g]at m;rw[dh (.inr (.inr g))];simp![wG,Us,Ua,XA,OB,GF,lJ,NA,MA,EA,zA,dC,gA,uA,Qa,Qo,iA,fA,Ri,e,o,a,m,VA,Vs,eH,qg,qe,eG,qB,RF]
   . rw[eN g]at m;rw[dG (by simp[g])];simp![wG,Us,Ua,XA,OB,GF,lJ,NA,MA,EA,zA,dC,gA,uA,Qa,Qo,iA,fA,Ri,e,o,a,m,y,VA,Vs,eH,qg,qe,QE,fB,GB]
theorem GY{c:Nat}(p:c<=100)(m:Ni Dt):∀(st:Ms (Nat×Nat×Nat))(h:HI)(b:Nat)(f:OA)(d:Ni Dt),Te h b c f->
 ∃a:HI,(∀(n:Nat)(o:Ob),h[n]?=ε o->a[n]?=ε o)/\((xC c f st=none/\kC (CA 2) wG (st.map gC) [ε (.ref (b+c)),m,d] h=ε (.rt .non a))\/
  ∃g s u,xC c f st=ε g/\Te a s c g/\kC (CA 2) wG (st.map gC) [ε (.ref (b+c)),m,d] h=ε (.nx [ε (.ref (s+c)),m,u] a))
 | [],h,b,f,d,N=>⟨h,fun _ _ e=>e,.inr ⟨f,b,d,rfl,N,rfl⟩⟩
 | (i,k,j)::st,h,b,f,d,N=>by
  have t:=FY N p m d i k j;by_cases q:yB c f=true\/MG c i k j=false\/Ue f i k j=f i j
  . rw[dh q]at t;refine⟨h,fun _ _ e=>e,.inl ⟨by unfold xC;rw[dh q],?_⟩⟩;simp![Qs,gC,kC,gG,Ss,t,A9]
  . rw[dG q]at t;obtain⟨a,x,r⟩:=GY p m st (h++qD h.length c (LB f i (Ue f i k j) j)) h.length (jC f i k j) (ε (sC i k j)) (CG h c _);have kp:∀(n:Nat)(o:Ob),h[n]?=ε o->a[n]?=ε o:=fun n o e=>x n o (by rw[Vo (Uo e).1];exact e)
    have y:xC c f ((i,k,j)::st)=xC c (jC f i k j) st:=by rw[xC,dG q]
    refine⟨a,kp,?_⟩;rw[y];simp![Qs,gC,kC,gG,Ss,t];exact r
theorem Bh{h:HI}{b c:Nat}{f:OA}(N:Te h b c f)(D:c<=100){d:Dt}{st:Ms (Nat×Nat×Nat)}(e:HA h d=ε (st.map gC)) :
 ∃(x:Dt)(h2:HI),NJ [.ref (b+c),d] h=ε (x,h2)/\(∀(n:Nat)(o:Ob),h[n]?=ε o->h2[n]?=ε o)/\qV c f st h2 x:=by
 obtain⟨h2,kp,r⟩:=GY D (ε d) st h b f none N;have F:∃src,uH (d,h)=ε (src,h)/\zD (CA 2) wG [ε (.ref (b+c)),ε d,none] (src,h)=kC (CA 2) wG (st.map gC) [ε (.ref (b+c)),ε d,none] h:=by
  cases d with
  | lst M=>cases e;exact⟨.vals (st.map gC),rfl,ZF _ _ _⟩
  | ref s=>
   have hs:h[s]?=ε (.lst (st.map gC)):=by
    simp![HA]at e;split at e
    . rename_i q;cases e;exact q
    . cases e
   refine⟨.rf s,zF hs,Cr (fun l H=>H[s]?=ε (.lst (st.map gC))/\∃b f m,l=[ε (.ref (b+c)),ε (.ref s),m]/\Te H b c f) (fun _ _ q=>q.1) ?_ ⟨hs,b,f,none,rfl,N⟩⟩;rintro x G l H r ⟨B,J,P,m,rfl,L⟩ a;obtain⟨⟨i,k,j⟩,_,rfl⟩:=Ae.mp G;have t:=FY L D (ε (.ref s)) m i k j;have a:wG ([ε (.ref (J+c)),ε (.ref s),m].set 2 (ε (sC i k j))) H=ε r:=a;rw[t]at a;split at a
   . cases a;trivial
   . cases a;exact⟨by rw[Vo (Uo B).1];exact B,_,_,_,rfl,CG H c _⟩
  | _=>cases e
 obtain⟨src,C,p⟩:=F;rcases r with⟨y,u⟩ | ⟨g,I,O,y,u,E⟩
 . rw[u]at p;refine⟨.non,h2,?_,kp,.no y⟩;dsimp![NJ,TN,Qs (f:=some),Uu (f:=some),Ve,Ui,XA,WD,rD,Qo,C,p,RF,wB]
 . rw[E]at p;refine⟨.ref (I+c),h2,?_,kp,.net y u⟩;dsimp![NJ,TN,Qs (f:=some),Uu (f:=some),Ve,Ui,XA,WD,rD,Qo,C,p,fB,qB,wB]
theorem Z7{xs:Ms Dt}{d:Dt}{h:HI}:rA (.lst (xs++[d])) (.int (-1)) h=ε (d,h):=by
 rw[vI];have:L2.atI (xs++[d]) (-1)=ε d:=by unfold L2.atI L2.GI;rw[dG (by decide),dh (by simp![g8,Qu,Ru];omega)];rw[show((-1:Int)+((xs++[d]).length:Nat)).toNat=xs.length by simp![g8,Qu,Ru];omega];simp
 rw[this];rfl
theorem Y7{xs:Ms Dt}{d:Dt}{h:HI}:rA (.lst (d::xs)) (.int 0) h=ε (d,h):=by rw[vI,show(0:Int)=((0:Nat):Int)from rfl,SM.lD];rfl
theorem A3{h:HI}{d:Dt}{xs:Ms Dt}(e:HA h d=ε xs)(i:Int):rA d (.int i) h=(L2.atI xs i).map fun d=>(d,h):=by
 cases d with
 | lst a=>cases e;rfl
 | ref n=>
  simp![HA]at e;split at e
  . rename_i zs q;cases e;exact FE q i
  . cases e
 | _=>cases e
theorem A0{h:HI}{d:Dt}{xs:Ms Dt}(e:HA h d=ε xs):QB d h=ε (.int xs.length,h):=by
 cases d with
 | lst a=>cases e;rfl
 | ref n=>
  simp![HA]at e;split at e
  . rename_i zs q;cases e;exact EH q
  . cases e
 | _=>cases e
theorem Vr{h:HI}{a:Dt}{xs:Ms Dt}{d:Dt}(e:HA h a=ε (xs++[d])):rA a (.int (-1)) h=ε (d,h):=by rw[A3 e,<- vI (h:=h)];exact Z7
theorem Ur{h:HI}{a:Dt}{xs:Ms Dt}{d:Dt}(e:HA h a=ε (d::xs)):rA a (.int 0) h=ε (d,h):=by rw[A3 e,<- vI (h:=h)];exact Y7
def wT(T:Ms (Ms Int×Dt))(p:Int×Int):Int:=match ZD T [p.1,p.2]with
 | some (.int w)=>w
 | _=>0
def QF(r:Ms Int)(T:Ms (Ms Int×Dt)):Bool:=
 (decide (3<=r.length)&&(decide (r.head?=r.getLast?)&&decide ((WB r).length+1=r.length)))&&(((r.zip r.tail).all fun p=>(ZD T [p.1,p.2]).isSome)&&decide (((r.zip r.tail).map (wT T)).sum<0))
theorem Bw{h h2:HI}{d x:Dt}{r:Ms Int}{n:Nat}{T:Ms (Ms Int×Dt)}(e:HA h d=ε (r.map Dt.int))(Q:r.length<=1000)(g:HA h2 d=ε (r.map Dt.int))(Z:dI [x] h=ε (.ref n,h2))(S:h2[n]?=ε (.dt T))(U:∀k v,ZD T k=ε v->∃w,v=.int w) :
 ∃G,bJ [d,x] h=ε (.bl (QF r T),G)/\(G=h\/G=h2):=by
 have D:=A0 e;rw[lq]at D;have ef:bJ [d,x] h=uD (vO [ε d,ε x,none,none] h):=by rw[bJ,pB];rfl
 rw[ef];unfold vO;have j:qh (e2 GJ (YB QB (eV 0)) (ro 3)) [ε d,ε x,none,none] h=ε (decide (((r.length:Nat):Int)<3),h):=by simp![NA,wA,dC,gA,uA,Qa,iA,fA,D,wN,VA]
 by_cases o:3<=r.length
 . rw[eN (show ¬((r.length:Nat):Int)<3 by omega)]at j;obtain⟨a,m,b,rfl⟩:∃a m b,r=a::(m++[b]):=by
    cases r with
    | nil=>simp at o
    | cons a t=>
     rcases eq_nil_or_concat t with z | ⟨m,b,z⟩
     . rw[z]at o;simp at o
     . exact⟨a,m,b,by rw[z,concat_eq_append]⟩
   have X:rA d (.int 0) h=ε (.int a,h):=Ur (xs:=(m++[b]).map Dt.int) e;have W:rA d (.int (-1)) h=ε (.int b,h):=Vr (xs:=(a::m).map Dt.int) (by rw[e];simp);have fs:nM d h=ε (.int ((WB (a::(m++[b]))).length:Nat),h):=by simp![nM,e,Ss,mX];rw[dh nofun]
   obtain⟨r,f⟩:∃r,r=a::(m++[b]):=⟨_,rfl⟩
   have hd:r.head?=ε a:=by rw[f];rfl
   have y:r.getLast?=ε b:=by rw[f,<- Ve];exact getLast?_concat
   rw[<- f]at e Q D fs g o ⊢;have u:qh (e2 QC (e2 rA (eV 0) (ro 0)) (e2 rA (eV 0) (TC (ro 1)))) [ε d,ε x,none,none] h=ε (!decide (a=b),h):=by simp![NA,wA,UM,ZL,gA,uA,Qa,iA,fA,X,W,YH,VA]
   have B:qh (e2 QC (YB nM (eV 0)) (e2 MF (YB QB (eV 0)) (ro 1))) [ε d,ε x,none,none] h=ε (!decide (((WB r).length:Int)=(r.length:Int)-1),h):=by simp![NA,wA,dC,gA,uA,Qa,iA,fA,fs,D,QP,YH,VA]
   by_cases E:a=b
   . rw[eO E]at u;by_cases M:(WB r).length+1=r.length
     . rw[eO (show(((WB r).length:Nat):Int)=((r.length:Nat):Int)-1 by omega)]at B;have zs:UE (r.map Dt.int) (ε 1) none=r.tail.map Dt.int:=by have:=SM.rT (r.map Dt.int) 1;rw[show((1:Nat):Int)=1 from rfl]at this;rw[this,<- map_drop,drop_one]
       have P:∀l:LI,l[0]?=ε (ε d)->OO (eV 0) (DJ (eV 0) (JF (ro 1)) gL) l h2=ε (.lst ((r.zip r.tail).map fun p=>Dt.ntp [p.1,p.2]),h2):=by
        intro l L;have O:DJ (eV 0) (JF (ro 1)) gL l h2=ε (.lst (r.tail.map Dt.int),h2):=by simp![WP,gA,L,iA,fA,xP,uA,fP,yP,g,Ro,zs]
        have s0:eV 0 l h2=ε (d,h2):=by simp![gA,L,iA]
        simp![OO,s0,O,Ss,g,BH,mX]
       have lp:(r.zip r.tail).length<=1000:=by rw[length_zip];omega
       have hs:((r.zip r.tail).map fun p=>Dt.ntp [p.1,p.2]).length<sizeLine:=by rw[lq];exact Ca lp (by decide)
       have J:CJ h2 (.ref n)=ε T:=by simp![CJ,S]
       have ec:=aH (te:=dO) (tc:=uB) (i:=0) (fun(p:Int×Int)=>Dt.ntp [p.1,p.2]) (fun p=>Dt.bl (ZD T [p.1,p.2]).isSome) h2 (r.zip r.tail) [none,ε (.ref n)] fun p _=>⟨rfl,by
        simp![dO,qQ,gA,Ua,Qa,Qo,iA,Ss,PM,J,Ro]⟩
       have fa:TH (.lst ((r.zip r.tail).map fun p=>Dt.bl (ZD T [p.1,p.2]).isSome)) h2=ε (.bl ((r.zip r.tail).all fun p=>(ZD T [p.1,p.2]).isSome),h2):=by have:=P2 (h:=h2) ((r.zip r.tail).map fun p=>(ZD T [p.1,p.2]).isSome);rw[map_map,all_map]at this;exact this
       have C:NH (qh (YB TH (RD (hC (eV 3)) (CA 0) uB dO [none,ε 2]))) [ε d,ε x,ε (.ref n),ε (.lst ((r.zip r.tail).map fun p=>Dt.ntp [p.1,p.2]))] h2=ε (!((r.zip r.tail).all fun p=>(ZD T [p.1,p.2]).isSome),h2):=by simp![lJ,NA,dC,cH,rD,gA,Qa,Qo,iA,fA,WG,rF,gJ,oF,Ks,PF _ _ _ hs,ec,fa,VA]
       refine⟨h2,?_,.inr rfl⟩;refine xV (h1:=h) (by simp![GF,j,u,B,fA,qg,Vs,eH]) (pI (d:=.ref n) (h1:=h2) (l':=[ε d,ε x,ε (.ref n),none]) (by simp![MA,EA,zA,gA,Qa,Qo,iA,fA,Ri,Z]) rfl (pI (P _ rfl) rfl ?_));unfold QF;rw[eO o,hd,y,E,eO rfl,eO M,Fi,Fi,Fi];cases q:(r.zip r.tail).all fun p=>(ZD T [p.1,p.2]).isSome with
       | false=>rw[q]at C;exact oE C rfl
       | true=>
        rw[q]at C;have I:=aH (te:=TR) (tc:=uB) (i:=0) (fun(p:Int×Int)=>Dt.ntp [p.1,p.2]) (fun p=>Dt.int (wT T p)) h2 (r.zip r.tail) [none,ε (.ref n)] fun p R=>⟨rfl,by
         have s:=all_eq_true.mp q p R;obtain⟨v,F⟩:=Option.isSome_iff_exists.mp s;obtain⟨w,rfl⟩:=U _ _ F;have Y:wT T p=w:=by unfold wT;rw[F]
         simp![TR,oV,gA,Ua,Qa,Qo,iA,Ss,PM,J,F,Ro,Y]⟩
        have H:EJ (.lst ((r.zip r.tail).map fun p=>Dt.int (wT T p))) h2=ε (.int ((r.zip r.tail).map (wT T)).sum,h2):=by have:=V2 (h:=h2) ((r.zip r.tail).map (wT T));rw[map_map]at this;exact this
        exact xV C (mP (by simp![wA,dC,cH,rD,gA,uA,Ua,Us,Qa,Qo,iA,fA,WG,rF,gJ,oF,Ks,PF _ _ _ hs,I,H,wN,Fi]))
     . rw[eN (show ¬(((WB r).length:Nat):Int)=((r.length:Nat):Int)-1 by omega)]at B;refine⟨h,?_,.inl rfl⟩;unfold QF;rw[eN M,Ge,Ge,Ga];exact oE (h1:=h) (by simp![GF,j,u,B,fA,qg,qe,Vs,eH]) rfl
   . rw[eN E]at u;refine⟨h,?_,.inl rfl⟩;unfold QF;rw[hd,y,eN (show ¬ε a=ε b from fun z=>E (by injection z)),Ga,Ge,Ga];exact oE (h1:=h) (by simp![GF,j,u,fA,qe,Vs,eH,eG]) rfl
 . rw[eO (show((r.length:Nat):Int)<3 by omega)]at j;refine⟨h,?_,.inl rfl⟩;unfold QF;rw[eN o,Ga,Ga];exact oE (h1:=h) (by simp![GF,j,fA,eG]) rfl
theorem qk.shut{c:Nat}{f g:Nat->Nat->Nat}{st:Ms (Nat×Nat×Nat)}(h:qk c f st g)(i:aF c f):st=[]/\g=f:=by
 induction h with
 | nil=>exact⟨rfl,rfl⟩
 | snoc h e a b d ne n ih=>obtain⟨rfl,rfl⟩:=ih;exact Ci (i _ e _ a _ b d) n
theorem q9{h:HI}{w:Nat}{st:Ms (Nat×Nat×Nat)}(e:h[w]?=ε (.lst (st.map gC)))(k:Nat):LA h (k+3) (.ref w)=ε (.lst (st.map gC)):=by
 have:XB (LA h (k+2)) (st.map gC)=ε (st.map gC):=MO _ _ _ fun x _=>by unfold gC sC;simp[LA,XB]
 rw[LA];simp![e,this,Ro]
theorem X9{h:HI}{w:Nat}{st:Ms (Nat×Nat×Nat)}(e:h[w]?=ε (.lst (st.map gC))):RC (.ref w) (.lst []) h=ε (.bl (!st.isEmpty),h):=by
 have a:LA h 8 (.lst [])=ε (.lst []):=by simp[LA,XB]
 have b:∀st:Ms (Nat×Nat×Nat),HC (st.map gC)=true/\ID (st.map gC)<=3:=by
  intro st
  induction st with
  | nil=>exact⟨rfl,by simp[ID]⟩
  | cons x st ih=>refine⟨by simp![Qs,HC,gC,sC,BB,ih.1,Bool.and_self],?_⟩;have:=ih.2;simp![Qs,ID,gC,sC,OG];omega
 have ok:uE (st.map gC) []=true:=by obtain⟨d,f⟩:=b st;unfold uE;rw[d];simp[HC,ID];omega
 rw[sV (q9 e 5) a ok];cases st<;>rfl
theorem jc{h:HI}{c:Nat}(k:c<=100){f:OA}(of:bB c f){u:Nat}(N:Te h u c f)(ne:yB c f=false) :
 ∃(x:Dt)(s:Nat)(h':HI)(v:Bool),TJ [.ref (u+c)] h=ε (.tup [x,.ref s],h')/\qo h h'/\RC (.ref s) (.lst []) h'=ε (.bl v,h')/\(v=false↔aF c f):=by
 have H:=rO (show c<=1000 by omega) h;have R:=XJ c c;have F:c*c<=100*100:=Ii k k;obtain⟨d,h',e,x,s,st,g,rfl,M,D,C,B,i,L,m⟩:=iR k of (N.grow [.lst ((KA c).map xA)]) (pd:=.ref h.length) (P:=KA c) (fun z=>by simp[QD,HA]) (fun p E=>by
  obtain⟨Q,O⟩:=cb.mp E;omega) (oT c f) (by unfold KA;omega)
 refine⟨x,s,h',!st.isEmpty,?_,⟨by simp at D;omega,fun n J o=>?_⟩,X9 B,?_⟩
 . simp![TJ,US,pB,qB,MA,EA,zA,dC,gA,Qs,Uu,Ve,Ui,Qu,Ru,eG,Qa,iA,fA,N.len,Ri,H,e,wB,Nat.reduceAdd]
 . have j:n<h.length:=(Uo o).1;rw[C n (by simp;omega),Vo j];exact o
 . constructor
   . intro z;have y:st=[]:=by
      cases st with
      | nil=>rfl
      | cons a r=>cases z
     subst y;have G:g=f:=by
      generalize hs:([]:Ms (Nat×Nat×Nat))=st at i;cases i with
      | nil=>rfl
      | snoc=>simp at hs
     rw[G]at m;rcases m with⟨_,q⟩ | ⟨b,_,_,_,q,_⟩
     . rw[ne]at q;cases q
     . exact q
   . intro I;rw[(i.shut I).1];rfl
noncomputable abbrev bQ:=Nat×Nat×Nat
inductive rb where
 | Wu (st:List bQ)
 | ring (st:List bQ) (r:List Int)
 | one (st:List bQ) (bs:List rb)
 | split (st:List bQ) (p:Nat×Nat) (bs:List rb)
noncomputable def rb.st:rb->Ms bQ
 | .Wu st=>st
 | .ring st _=>st
 | .one st _=>st
 | .split st _ _=>st
noncomputable def rb.kids:rb->Ms rb
 | .one _ bs=>bs
 | .split _ _ bs=>bs
 | _=>[]
noncomputable def rb.wd:rb->Str
 | .Wu _ => "threes"
 | .ring _ _ => "ring"
 | .one _ _ => "one"
 | .split _ _ _ => "split"
mutual
noncomputable def aD:rb->Nat
 | .Wu _=>1
 | .ring _ _=>1
 | .one _ bs=>mE bs+1
 | .split _ _ bs=>mE bs+1
noncomputable def mE:Ms rb->Nat
 | []=>0
 | t::ts=>max (aD t) (mE ts)
end
mutual
noncomputable def ra(h:HI):rb->Dt->Prop
 | .Wu st,d=>∃s,d=.tup [.str "threes",s]/\HA h s=ε (st.map gC)
 | .ring st r,d=>∃s x,d=.tup [.str "ring",s,x]/\HA h s=ε (st.map gC)/\HA h x=ε (r.map Dt.int)/\r.length<=1000
 | .one st bs,d=>∃s x ds,d=.tup [.str "one",s,x]/\HA h s=ε (st.map gC)/\HA h x=ε ds/\Wi h bs ds
 | .split st p bs,d=>∃s x ds,d=.tup [.str "split",s,.int (p.1:Nat),.int (p.2:Nat),x]/\HA h s=ε (st.map gC)/\HA h x=ε ds/\Wi h bs ds
noncomputable def Wi(h:HI):Ms rb->Ms Dt->Prop
 | [],ds=>ds=[]
 | t::ts,ds=>∃d r,ds=d::r/\ra h t d/\Wi h ts r
end
theorem iG{h h':HI}(u:qo h h'){d:Dt}{xs:Ms Dt}(e:HA h d=ε xs):HA h' d=ε xs:=by
 cases d with
 | lst a=>exact e
 | ref n=>
  simp![HA]at e;split at e
  . rename_i zs q;cases e;simp![HA,u.2 _ _ q]
  . cases e
 | _=>cases e
mutual
theorem ra.up{h h':HI}(u:qo h h'):∀(t:rb){d:Dt},ra h t d->ra h' t d
 | .Wu st,d,q=>by simp![ra]at q ⊢;obtain⟨s,e,q⟩:=q;exact⟨s,e,iG u q⟩
 | .ring st r,d,q=>by simp![ra]at q ⊢;obtain⟨s,x,e,f,b,a⟩:=q;exact⟨s,x,e,iG u f,iG u b,a⟩
 | .one st bs,d,q=>by simp![ra]at q ⊢;obtain⟨s,x,ds,e,f,b,a⟩:=q;exact⟨s,x,ds,e,iG u f,iG u b,Wi.up u bs a⟩
 | .split st p bs,d,q=>by simp![ra]at q ⊢;obtain⟨s,x,ds,e,f,b,a⟩:=q;exact⟨s,x,ds,e,iG u f,iG u b,Wi.up u bs a⟩
theorem Wi.up{h h':HI}(u:qo h h'):∀(a:Ms rb){ds:Ms Dt},Wi h a ds->Wi h' a ds
 | [],ds,q=>by simp![Wi]at q ⊢;exact q
 | t::a,ds,q=>by simp![Wi]at q ⊢;obtain⟨d,r,e,f,b⟩:=q;exact⟨d,r,e,ra.up u t f,Wi.up u a b⟩
end
theorem Wi.len{h:HI}:∀(a:Ms rb){ds:Ms Dt},Wi h a ds->ds.length=a.length
 | [],ds,q=>by simp![Wi]at q;rw[q];rfl
 | t::a,ds,q=>by simp![Wi]at q;obtain⟨d,r,rfl,_,b⟩:=q;simp![Qu,Wi.len a b]
theorem ra.hd{h:HI}{t:rb}{d:Dt}(q:ra h t d):∃s,(∀H,rA d (.int 0) H=ε (.str t.wd,H))/\(∀H,rA d (.int 1) H=ε (s,H))/\HA h s=ε (t.st.map gC):=by
 cases t with
 | Wu st=>simp![ra]at q;obtain⟨s,rfl,q⟩:=q;exact⟨s,fun _=>rfl,fun _=>rfl,q⟩
 | ring st r=>simp![ra]at q;obtain⟨s,x,rfl,q,_⟩:=q;exact⟨s,fun _=>rfl,fun _=>rfl,q⟩
 | one st bs=>simp![ra]at q;obtain⟨s,x,ds,rfl,q,_⟩:=q;exact⟨s,fun _=>rfl,fun _=>rfl,q⟩
 | split st p bs=>simp![ra]at q;obtain⟨s,x,ds,rfl,q,_⟩:=q;exact⟨s,fun _=>rfl,fun _=>rfl,q⟩
theorem K8{h h2:HI}(kp:∀(n:Nat)(o:Ob),h[n]?=ε o->h2[n]?=ε o):qo h h2:=by
 refine⟨?_,fun n a e=>kp n _ e⟩;rcases Nat.eq_zero_or_pos h.length with z | z
 . omega
 . have:h[h.length-1]?=ε h[h.length-1]:=by simp
   have:=(Uo (kp _ _ this)).1;omega
noncomputable def MI:rb->Ni (Nat×Nat)
 | .split _ p _=>ε p
 | _=>none
noncomputable def yV:rb->Prop
 | .one _ _=>True
 | .split _ _ _=>True
 | _=>False
def KI(c:Nat)(g:OA)(ls:Ms Ln):Ms (Ms Int×Dt):=(AB (KC c g ls)).map QA
mutual
inductive Sh(c:Nat)(ls:List Ln):Nat->OA->List (List nC)->rb->Bool->Prop
 | no {n f gs t}:xC c f t.st=none->Sh c ls (n+1) f gs t false
 | Wu {n f gs st g}:xC c f st=ε g->Sh c ls (n+1) f gs (.Wu st) (yB c g)
 | loose {n f gs t g}:t.wd≠("threes" :Str)->xC c f t.st=ε g->(yB c g=true\/¬aF c g)->Sh c ls (n+1) f gs t false
 | ring {n f gs st r g}:xC c f st=ε g->yB c g=false->aF c g->Sh c ls (n+1) f gs (.ring st r) (QF r (KI c (tD c g) ls))
 | odd {n f gs t g}:yV t->xC c f t.st=ε g->yB c g=false->aF c g->(∀bs ps,XD c (tD c g) gs=ε (MI t,bs,ps)->bs.length≠t.kids.length)->Sh c ls (n+1) f gs t false
 | cut {n f gs t g bs ps v}:yV t->xC c f t.st=ε g->yB c g=false->aF c g->XD c (tD c g) gs=ε (MI t,bs,ps)->bs.length=t.kids.length->kN c ls n bs gs.tail t.kids v->Sh c ls (n+1) f gs t v
inductive kN(c:Nat)(ls:List Ln):Nat->List OA->List (List nC)->List rb->Bool->Prop
 | nil {n gs}:kN c ls n [] gs [] true
 | no {n f fs gs t ts}:Sh c ls n f gs t false->kN c ls n (f::fs) gs (t::ts) false
 | yes {n f fs gs t ts v}:Sh c ls n f gs t true->kN c ls n fs gs ts v->kN c ls n (f::fs) gs (t::ts) v
end
theorem YK(a b:Str)(h:HI):gE (.str a) (.str b) h=ε (.bl (decide (a=b)),h):=V9 a b
theorem F5(a b:Str)(h:HI):RC (.str a) (.str b) h=ε (.bl (!decide (a=b)),h):=by
 have r:∀k:Str,LA h 8 (.str k)=ε (.str k):=fun _=>by simp[LA]
 simp![RC,r,Ss,B3,Ro]
theorem Rc(c:Nat)(g:OA)(ls:Ms Ln):∀k v,ZD (KI c g ls) k=ε v->∃w,v=.int w:=by intro k v e;unfold ZD at e;obtain⟨p,a,rfl⟩:=Eu.mp e;have:=za a;unfold KI at this;obtain⟨x,_,rfl⟩:=Ae.mp this;exact⟨_,rfl⟩
theorem bx{h:HI}{b c:Nat}{g:OA}(N:Te h b c g)(p:c<=8)(og:bB c g)(ne:yB c g=false){ls:Ms Ln}(o:ls.length<=100){x:Dt}{r:Ms Int}(e:HA h x=ε (r.map Dt.int))(n:r.length<=1000) :
 ∃y k h',jI [.ref (b+c),.lst (ls.map oB)] h=ε (y,k)/\bJ [x,y] k=ε (.bl (QF r (KI c g ls)),h')/\qo h h':=by
 obtain⟨rest,s⟩:=oX nofun (fun i j f d=>xZ (og.lt i f j d) (ce ne f d)) (ls:=ls) nofun N;have m:(KC c g ls).length<=1000:=ZT p g o;have da:(h++.lst ((KC c g ls).map nA)::rest)[h.length]?=ε (.lst ((KC c g ls).map nA)):=by simp
 have q:=sW (KC c g ls) m _ da;have a:qo h (h++.lst ((KC c g ls).map nA)::rest):=qo.app _ _;obtain⟨h',u,e2⟩:=Bw (iG a e) n (iG (a.trans (qo.app _ _)) e) q (T:=KI c g ls) (by unfold KI;simp) (Rc c g ls);refine⟨_,_,h',s,u,?_⟩;rcases e2 with rfl | rfl
 . exact a
 . exact a.trans (qo.app _ _)
def XU(c:Nat)(ls:Ms Ln)(n:Nat)(R:zB):Prop:=∀(f:OA)(e:Ms (Ms nC))(t:rb)(h:HI)(b:Nat)(a:Ms Dt)(d:Dt),Te h b c f->bB c f->ad h a e->ai c e->(∀x∈e,x.length<=1000)->ra h t d->aD t<=n->
 ∃v g,R [.ref (b+c),.lst a,.lst (ls.map oB),d] h=ε (.bl v,g)/\qo h g/\Sh c ls n f e t v
theorem DY{c:Nat}{ls:Ms Ln}{n:Nat}{R:zB}(E:XU c ls n R){gds:Ms Dt}{p:Ms (Ms nC)}(go:ai c p)(B:∀x∈p,x.length<=1000)(x:Dt):∀(nr i:Ms Dt)(bs:Ms OA)(g:Ms rb)(e dp:Ms Dt)(h:HI)(k j:Ni Dt),e.length=dp.length->HA h x=ε (dp++i)->Zu (be h c) bs nr->(∀b∈bs,bB c b)->Wi h g i->bs.length=g.length->mE g<=n->ad h gds p->
 ∃v s,qo h s/\kN c ls n bs p g v/\((v=false/\DB (SD 4 5) (yH R) (.zp (.lst (e++nr)) x) (nr.length+1) e.length [ε (.lst (e++nr)),ε (.lst gds),ε (.lst (ls.map oB)),ε x,k,j] h=ε (.rt (.bl false) s))\/
  (v=true/\∃G F,DB (SD 4 5) (yH R) (.zp (.lst (e++nr)) x) (nr.length+1) e.length [ε (.lst (e++nr)),ε (.lst gds),ε (.lst (ls.map oB)),ε x,k,j] h=ε (.nx [ε (.lst (e++nr)),ε (.lst gds),ε (.lst (ls.map oB)),ε x,G,F] s)))
 | [],i,bs,g,e,dp,h,k,j,hl,hx,a,ob,ft,bl,dp',Q=>by
  cases a;have tn:g=[]:=by cases g with | nil=>rfl | cons=>simp at bl
  subst tn;have X:i=[]:=by simpa only[Wi]using ft
  subst X;refine⟨true,h,qo.refl h,.nil,.inr ⟨rfl,k,j,?_⟩⟩;unfold DB;rw[Ri]at hx;simp![qi.at,BH,hx,Ri,hl,jj (Ra e.length),jj (Ra dp.length)];rw[jj nofun]
 | nd::nr,i,bs,g,e,dp,h,k,j,hl,hx,a,ob,ft,bl,dpp,Q=>by
  cases a with
  | @cons D _ u _ a1 Z=>
   obtain⟨f,rfl,N⟩:=a1;cases g with
   | nil=>simp at bl
   | cons t g=>
    simp![Wi]at ft;obtain⟨d,i,rfl,T,S⟩:=ft;have C:aD t<=n/\mE g<=n:=by simp![mE]at dpp;omega
    obtain⟨v,o,W,m,y⟩:=E D p t h f gds d N (ob D ⋯) Q go B T C.1;have P:(e++Dt.ref (f+c)::nr)[e.length]?=ε (.ref (f+c)):=by simp
    have O:(dp++d::i)[e.length]?=ε d:=by rw[hl];simp
    have Y:yH R [ε (.lst (e++Dt.ref (f+c)::nr)),ε (.lst gds),ε (.lst (ls.map oB)),ε x,ε (.ref (f+c)),ε d] h=if v=true then ε (.nx [ε (.lst (e++Dt.ref (f+c)::nr)),ε (.lst gds),ε (.lst (ls.map oB)),ε x,ε (.ref (f+c)),ε d] o)else ε (.rt (.bl false) o):=by cases v<;>simp![yH,OB,lJ,NA,MA,EA,zA,gA,uA,Qa,Qo,iA,fA,Ri,W,VA,qg,qe,Vs,eH,eG,qB,QE]
    have st:∀K,(DB (SD 4 5) (yH R) (.zp (.lst (e++Dt.ref (f+c)::nr)) x) (K+1) e.length [ε (.lst (e++Dt.ref (f+c)::nr)),ε (.lst gds),ε (.lst (ls.map oB)),ε x,k,j] h)=if v=true then DB (SD 4 5) (yH R) (.zp (.lst (e++Dt.ref (f+c)::nr)) x) K (e.length+1) [ε (.lst (e++Dt.ref (f+c)::nr)),ε (.lst gds),ε (.lst (ls.map oB)),ε x,ε (.ref (f+c)),ε d] o else ε (.rt (.bl false) o):=by intro K;rw[DB];simp![qi.at,BH,hx,P,O,BU,Ss,Us,Ua,Y];cases v<;>rfl
    cases v with
    | false=>refine⟨false,o,m,.no y,.inl ⟨rfl,?_⟩⟩;rw[Qu,st];rfl
    | true=>
     obtain⟨H,M,I,J,r⟩:=DY E go B x nr i u g (e++[.ref (f+c)]) (dp++[d]) o (ε (.ref (f+c))) (ε d) (by simp[hl]) (by rw[iG m hx];simp) (Z.imp fun _ _ q=>q.up m) (fun b L=>ob b (by simp[L])) (Wi.up m g S) (by simpa using bl) C.2 (Q.up m);refine⟨H,M,m.trans I,.yes y J,?_⟩;have U:e++[Dt.ref (f+c)]++nr=e++Dt.ref (f+c)::nr:=by simp
     rw[U,g8,length_singleton]at r;rw[Qu,st];exact r
theorem yh(t:rb):1<=aD t:=by cases t<;>simp[aD]
theorem e7{h:HI}(p q:Nat×Nat):RC (xA p) (.tup [.int (q.1:Nat),.int (q.2:Nat)]) h=ε (.bl (!decide (p=q)),h):=by
 obtain⟨a,b⟩:=p;obtain⟨e,d⟩:=q;have j:LA h 8 (xA (a,b))=ε (.tup [.int (a:Nat),.int (b:Nat)]):=by unfold xA;simp[LA,XB]
 have e2:LA h 8 (.tup [.int (e:Nat),.int (d:Nat)])=ε (.tup [.int (e:Nat),.int (d:Nat)]):=by simp[LA,XB]
 have i:QC (.tup [.int (a:Nat),.int (b:Nat)]) (.tup [.int (e:Nat),.int (d:Nat)]) []=ε (.bl (!decide ((a,b)=(e,d))),[]):=by
  have k:∀x y g f:Int,QC (.tup [.int x,.int y]) (.tup [.int g,.int f]) []=ε (.bl (!(decide (x=g)&&(decide (y=f)&&true))),[]):=fun x y g f=>by rfl
  rw[k]
  congr 3
  rw[Bool.and_true,Bool.eq_iff_iff];simp;omega
 simp![RC,j,e2,Ss,i,Ro]
theorem Bf{h:HI}:RC (.tup []) (.tup []) h=ε (.bl false,h):=by
 have a:LA h 8 (.tup [])=ε (.tup []):=by simp[LA,XB]
 simp![RC,a,Ss];rfl
theorem F0(a s x:Dt):SM.UE [a,s,x] (ε 2) (ε (-1))=[]/\¬(HT.sIx [a,s,x].length 0 (ε 2)=0/\HT.sIx [a,s,x].length [a,s,x].length (ε (-1))=[a,s,x].length):=⟨rfl,show ¬(HT.sIx 3 0 (ε 2)=0/\HT.sIx 3 3 (ε (-1))=3) by decide⟩
theorem I0(a s p q x:Dt):SM.UE [a,s,p,q,x] (ε 2) (ε (-1))=[p,q]/\¬(HT.sIx [a,s,p,q,x].length 0 (ε 2)=0/\HT.sIx [a,s,p,q,x].length [a,s,p,q,x].length (ε (-1))=[a,s,p,q,x].length):=⟨rfl,show ¬(HT.sIx 5 0 (ε 2)=0/\HT.sIx 5 5 (ε (-1))=5) by decide⟩
theorem tZ{d:Dt}{xs ys:Ms Dt}(hd:d=.tup xs)(h1:SM.UE xs (ε 2) (ε (-1))=ys)(h2:¬(HT.sIx xs.length 0 (ε 2)=0/\HT.sIx xs.length xs.length (ε (-1))=xs.length)){l:LI}{h:HI}(a:l[3]?=ε (ε d)):DI (eV 3) (JF (ro 2)) (JF (TC (ro 1))) l h=ε (.tup ys,h):=by
 have f:eV 3 l h=ε (.tup xs,h):=by simp![gA,a,iA,hd]
 have e:JF (ro 2) l h=ε (ε 2,h):=rfl;have b:JF (TC (ro 1)) l h=ε (ε (-1),h):=rfl;simp![DI,f,e,b,Ss,T1,dh h2,h1]
theorem Dz{c:Nat}{ls:Ms Ln}{n:Nat}{R:zB}(D:XU c ls n R){gds:Ms Dt}{i:Ms (Ms nC)}(go:ai c i)(C:∀x∈i,x.length<=1000){x:Dt}{d ds:Ms Dt}{bs:Ms OA}{e:Ms rb}{h:HI}(k:HA h x=ε ds)(a:Zu (be h c) bs d)(ob:∀b∈bs,bB c b)(y:Wi h e ds)(dp:mE e<=n)(Q:ad h gds i) :
 ∃v g,cI R [.lst d,.lst gds,.lst (ls.map oB),x] h=ε (.bl v,g)/\qo h g/\((v=false/\bs.length≠e.length)\/(bs.length=e.length/\kN c ls n bs i e v)):=by
 have o:=QU (xs:=d) (h:=h);have m:=A0 k;have H:=a.len;have G:=Wi.len e y;by_cases q:bs.length=e.length
 . have j:decide (((d.length:Nat):Int)=((ds.length:Nat):Int))=true:=eO nofun;obtain⟨v,g,u,s,r⟩:=DY D go C x d ds bs e [] [] h none none rfl k a ob y q dp Q;have p:=Hy (r:=.lst d) (q:=x) (BH d) k;have B:zD (SD 4 5) (yH R) [ε (.lst d),ε (.lst gds),ε (.lst (ls.map oB)),ε x,none,none] (.zp (.lst d) x,h)=DB (SD 4 5) (yH R) (.zp (.lst d) x) (d.length+1) 0 [ε (.lst d),ε (.lst gds),ε (.lst (ls.map oB)),ε x,none,none] h:=by unfold zD;simp![qi.fuel,BH]
   simp![Ui,Ru]at r;rcases r with⟨rfl,r⟩ | ⟨rfl,F,E,r⟩
   . refine⟨false,g,?_,u,.inr ⟨q,s⟩⟩;dsimp![cI,EL,Qs (f:=some),Uu (f:=some),Ve,Ui,XA,OB,NA,wA,dC,Qo,o,m,YH,j,qg,VA,Vs,eH,QE,fB,WD,J1,p,B,r,RF,wB]
   . refine⟨true,g,?_,u,.inr ⟨q,s⟩⟩;dsimp![cI,EL,Qs (f:=some),Uu (f:=some),Ve,Ui,XA,OB,NA,wA,dC,Qo,o,m,YH,j,qg,VA,Vs,eH,QE,fB,WD,J1,p,B,r,qB,uA,wB]
 . have j:decide (((d.length:Nat):Int)=((ds.length:Nat):Int))=false:=eN nofun;refine⟨false,h,?_,qo.refl h,.inl ⟨rfl,q⟩⟩;dsimp![cI,EL,Qs (f:=some),Uu (f:=some),Ve,Ui,XA,OB,NA,wA,dC,uA,Qo,o,m,YH,j,qe,VA,qB,RF,wB]
noncomputable def vH:Ni (Nat×Nat)->Str
 | none => "one"
 | some _ => "split"
def BN:Ni (Nat×Nat)->Dt
 | none=>.tup []
 | some p=>xA p
theorem zy:∀a,¬vH a=Str.ofString "ring"
 | none=>show ¬(Str.ofString "one" =Str.ofString "ring") by decide
 | some _=>show ¬(Str.ofString "split" =Str.ofString "ring") by decide
theorem Df{h:HI}:∀{a b:Ni (Nat×Nat)},vH a=vH b->RC (BN a) (BN b) h=ε (.bl (!decide (a=b)),h)
 | none,none,_=>Bf
 | some p,some q,_=>by
  have e:decide (ε p=ε q)=decide (p=q):=by simp
  rw[e];exact e7 p q
 | none,some _,w=>Ci w (show ¬(Str.ofString "one" =Str.ofString "split") by decide)
 | some _,none,w=>Ci w (show ¬(Str.ofString "split" =Str.ofString "one") by decide)
theorem Xf{c:Nat}(hc:c<=8){ls:Ms Ln}(hl:ls.length<=100):∀n,XU c ls n (kI n):=by
 intro n
 induction n with
 | zero=>intro f gs t h b m d _ _ _ _ _ _ dp;have:=yh t;omega
 | succ n IH=>
  intro f gs t h b m d N of Q go gl F dp;obtain⟨s,i0,i1,es⟩:=F.hd;obtain⟨x,u,eb,kp,B⟩:=Bh N nofun es;have u1:=K8 kp;obtain⟨L,P⟩:∃L:Dt->Ni Dt->LI,∀y z,L y z=[ε (.ref (b+c)),ε (.lst m),ε (.lst (ls.map oB)),ε d,ε y,z]:=⟨_,fun _ _=>rfl⟩
  have l0:∀y z,(L y z)[0]?=ε (ε (.ref (b+c))):=fun y z=>by rw[P];rfl
  have l1:∀y z,(L y z)[1]?=ε (ε (.lst m)):=fun y z=>by rw[P];rfl
  have l2:∀y z,(L y z)[2]?=ε (ε (.lst (ls.map oB))):=fun y z=>by rw[P];rfl
  have l3:∀y z,(L y z)[3]?=ε (ε d):=fun y z=>by rw[P];rfl
  have l4:∀y z,(L y z)[4]?=ε (ε y):=fun y z=>by rw[P];rfl
  have l5:∀y z,(L y (ε z))[5]?=ε (ε z):=fun y z=>by rw[P];rfl
  have wd:∀(y:Dt)(z:Ni Dt)(H:HI),e2 rA (eV 3) (ro 0) (L y z) H=ε (.str t.wd,H):=fun y z H=>by simp![wA,gA,uA,l3,iA,fA,i0]
  have no:∀(y:Dt)(z:Ni Dt)(H:HI),eC (.bl false) (L y z) H=ε (.bl false,H):=fun _ _ _=>rfl
  obtain⟨Y,k⟩:∃Y,kI (n+1) [.ref (b+c),.lst m,.lst (ls.map oB),d] h=Y:=⟨_,rfl⟩
  rw[k];have out:∀(v:Bool)(O:HI),Y=ε (.bl v,O)->qo h O->Sh c ls (n+1) f gs t v->∃v O,Y=ε (.bl v,O)/\qo h O/\Sh c ls (n+1) f gs t v:=fun v O a b d=>⟨v,O,a,b,d⟩
  have ef:kI (n+1) [.ref (b+c),.lst m,.lst (ls.map oB),d] h=uD (oK (kI n) [ε (.ref (b+c)),ε (.lst m),ε (.lst (ls.map oB)),ε d,none,none] h):=by show UB 4 6 (oK (kI n)) _ h=_;rw[pB];rfl
  have s1:qA NJ [] (bA (eV 0) (bA (e2 rA (eV 3) (ro 1)) eA)) [ε (.ref (b+c)),ε (.lst m),ε (.lst (ls.map oB)),ε d,none,none] h=ε (x,u):=by simp![MA,EA,zA,wA,gA,uA,Qa,Qo,iA,fA,Ri,i1,eb]
  rw[ef,oK,zE (i:=4) (l':=L x none) s1 (P x none).symm]at k;cases B with
  | no q=>
   have s2:qh (e2 iF (eV 4) (eC .non)) (L .non none) u=ε (true,u):=by simp![NA,wA,gA,uA,l4,iA,fA];rfl
   rw[oE s2 (no _ _ _)]at k;exact out false u k.symm u1 (.no q)
  | @net g o q N1=>
   have og:=YU _ _ _ of q;have s2:qh (e2 iF (eV 4) (eC .non)) (L (.ref (o+c)) none) u=ε (false,u):=by simp![NA,wA,gA,uA,l4,iA,fA];rfl
   have em:=sS N1 nofun;have ee:qA xG [] (bA (eV 4) eA) (L (.ref (o+c)) none) u=ε (.bl (yB c g),u):=by simp![MA,EA,zA,gA,l4,iA,fA,Ri,em]
   have G:qh (e2 gE (e2 rA (eV 3) (ro 0)) (eC (.str "threes"))) (L (.ref (o+c)) none) u=ε (decide (t.wd = "threes"),u):=by rw[NA,wA,wd];simp![uA,fA,YK,VA]
   rw[dE s2]at k;by_cases R:t.wd = "threes"
   . rw[eO R]at G;rw[oE G ee]at k;cases t with
     | Wu st=>exact out _ u k.symm u1 (.Wu q)
     | ring st r=>exact Ci R (by show ¬(("ring" :Str) = "threes");decide)
     | one st bs=>exact Ci R (by show ¬(("one" :Str) = "threes");decide)
     | split st p bs=>exact Ci R (by show ¬(("split" :Str) = "threes");decide)
   . rw[eN R]at G;rw[dE G]at k;cases ne:yB c g with
     | true=>
      rw[ne]at ee;have Z:WE (qh (qA xG [] (bA (eV 4) eA))) (qh (e2 RC (e2 rA (qA TJ [] (bA (eV 4) eA)) (ro 1)) (oC eA))) (L (.ref (o+c)) none) u=ε (true,u):=by rw[GF,NA,ee];simp![fA,VA,eG]
      rw[oE Z (no _ _ _)]at k;exact out false u k.symm u1 (.loose R q (.inl ne))
     | false=>
      rw[ne]at ee;obtain⟨x2,a1,E,v2,er,u2,en,cl⟩:=jc nofun og N1 ne;have j1:rA (.tup [x2,.ref a1]) (.int 1) E=ε (.ref a1,E):=rfl;have Z:WE (qh (qA xG [] (bA (eV 4) eA))) (qh (e2 RC (e2 rA (qA TJ [] (bA (eV 4) eA)) (ro 1)) (oC eA))) (L (.ref (o+c)) none) u=ε (v2,E):=by rw[GF,NA,ee];simp![fA,VA,Vs,eH,NA,wA,MA,EA,zA,gA,uA,JH,Ru,mq,eG,l4,iA,Ri,er,j1,en]
      have I:=u1.trans u2;cases hv:v2 with
      | true=>rw[hv]at Z;rw[oE Z (no _ _ _)]at k;exact out false E k.symm I (.loose R q (.inr fun z=>by rw[cl.mpr z]at hv;cases hv))
      | false=>
       have M:=cl.mp hv;rw[hv]at Z;have N2:=OY (u2.net N1);have U:=bV og;have a7:yB c (tD c g)=false:=by rw[IX];exact ne
       have s5:qh (e2 gE (e2 rA (eV 3) (ro 0)) (eC (.str "ring"))) (L (.ref (o+c)) none) E=ε (decide (t.wd = "ring"),E):=by rw[NA,wA,wd];simp![uA,fA,YK,VA]
       have F2:=ra.up I t F;have Q2:=Q.up I;rw[dE Z]at k;have a0:∀(C:Dt)(ds:Ms Dt),yV t->HA E C=ε ds->Wi E t.kids ds->mE t.kids<=n->(∀H,rA d (.int (-1)) H=ε (C,H))->(∀(l:LI)(H:HI),l[3]?=ε (ε d)->DI (eV 3) (JF (ro 2)) (JF (TC (ro 1))) l H=ε (BN (MI t),H))->t.wd=vH (MI t)->∃v O,Y=ε (.bl v,O)/\qo h O/\Sh c ls (n+1) f gs t v:=by
        intro C ds ic X W J lst sl tg;rw[show decide (t.wd=("ring" :Str))=false by rw[tg];exact eN (zy _)]at s5;obtain⟨h3,U3,ms⟩:=jX N2 U nofun Q2 go gl;have u3:qo h h3:=I.trans U3.l;rw[dE s5]at k;have gt:ad h3 m.tail gs.tail:=by
         have:=Q2.up U3.l;cases this with
         | nil=>exact .nil
         | cons a r=>exact r
        have s6:∀y,OF [.ref (o+c),.lst m] E=ε (y,h3)->qA OF [] (bA (eV 4) (bA (eV 1) eA)) (L (.ref (o+c)) none) E=ε (y,h3):=fun y e=>by simp![MA,EA,zA,gA,l4,l1,iA,fA,Ri,e]
        have a3:∀y,(L (.ref (o+c)) none).set 5 (ε y)=L (.ref (o+c)) (ε y):=fun y=>by rw[P,P];rfl
        cases hs:XD c (tD c g) gs with
        | none=>
         rw[hs]at ms;rw[zE (s6 _ ms) (a3 _)]at k;have S:WE (qh (e2 iF (eV 5) (eC .non))) (WE (qh (e2 RC (e2 rA (eV 5) (ro 0)) (e2 rA (eV 3) (ro 0)))) (qh (e2 RC (e2 rA (eV 5) (ro 1)) (DI (eV 3) (JF (ro 2)) (JF (TC (ro 1))))))) (L (.ref (o+c)) (ε .non)) h3=ε (true,h3):=by rw[GF,NA,wA];simp![gA,uA,l5,iA,fA];rfl
         rw[oE S (no _ _ _)]at k;exact out false h3 k.symm u3 (.odd ic q ne M fun a4 ps z=>by rw[hs]at z;cases z)
        | some z=>
         obtain⟨j,a9,ps⟩:=z;rw[hs]at ms;obtain⟨D,a2,e3⟩:=ms;have a6:=kM U go hs;have a8:=iG U3.l X;obtain⟨v,h4,e4,u4,r4⟩:=Dz IH go.tail (fun y hy=>gl y (mem_of_mem_tail hy)) a8 a2 a6 (Wi.up U3.l _ W) J gt;have kn:iF (EC j D ps) .non h3=ε (.bl false,h3):=by cases j<;>rfl
         have k0:rA (EC j D ps) (.int 0) h3=ε (.str (vH j),h3):=by cases j<;>rfl
         have k2:rA (EC j D ps) (.int 1) h3=ε (BN j,h3):=by cases j<;>rfl
         have k3:rA (EC j D ps) (.int 2) h3=ε (.lst D,h3):=by cases j<;>rfl
         generalize EC j D ps=T at e3 kn k0 k2 k3;rw[zE (s6 _ e3) (a3 _)]at k;have S:∀z,(vH j=t.wd->z=!decide (j=MI t))->(vH j≠t.wd->z=true)->WE (qh (e2 iF (eV 5) (eC .non))) (WE (qh (e2 RC (e2 rA (eV 5) (ro 0)) (e2 rA (eV 3) (ro 0)))) (qh (e2 RC (e2 rA (eV 5) (ro 1)) (DI (eV 3) (JF (ro 2)) (JF (TC (ro 1))))))) (L (.ref (o+c)) (ε T)) h3=ε (z,h3):=by
          intro z z1 z2;have t1:qh (e2 iF (eV 5) (eC .non)) (L (.ref (o+c)) (ε T)) h3=ε (false,h3):=by simp![NA,wA,gA,uA,l5,iA,fA,kn,VA]
          have t2:qh (e2 RC (e2 rA (eV 5) (ro 0)) (e2 rA (eV 3) (ro 0))) (L (.ref (o+c)) (ε T)) h3=ε (!decide (vH j=t.wd),h3):=by simp![NA,wA,gA,uA,l5,l3,iA,fA,k0,i0,F5,VA]
          rw[GF,t1];simp![fA,Vs,eH];rw[GF,t2];by_cases we:vH j=t.wd
          . rw[z1 we,eO we];simp![qg,fA,Vs,eH,NA,wA,gA,uA,l5,iA,k2,sl _ h3 (l3 _ _),Df (we.trans tg),VA]
          . rw[z2 we,eN we];simp![qe,fA,eG]
         by_cases te:j=MI t
         . have S:=S false (fun _=>by rw[eO te];rfl) (fun w=>Ci (by rw[te];exact tg.symm) w);have s8:qA (cI (kI n)) [] (bA (e2 rA (eV 5) (ro 2)) (bA (DJ (eV 1) (JF (ro 1)) gL) (bA (eV 2) (bA (e2 rA (eV 3) (TC (ro 1))) eA)))) (L (.ref (o+c)) (ε T)) h3=ε (.bl v,h4):=by have:=SM.rT m 1;rw[show((1:Nat):Int)=1 from rfl]at this;simp![MA,EA,zA,wA,gA,uA,WP,xP,fP,yP,UM,ZL,l1,l2,l3,l5,iA,fA,k3,BH,Ro,this,drop_one,lst,Ri,e4]
           rw[dE S,mP s8]at k;rw[te]at hs;refine out v h4 k.symm (u3.trans u4) ?_;rcases r4 with⟨rfl,r4⟩ | ⟨r4,r5⟩
           . exact .odd ic q ne M fun a4 a5 z=>by rw[hs]at z;cases z;exact r4
           . exact .cut ic q ne M hs r4 r5
         . have S:=S true (fun _=>by rw[eN te];rfl) (fun _=>rfl);rw[oE S (no _ _ _)]at k;exact out false h3 k.symm u3 (.odd ic q ne M fun a4 a5 z=>by rw[hs]at z;cases z;exact Ci rfl te)
       cases t with
       | Wu st=>exact Ci rfl R
       | ring st r=>
        simp![ra]at F2;obtain⟨G,C,rfl,_,X,W⟩:=F2;obtain⟨y,h3,h4,e3,e4,u4⟩:=bx N2 hc U a7 hl X W;have k2:rA (.tup [.str "ring",G,C]) (.int 2) E=ε (C,E):=rfl;rw[show decide ((rb.ring st r).wd=("ring" :Str))=true from eO rfl]at s5;have s6:qA bJ [] (bA (e2 rA (eV 3) (ro 2)) (bA (qA jI [] (bA (eV 4) (bA (eV 2) eA))) eA)) (L (.ref (o+c)) none) E=ε (.bl (QF r (KI c (tD c g) ls)),h4):=by simp![MA,EA,zA,wA,gA,uA,l2,l3,l4,iA,fA,Ri,k2,e3,e4]
        rw[oE s5 s6]at k;exact out _ h4 k.symm (I.trans u4) (.ring q ne M)
       | one st bs=>
        simp![ra]at F2;obtain⟨G,C,ds,rfl,_,X,W⟩:=F2;have J:mE bs<=n:=by simp![aD]at dp;omega
        exact a0 C ds trivial X W J (fun _=>rfl) (fun l H hl=>tZ (l:=l) (h:=H) rfl (F0 (.str "one") G C).1 (F0 (.str "one") G C).2 hl) rfl
       | split st p bs=>
        simp![ra]at F2;obtain⟨G,C,ds,rfl,_,X,W⟩:=F2;have J:mE bs<=n:=by simp![aD]at dp;omega
        exact a0 C ds trivial X W J (fun _=>rfl) (fun l H hl=>tZ (l:=l) (h:=H) rfl (I0 (.str "split") G (.int (p.1:Nat)) (.int (p.2:Nat)) C).1 (I0 (.str "split") G (.int (p.1:Nat)) (.int (p.2:Nat)) C).2 hl) rfl
theorem HZ{g x y:Int}(a:1<=g)(h:x<y):g*x-g*y<=-1:=by rw[<- Int.mul_sub];have b:g*(x-y)<=g*(-1):=Int.mul_le_mul_of_nonneg_left nofun nofun;omega
theorem GZ{g x y:Int}(a:1<=g)(h:x<=y):g*x-g*y<=0:=by rw[<- Int.mul_sub];have b:g*(x-y)<=g*0:=Int.mul_le_mul_of_nonneg_left nofun nofun;omega
theorem aZ{g:Int}(i:1<=g){T:Nat->Int}{p q:Nat}{a f h z:Int}(m:z<=f)(k:h<=z)(lt:z<a->T p<T q)(eq:z=a->T p=T q)(j:a<z->T q<T p):∀e∈ZH p q a f h,g*T e.1-g*T e.2.1<=e.2.2:=by
 intro e he;unfold ZH at he;rcases Aa.mp he with he | he
 . by_cases d:f<=a
   . rw[dh d]at he;rw[zc.mp he];by_cases b:f<a
     . rw[dh b];exact HZ i (lt nofun)
     . rw[dG b];refine GZ i (x:=T p) (y:=T q) ?_;rcases Int.lt_trichotomy z a with y | y | y
       . have:=lt y;omega
       . have:=eq y;omega
       . omega
   . rw[dG d]at he;exact nomatch he
 . by_cases d:a<=h
   . rw[dh d]at he;rw[zc.mp he];by_cases b:a<h
     . rw[dh b];exact HZ i (j nofun)
     . rw[dG b];refine GZ i (x:=T q) (y:=T p) ?_;rcases Int.lt_trichotomy z a with y | y | y
       . omega
       . have:=eq y;omega
       . have:=j y;omega
   . rw[dG d]at he;exact nomatch he
theorem m9:∀p∈ba,pz (ba.idxOf p)=p:=by decide +kernel
theorem n9{s o:Int×Int}(h1:IE s)(h2:IE o):pz (Yu s o)=(NC s.1 o.1 o.2,NC s.2 o.1 o.2):=m9 _ (CO h1 h2)
theorem qt{s o:Int×Int}(h1:IE s)(h2:IE o){m:Nat}(a:m.testBit (Yu s o)=true)(side:Nat)(hs:side<2):((NC (if side=0 then s.1 else s.2) o.1 o.2:Nat):Int)∈VB side m:=by unfold VB;refine Ae.mpr ⟨Yu s o,bj.mpr ⟨YG h1 h2,a⟩,?_⟩;unfold zs;rw[n9 h1 h2];rcases(show side=0\/side=1 by omega)with rfl | rfl<;>rfl
theorem dY{c:Nat}{g:OA}{s:Nat->Int×Int}(ok:∀i,i<c->IE (s i))(q:re c g s){G:Int}(n:1<=G){i j side:Nat}(m:i<c)(b:j<c)(d:i≠j)(hs:side<2):∀e∈TF i j side (g i j),G*cN s e.1-G*cN s e.2.1<=e.2.2:=by
 have mem:=qt (ok i m) (ok j b) (q i m j b d) side hs;have ne:VB side (g i j) ≠ []:=fun z=>by rw[z]at mem;cases mem
 have h:=(YS _ ne).2 _ mem;have k:=(BO _ ne).2 _ mem;have pt:cN s (2*i+side)=(if side=0 then(s i).1 else(s i).2):=by
  rcases(show side=0\/side=1 by omega)with rfl | rfl
  . rw[Nat.add_zero,iL];rfl
  . rw[jL];rfl
 have a:(s j).1<(s j).2:=ok j b;intro e he;unfold TF at he;have f:=bX (if side=0 then(s i).1 else(s i).2) (s j).1 (s j).2 a;rcases Aa.mp he with he | he
 . refine aZ n h k ?_ ?_ ?_ e he<;>rw[pt,iL]<;>intro z<;>rcases f with⟨y,w⟩ | ⟨y,w⟩ | ⟨y,o,w⟩ | ⟨y,w⟩ | ⟨y,w⟩<;>rw[w]at z<;>omega
 . refine aZ n h k ?_ ?_ ?_ e he<;>rw[pt,jL]<;>intro z<;>rcases f with⟨y,w⟩ | ⟨y,w⟩ | ⟨y,o,w⟩ | ⟨y,w⟩ | ⟨y,w⟩<;>rw[w]at z<;>omega
def iQ(c:Nat)(s:Nat->Int×Int)(x:Ln):Prop:=x.1<c/\x.2.1*((2*c+1:Nat):Int)<=(s x.1).2-(s x.1).1/\(s x.1).2-(s x.1).1<=x.2.2*((2*c+1:Nat):Int)
theorem Cg{c:Nat}{g:OA}{s:Nat->Int×Int}(ok:∀i,i<c->IE (s i))(q:re c g s){ls:Ms Ln}(h:∀x∈ls,iQ c s x):∀e∈KC c g ls,cN s e.1-cN s e.2.1<=e.2.2:=by
 intro e he;unfold KC at he;rcases Aa.mp he with he | he
 . rcases Aa.mp he with he | he
   . obtain⟨i,j,rfl⟩:=Ae.mp he;simp![iL,jL];have:(s i).1<(s i).2:=ok i (Ai.mp j);omega
   . obtain⟨x,d,he⟩:=Li.mp he;obtain⟨a,n,m⟩:=h x d;unfold VC at he;simp![zu,not_mem_nil,or_false]at he;rcases he with rfl | rfl
     . simp![iL,jL,Int.neg_mul];omega
     . simp![iL,jL];omega
 . obtain⟨p,f,he⟩:=Li.mp he;obtain⟨k,b⟩:=ZY f;have a:(1:Int)<=1:=by decide
   unfold DC at he;rcases Aa.mp he with he | he
   . have:=dY ok q a nofun b nofun nofun e he;rw[Int.one_mul,Int.one_mul]at this;exact this
   . have:=dY ok q a nofun b nofun nofun e he;rw[Int.one_mul,Int.one_mul]at this;exact this
theorem gY{c:Nat}{f:OA}:∀(a st:Ms bQ)(g g':OA),qk c f st g->xC c g a=ε g'->qk c f (st++a) g'
 | [],st,g,g',S,e=>by cases e;rw[Ri];exact S
 | (i,k,j)::a,st,g,g',S,e=>by
  rw[XT]at e;split at e
  . cases e
  . rename_i n;have t:MG c i k j=true:=by
     cases q:MG c i k j with
     | true=>rfl
     | false=>exact Ci (.inr (.inl q)) n
    have ne:yB c g=false:=by
     cases q:yB c g with
     | false=>rfl
     | true=>exact Ci (.inl q) n
    obtain⟨d,m,b,h⟩:=ff.mp t;have:=gY a (st++[(i,k,j)]) _ g' (.snoc S m b h d ne fun z=>n (.inr (.inr z))) e;rwa[nu]at this
theorem yM{c:Nat}{f g:OA}{st:Ms bQ}(e:xC c f st=ε g):qk c f st g:=by have:=gY st [] f g .nil e;rwa[Ui]at this
theorem iZ{T:Ms (Ms Int×Dt)}{B:Int->Int}(hB:∀x y w,ZD T [x,y]=ε (.int w)->B x-B y<=w)(f:∀k v,ZD T k=ε v->∃w,v=.int w):∀(r:Ms Int)(a b:Int),r.head?=ε a->r.getLast?=ε b->((r.zip r.tail).all fun p=>(ZD T [p.1,p.2]).isSome)=true->B a-B b<=((r.zip r.tail).map (wT T)).sum
 | [],a,b,h,_,_=>by cases h
 | [x],a,b,h1,h2,_=>by cases h1;cases h2;simp
 | x::y::r,a,b,h1,h2,al=>by
  cases h1;have d:((ZD T [x,y]).isSome&&(((y::r).zip r).all fun p=>(ZD T [p.1,p.2]).isSome))=true:=al;rw[rz]at d;have ih:=iZ hB f (y::r) y b rfl (by rw[<- h2];rfl) d.2;obtain⟨v,e⟩:=Option.isSome_iff_exists.mp d.1;obtain⟨w,rfl⟩:=f _ _ e;have j:=hB x y w e;have g:wT T (x,y)=w:=by unfold wT;rw[e]
  have i:(((x::y::r).zip (x::y::r).tail).map (wT T)).sum=wT T (x,y)+(((y::r).zip r).map (wT T)).sum:=by simp
  have ih:B y-B b<=(((y::r).zip r).map (wT T)).sum:=ih;rw[i,g];omega
theorem Am{b:Ms Bd}{t:Nat->Int}(u:∀e∈b,t e.1-t e.2.1<=e.2.2)(r:Ms Int):QF r ((AB b).map QA)=false:=by
 cases q:QF r ((AB b).map QA)with
 | false=>rfl
 | true=>
  exfalso;unfold QF at q;simp![rz,decide_eq_true_eq]at q;obtain⟨⟨j,i,F⟩,h,E⟩:=q;obtain⟨a,g⟩:∃a,r.head?=ε a:=by
   cases r with
   | nil=>simp at j
   | cons a r=>exact⟨a,rfl⟩
  have D:∀x y w,ZD ((AB b).map QA) [x,y]=ε (.int w)->t x.toNat-t y.toNat<=w:=by
   intro x y w e;unfold ZD at e;obtain⟨p,d,e⟩:=Eu.mp e;have m:=za d;have k:=find?_some d;obtain⟨z,s,rfl⟩:=Ae.mp m;have k:QA z=([x,y],.int w):=by have f:(QA z).1=[x,y]:=of_decide_eq_true k;exact Prod.ext f e
   unfold QA at k;simp![su,Le,Dt.int.injEq,and_true]at k;obtain⟨⟨f,o⟩,n⟩:=k;have:=u z ((pJ b).mem z s);rw[<- f,<- o,m6,m6,<- n];exact this
  have C:∀k v,ZD ((AB b).map QA) k=ε v->∃w,v=.int w:=by intro k v e;unfold ZD at e;obtain⟨p,d,rfl⟩:=Eu.mp e;obtain⟨x,_,rfl⟩:=Ae.mp (za d);exact⟨_,rfl⟩
  have:=iZ (B:=fun x=>t x.toNat) D C r a a g (i ▸ g) h;omega
theorem Av{c:Nat}{g:OA}{d:Ms (Ms nC)}{tag:Ni (Nat×Nat)}{bs:Ms OA}{n:Ms (Nat×Nat)}{s:Nat->Int×Int}(ok:∀i,i<c->IE (s i))(og:ai c d)(e:∀i<c,g i i=64)(f:re c g s)(r:∀x∈d,FP s x)(hs:XD c g d=ε (tag,bs,n)):(∃b∈bs,re c b s)/\∀b∈bs,∀i<c,b i i=64:=by
 cases d with
 | cons grp d=>simp![XD,Es,su]at hs;obtain⟨_,rfl,_⟩:=hs;obtain⟨k,o,H⟩:=r grp ⋯;refine⟨⟨_,Ae.mpr ⟨k,Ai.mpr o,rfl⟩,re.only ok grp (og grp ⋯) g 0 f (fun i x q=>by rw[H i x q,xu])⟩,fun b a=>?_⟩;obtain⟨k,_,rfl⟩:=Ae.mp a;exact TX grp (og grp ⋯) g 0 e
 | nil=>
  simp![XD]at hs;cases lp:FH c g with
  | none=>rw[lp]at hs;cases hs
  | some p=>
   rw[lp]at hs;simp![Es,su]at hs;obtain⟨_,rfl,_⟩:=hs;obtain⟨y,u⟩:=cb.mp (za lp);have j:p.1<c:=by omega
   have h:p.2<c:=by omega
   have a:=f p.1 j p.2 h nofun;have m:=YG (ok _ j) (ok _ h);refine⟨⟨_,Ae.mpr ⟨_,bj.mpr ⟨m,a⟩,rfl⟩,f.nar ok j h nofun (by rw[Nat.testBit_two_pow];simp)⟩,fun b a=>?_⟩;obtain⟨w,_,rfl⟩:=Ae.mp a;exact yT e nofun _
theorem rZ{c:Nat}{ls:Ms Ln}{s:Nat->Int×Int}(ok:∀i,i<c->IE (s i))(j:∀g,re c g s->∃T:Nat->Int,∀e∈KC c g ls,T e.1-T e.2.1<=e.2.2):∀(n:Nat)(f:OA)(a:Ms (Ms nC))(t:rb)(v:Bool),Sh c ls n f a t v->bB c f->ai c a->(∀i<c,f i i=64)->re c f s->(∀g∈a,FP s g)->v=false
 | 0,f,a,t,v,h,_,_,_,_,_=>by cases h
 | n+1,f,a,t,v,h,of,og,dg,q,hg=>by
  cases h with
  | no _=>rfl
  | Wu e=>exact(q.steps ok (yM e)).ne ((yM e).diag dg)
  | loose _ _ _=>rfl
  | @ring _ _ _ st r g e ne J=>have o:re c (tD c g) s:=(q.steps ok (yM e)).cut;obtain⟨T,I⟩:=j _ o;exact Am (t:=T) I r
  | odd _ _ _ _ _=>rfl
  | @cut _ _ _ _ g bs L _ M e ne J hs O S=>
   have o:re c (tD c g) s:=(q.steps ok (yM e)).cut;have p:=bV (YU _ _ _ of e);have B:∀i<c,tD c g i i=64:=fun i u=>by rw[DG g u u];exact(yM e).diag dg i u
   have C:=kM p og hs;obtain⟨ex,y⟩:=Av ok og B o hg hs;have go:∀(bs:Ms OA)(m:Ms rb)(v:Bool),kN c ls n bs a.tail m v->(∀b∈bs,bB c b)->(∀b∈bs,∀i<c,b i i=64)->(∃b∈bs,re c b s)->v=false:=by
    intro bs
    induction bs with
    | nil=>rintro m v _ _ _ ⟨b,j,_⟩;cases j
    | cons b bs ih=>
     rintro m v S F E ⟨k,hb',D⟩;cases S with
     | no _=>rfl
     | yes H G=>
      rcases zu.mp hb' with rfl | hb'
      . have:=rZ ok j n k _ _ _ H (F k ⋯) og.tail (E k ⋯) D (fun x d=>hg x (mem_of_mem_tail d));cases this
      . exact ih _ _ G (fun x d=>F x (by simp[d])) (fun x d=>E x (by simp[d])) ⟨k,hb',D⟩
   exact go bs _ _ S C y ex
theorem Xc(xs:Ms Int):∀a:Ms Int,(a++xs).Nodup->xs.foldl (fun a k=>if a.any (· ==k)then a else a++[k]) a=a++xs:=by
 induction xs with
 | nil=>intro a _;rw[Ri];rfl
 | cons x xs ih=>
  intro a nd;have b:¬a.any (· ==x)=true:=by
   intro z;obtain⟨y,d,e⟩:=any_eq_true.mp z;have e:y=x:=by simpa using e
   subst e;rw[nodup_append]at nd;exact nd.2.2 y d y ⋯ rfl
  rw[foldl_cons,dG b,ih (a++[x]) (by rw[nu];exact nd),nu];rfl
theorem Yc{xs:Ms Int}(h:xs.Nodup):WB xs=xs:=by have:=Xc xs [] (by rw[Ui];exact h);rw[Ui]at this;exact this
theorem Fy{xs:Ms Int}{x:Int}(h:xs.Nodup)(m:x∈xs):WB (xs++[x])=xs:=by
 have e:WB (xs++[x])=if(WB xs).any (· ==x)then WB xs else WB xs++[x]:=by unfold WB;rw[foldl_append];rfl
 rw[e,Yc h,dh (any_eq_true.mpr ⟨x,m,by simp⟩)]
def JK(cs:Nat->Ni Nat)(P k:Nat):Ms Int:=(List.range (k+1)).map fun m=>((EB (nxt cs) m P:Nat):Int)
theorem zm(cs:Nat->Ni Nat)(P k:Nat):GC cs P k=(JK cs P k).map Dt.int:=by unfold GC JK;rw[map_map];rfl
theorem C8{a:Ms Bd}{e:Bd}(he:e∈AB a):ZD ((AB a).map QA) [(e.1:Int),(e.2.1:Int)]=ε (.int (OK a e.1 e.2.1)):=by
 unfold ZD;cases q:((AB a).map QA).find? fun p=>decide (p.1=[(e.1:Int),(e.2.1:Int)])with
 | none=>have:=find?_eq_none.mp q (QA e) (Ae.mpr ⟨e,he,rfl⟩);exact Ci (eO rfl) this
 | some p=>
  obtain⟨z,f,rfl⟩:=Ae.mp (za q);have k:=find?_some q;have k:(QA z).1=[(e.1:Int),(e.2.1:Int)]:=of_decide_eq_true k;unfold QA at k;simp![Le,and_true]at k;have d:z.1=e.1:=by omega
  have b:z.2.1=e.2.1:=by omega
  have w:=JQ f;rw[d,b]at w;rw[w];rfl
theorem Vh(F:Nat->Int)(k:Nat):((List.range (k+1)).map F).zip ((List.range (k+1)).map F).tail=(List.range k).map fun i=>(F i,F (i+1)):=by
 apply ext_getElem
 . simp
 . intro i b a;simp
theorem Wh{n:Nat}{d:Ms Bd}(u:∀e∈d,e.1<n/\e.2.1<n/\e.1≠e.2.1){cs:Nat->Ni Nat}{P k:Nat}(R:QH n (AB d) (OK d) cs P k):QF (JK cs P k) ((AB d).map QA)=true:=by
 have T:=nU u;have G:2<=k:=by
  rcases Nat.lt_or_ge k 2 with z | z
  . have r:k=1:=by have:=R.pos;omega
    have e:=(T.lt _ (R.edge 0 nofun).1).2.2;have b:=R.back;rw[r]at b;exact Ci b.symm e
  . exact z
 obtain⟨F,g⟩:∃F:Nat->Int,F=fun m=>((EB (nxt cs) m P:Nat):Int):=⟨_,rfl⟩
 have x:JK cs P k=(List.range (k+1)).map F:=by rw[g];rfl
 have q:F 0=F k:=by rw[g];show((P:Nat):Int)=((EB (nxt cs) k P:Nat):Int);rw[R.back]
 have o:(List.range (k+1)).map F=(List.range k).map F++[F k]:=by rw[Hu,Fe];rfl
 have nd:((List.range k).map F).Nodup:=by unfold List.Nodup;rw[pairwise_map];refine List.Pairwise.imp_of_mem ?_ pairwise_lt_range;intro a b H h lt e;have h:=Ai.mp h;rw[g]at e;have e:((EB (nxt cs) a P:Nat):Int)=((EB (nxt cs) b P:Nat):Int):=e;exact apart R.back R.first lt nofun (fun _=>h) nofun
 have mem:F k∈(List.range k).map F:=Ae.mpr ⟨0,Ai.mpr nofun,q⟩;have edge:∀i,i<k->ZD ((AB d).map QA) [F i,F (i+1)]=ε (.int (OK d (EB (nxt cs) i P) (EB (nxt cs) (i+1) P))):=fun i f=>by have:=C8 (R.edge i nofun).1;rw[g];exact this
 unfold QF;rw[x,Vh];have E:decide (3<=((List.range (k+1)).map F).length)=true:=eO (by simp;omega);have D:decide (((List.range (k+1)).map F).head?=((List.range (k+1)).map F).getLast?)=true:=by
  apply eO;rw[o,getLast?_concat,<- q];obtain⟨j,rfl⟩:∃j,k=j+1:=⟨k-1,by omega⟩
  rw[Ji];rfl
 have C:decide ((WB ((List.range (k+1)).map F)).length+1=((List.range (k+1)).map F).length)=true:=eO (by
  rw[o,Fy nd mem];simp)
 have B:(((List.range k).map fun i=>(F i,F (i+1))).all fun p=>(ZD ((AB d).map QA) [p.1,p.2]).isSome)=true:=by rw[all_eq_true];intro p s;obtain⟨i,f,rfl⟩:=Ae.mp s;rw[edge i (Ai.mp f)];rfl
 have y:(((List.range k).map fun i=>(F i,F (i+1))).map (wT ((AB d).map QA)))=(List.range k).map fun i=>OK d (EB (nxt cs) i P) (EB (nxt cs) (i+1) P):=by
  rw[map_map];refine map_congr_left fun i f=>?_
  show wT _ (F i,F (i+1))=_;unfold wT;rw[edge i (Ai.mp f)]
 rw[E,D,C,B,y,eO R.sum];rfl
mutual
noncomputable def ZC:Tr->rb
 | .Wu st=>.Wu st
 | .ring st a P k=>.ring st (JK a P k)
 | .one st bs=>.one st (lE bs)
 | .split st p bs=>.split st p (lE bs)
noncomputable def lE:Ms Tr->Ms rb
 | []=>[]
 | t::ts=>ZC t::lE ts
end
theorem gX:∀a:Ms Tr,(lE a).length=a.length
 | []=>by simp![lE,Ru]
 | t::a=>by simp![lE,Qu,gX a]
theorem GS{L:OA->Ms (Ms nC)->Nat->ri->Nat->Prop}{tag:Ni (Nat×Nat)}{st:Ms bQ}{m:Ms (Ms nC)}:∀(bs:Ms OA)(i:Nat)(d:Ms Tr)(g:Tr)(sp:Nat),uF L tag st m bs i d (.clash g) sp->
 ∃f,g=xQ tag st (d++f)/\Zu (fun b t=>∃j n,L b m j (.clash t) n) bs f
 | [],i,d,g,sp,h=>by
  obtain⟨e,_⟩:=h;injection e with e
  exact⟨[],by rw[Ri];exact e,.nil⟩
 | b::bs,i,d,g,sp,h=>by
  rcases h with⟨t,j,k,o⟩ | ⟨k,_⟩
  . obtain⟨f,e,a⟩:=GS bs j (d++[t]) g sp o;exact⟨t::f,by rw[e,nu];rfl,.cons ⟨_,_,k⟩ a⟩
  . exact Ci rfl k
theorem nX{c m:Nat}{ls:Ms Ln}(I:∀x∈ls,x.1<c):∀(n:Nat)(f:OA)(s:Ms (Ms nC))(made:Nat)(o:Tr)(sp:Nat),sD c m ls n f s made (.clash o) sp->∀(N:Nat)(v:Bool),Sh c ls N f s (ZC o) v->v=true
 | 0,_,_,_,_,_,h=>h.elim
 | n+1,f,s,made,o,sp,h=>by
  intro N v S;rcases h with⟨st,g,s0,em,e,_⟩ | ⟨st,g,EN,h⟩
  . injection e with e
    subst e;have bs:=xX s0;simp![ZC]at S;cases S with
    | no q=>have q:xC c f st=none:=q;rw[bs]at q;cases q
    | Wu q=>rw[bs]at q;cases q;exact em
    | loose D _ _=>exact Ci rfl D
    | odd i _ _ _ _=>exact i.elim
    | cut i _ _ _ _ _ _=>exact i.elim
  . obtain⟨g0,s0,O,ne,rfl⟩:=EN;have d:=xX s0;rcases h with⟨cs,P,k,R,e,_⟩ | ⟨t,ht,h⟩
    . injection e with e
      subst e;simp![ZC]at S;cases S with
      | no q=>have q:xC c f st=none:=q;rw[d]at q;cases q
      | loose D q z=>
       have q:xC c f st=ε _:=q;rw[d]at q;cases q;rcases z with z | z
       . rw[ne]at z;cases z
       . exact Ci O z
      | ring q _ _=>rw[d]at q;cases q;exact Wh (eU (tD c g0) I) R
      | odd i _ _ _ _=>exact i.elim
      | cut i _ _ _ _ _ _=>exact i.elim
    . rcases h with⟨_,e,_⟩ | ⟨u,bs,X,hs,h⟩
      . cases e
      . rcases h with⟨_,e,_⟩ | ⟨_,h⟩
        . cases e
        . obtain⟨trs,j,a⟩:=GS bs _ [] o sp h;rw[Ui]at j;have Y:bs.length=(lE trs).length:=by rw[gX];exact a.len
          have go:∀(bs:Ms OA)(trs:Ms Tr)(N:Nat)(v:Bool),Zu (fun b t=>∃G F,sD c m ls n b s.tail G (.clash t) F) bs trs->kN c ls N bs s.tail (lE trs) v->v=true:=by
           intro bs
           induction bs with
           | nil=>intro trs N v a S;cases a;simp![lE]at S;cases S;rfl
           | cons b bs ih=>
            intro trs N v a S;cases a with
            | @cons _ t _ U a1 a2=>
             simp![lE]at S;obtain⟨G,F,L⟩:=a1;cases S with
             | no H=>exact nX I n b _ G t F L N _ H
             | yes H W=>exact ih U N v a2 W
          have B:∀T:rb,T.st=st->T.kids=lE trs->MI T=u->T.wd≠("threes" :Str)->(∀E r,T≠.ring E r)->Sh c ls N f s T v->v=true:=by
           intro T C M J h4 Z S;cases S with
           | no q=>rw[C,d]at q;cases q
           | Wu q=>exact Ci rfl h4
           | loose D q z=>
            rw[C,d]at q;cases q;rcases z with z | z
            . rw[ne]at z;cases z
            . exact Ci O z
           | ring q _ _=>exact Ci rfl (Z _ _)
           | odd i q _ _ z=>rw[C,d]at q;cases q;rw[J,M]at z;exact Ci Y (z bs X hs)
           | cut i q _ _ y _ Q=>rw[C,d]at q;cases q;rw[J,hs]at y;cases y;rw[M]at Q;exact go bs trs _ v a Q
          cases u with
          | none=>have j:o=.one st trs:=j;subst j;simp![ZC]at S;exact B _ rfl rfl rfl (by show("one" :Str) ≠ "threes";decide) (fun _ _ z=>by cases z) S
          | some p=>have j:o=.split st p trs:=j;subst j;simp![ZC]at S;exact B _ rfl rfl rfl (by show("split" :Str) ≠ "threes";decide) (fun _ _ z=>by cases z) S
mutual
noncomputable def jG:Tr->Prop
 | .Wu _=>True
 | .ring _ _ _ k=>k<=100
 | .one _ bs=>mI bs
 | .split _ _ bs=>mI bs
noncomputable def mI:Ms Tr->Prop
 | []=>True
 | t::ts=>jG t/\mI ts
end
theorem CY{c m:Nat}{ls:Ms Ln}(B:c<=8):∀(n:Nat)(f:OA)(r:Ms (Ms nC))(made:Nat)(d:Tr)(sp:Nat),sD c m ls n f r made (.clash d) sp->jG d/\aD (ZC d)<=n
 | 0,_,_,_,_,_,h=>h.elim
 | n+1,f,r,made,d,sp,h=>by
  rcases h with⟨st,g,s0,J,e,_⟩ | ⟨st,g,O,h⟩
  . injection e with e
    subst e;simp![jG,ZC,aD];exact⟨trivial,by omega⟩
  . rcases h with⟨M,P,k,R,e,_⟩ | ⟨t,I,h⟩
    . injection e with e
      subst e;have:=R.le;simp![jG,ZC,aD];exact⟨by omega,by omega⟩
    . rcases h with⟨_,e,_⟩ | ⟨j,bs,H,hs,h⟩
      . cases e
      . rcases h with⟨_,e,_⟩ | ⟨_,h⟩
        . cases e
        . obtain⟨trs,i,a⟩:=GS bs _ [] d sp h;rw[Ui]at i;have go:∀(bs:Ms OA)(trs:Ms Tr),Zu (fun b t=>∃q o,sD c m ls n b r.tail q (.clash t) o) bs trs->mI trs/\mE (lE trs)<=n:=by
           intro bs
           induction bs with
           | nil=>intro trs a;cases a;simp![mI,lE,mE];exact⟨trivial,by omega⟩
           | cons b bs ih=>
            intro trs a;cases a with
            | @cons _ t _ y D C=>obtain⟨q,o,L⟩:=D;obtain⟨x,G⟩:=CY B n b _ q t o L;obtain⟨u,F⟩:=ih y C;simp![mI,lE,mE];exact⟨⟨x,u⟩,by omega⟩
          obtain⟨s,E⟩:=go bs trs a;cases j with
          | none=>have i:d=.one st trs:=i;subst i;simp![jG,ZC,aD];exact⟨s,by omega⟩
          | some p=>have i:d=.split st p trs:=i;subst i;simp![jG,ZC,aD];exact⟨s,by omega⟩
mutual
theorem HQ{lo:Nat}{h:HI}:∀(t:Tr){d:Dt},jG t->Yo lo h t d->ra h (ZC t) d
 | .Wu st,d,_,q=>by simp![Yo]at q;obtain⟨s,e,_,q⟩:=q;simp![ZC,ra];exact⟨_,e,XG q⟩
 | .ring st cs P k,d,sm,q=>by simp![Yo]at q;simp![jG]at sm;obtain⟨s,r,e,_,_,b,a⟩:=q;simp![ZC,ra];rw[zm]at a;exact⟨_,_,e,XG b,XG a,by unfold JK;simp;omega⟩
 | .one st bs,d,sm,q=>by simp![Yo]at q;simp![jG]at sm;obtain⟨s,r,ds,e,_,_,b,a,f⟩:=q;simp![ZC,ra];exact⟨_,_,ds,e,XG b,XG a,wV bs sm f⟩
 | .split st p bs,d,sm,q=>by simp![Yo]at q;simp![jG]at sm;obtain⟨s,r,ds,e,_,_,b,a,f⟩:=q;simp![ZC,ra];exact⟨_,_,ds,e,XG b,XG a,wV bs sm f⟩
theorem wV{lo:Nat}{h:HI}:∀(a:Ms Tr){ds:Ms Dt},mI a->Xo lo h a ds->Wi h (lE a) ds
 | [],ds,_,q=>by simp![Xo]at q;simp![lE,Wi];exact q
 | t::a,ds,sm,q=>by simp![Xo]at q;simp![mI]at sm;obtain⟨d,r,e,f,b⟩:=q;simp![lE,Wi];exact⟨d,r,e,HQ t sm.1 f,wV a sm.2 b⟩
end
theorem Aw{c:Nat}(n:c<=8){h:HI}{a:Nat}{fs:Ms qa}(F:rh c h a fs){t:rb}{d:Dt}(q:ra h t d)(dp:aD t<=12) :
 ∃v k,wO [.int (c:Nat),.ref a,d] h=ε (.bl v,k)/\qo h k/\Sh c (ED fs) 12 (DD vC fs) (LC fs) t v:=by
 obtain⟨ds,g,D⟩:=F.ds;have y:=D.len;have E:=F.len;have j:ds.length<sizeLine:=by rw[y];simp[sizeLine];omega
 obtain⟨b,p,s,B,e⟩:=NW (show c<=1000 by omega) g D F.ok;obtain⟨i,C,x⟩:=OW (e.get g) j (D.up e.l);have u:=AW (e.get g) j (D.up e.l);obtain⟨v,o,r,m,S⟩:=Xf n (show(ED fs).length<=100 by have:=WJ fs;omega) 12 (DD vC fs) (LC fs) t p b i d B (fJ fs F.ok _ (oP c)) C (kJ fs F.ok) F.sg (ra.up e.l t q) dp;refine⟨v,o,?_,e.l.trans m,S⟩;dsimp![wO,MS,Qs (f:=some),Uu (f:=some),Ri,qB,MA,EA,zA,Qo,s,x,u,r,wB]
theorem BM(ns:Ms Int)(k:Nat)(h:HI):VG [.lst (ns.map Dt.int),.int (k:Int)] h=ε (.int (ns[k]?.getD 0),h):=by
 simp[VG,KR];by_cases a:k<ns.length
 . simp[a]
 . simp[a]
theorem HP(c:Int){f p:Int}(g:0<=f)(a:f<2^64)(d:0<p)(h:HI):cJ [.int c,.int f,.int p] h=ε (.int (((c%1000000007+1)*f%p).toNat:Nat),h):=by have e:bz (c%1000000007+1) f:=Or.inr ⟨by omega,a⟩;have b:=Int.emod_nonneg ((c%1000000007+1)*f) (show p≠0 by omega);rw[Int.toNat_of_nonneg b];simp[cJ,uS,SF e,ME d,ME (show(0:Int)<1000000007 by decide)]
theorem UZ{o:Int×Int}(ok:IE o)(t:Int)(h:HI):wH [.int t,HE o] h=ε (.int (NC t o.1 o.2:Nat),h):=by
 have e:o.1<o.2:=ok;rcases bX t o.1 o.2 e with⟨y,w⟩ | ⟨y,w⟩ | ⟨y,g,w⟩ | ⟨y,w⟩ | ⟨y,w⟩<;>rw[w]
 . simp[wH,VI,HE,y]
 . simp[wH,VI,HE,y]
 . have d:¬t<o.1:=by omega
   have b:¬t=o.1:=by omega
   have a:¬o.2<=t:=by omega
   have f:¬o.2<t:=by omega
   simp[wH,VI,HE,d,b,a,f]
 . have d:¬t<o.1:=by omega
   have b:¬t=o.1:=by omega
   have a:o.2<=t:=by omega
   have f:¬o.2<t:=by omega
   simp[wH,VI,HE,d,b,a,f]
 . have d:¬t<o.1:=by omega
   have b:¬t=o.1:=by omega
   have a:o.2<=t:=by omega
   simp[wH,VI,HE,d,b,a,y]
theorem C5{z:Nat}(h:z<5):z=0\/z=1\/z=2\/z=3\/z=4:=by omega
theorem Jk{a b:Int×Int}(p:IE a)(d:IE b)(h:HI):WN [HE a,HE b] h=ε (.int (Yu a b:Nat),h):=by
 have g:=fun h=>UZ d a.1 h
 have f:=fun h=>UZ d a.2 h
 have e:=DP a.1 b.1 b.2;have n:=DP a.2 b.1 b.2;have w:Yu a b=LJ (NC a.1 b.1 b.2) (NC a.2 b.1 b.2):=Y1 _ e _ n (CO p d);rw[w];have j:∀k:HI,rA (HE a) (.int 0) k=ε (.int a.1,k):=fun _=>rfl
 have i:∀k:HI,rA (HE a) (.int 1) k=ε (.int a.2,k):=fun _=>rfl
 have ix:∀z,z<5->∀k:HI,rA (.lst [.int 0,.int 3,.int 6,.int 7,.int 8]) (.int (z:Nat)) k=ε (.int (([0,3,6,7,8].getD z 0:Nat):Int),k):=by intro z o k;rcases C5 o with rfl | rfl | rfl | rfl | rfl<;>rfl
 have m:5<=sizeLine:=by decide
 dsimp![WN,kR,Qs,Uu,Ve,Ui,Ri,qB,wA,JH,EA,zA,uA,MA,Qo,j,i,g,f,m,ix _ e,eF,wB];rfl
def cC(s:Nat->Int×Int)(c:Nat):Ms Dt:=(List.range c).map fun k=>HE (s k)
theorem jM{s:Nat->Int×Int}{c k:Nat}(a:k<c):(cC s c)[k]?=ε (HE (s k)):=by simp[cC,a]
theorem Zz(s:Nat->Int×Int)(k:Nat):cC s (k+1)=cC s k++[HE (s k)]:=by unfold cC;rw[Hu,Fe];rfl
noncomputable def cy(ns:Ms Int)(k:Nat):Nat:=(((ns[1+k]?.getD 0+(k:Int)*k)%1000000007+1)*742938285%2147483647).toNat
def aI(ns:Ms Int)(L:Int)(k:Nat):Int×Int:=(((cy ns k:Nat)%8-3)*L,((cy ns k:Nat)%8-3)*L+(1+(cy ns k:Nat)/8%5)*L)
theorem x9(ns:Ms Int){L:Int}(h:1<=L)(k:Nat):IE (aI ns L k):=by unfold IE aI;have:0<(1+(cy ns k:Int)/8%5)*L:=Int.mul_pos nofun nofun;simp only;omega
theorem Rx(ns:Ms Int){c:Nat}(X:c<=8)(h:HI):∃L:Int,1<=L/\nL [.lst (ns.map Dt.int),.int (c:Nat)] h=ε (.ref h.length,h++[.lst (cC (aI ns L) c)]):=by
 obtain⟨L,I,P⟩:∃L:Int,1<=L/\atI [Dt.int 1,.int 3,.int (10^15+7)] (ns[0]?.getD 0/3%3)=ε (.int L):=by
  rcases(show ns[0]?.getD (0:Int)/3%3=0\/ns[0]?.getD (0:Int)/3%3=1\/ns[0]?.getD (0:Int)/3%3=2 by omega)with z | z | z<;>rw[z]
  . exact⟨1,by decide,rfl⟩
  . exact⟨3,by decide,rfl⟩
  . exact⟨10^15+7,by decide,rfl⟩
 refine⟨L,I,?_⟩;have r:=fun h=>fG (h:=h) (show(-(2^62):Int)<=(c:Int) by omega) (show(c:Int)<2^62 by omega)
 simp![m6]at r;have F:=fun(i:Int) (h:HI)=>ME (h:=h) (i:=i) (show(0:Int)<8 by decide)
 have G:=fun(i:Int) (h:HI)=>ME (h:=h) (i:=i) (show(0:Int)<5 by decide)
 have H:=fun(i:Int) (h:HI)=>ME (h:=h) (i:=i) (show(0:Int)<3 by decide)
 have Q:=fun(i:Int) (h:HI)=>IG (h:=h) (i:=i) (j:=8) ⟨by decide,by decide⟩
 have R:=fun(i:Int) (h:HI)=>IG (h:=h) (i:=i) (j:=3) ⟨by decide,by decide⟩
 have u:=fun h=>BM ns 0 h
 simp![Hi]at u;have q:=fun(h:HI)=>cj (h:=h) (i:=10) (j:=15) ⟨by decide,by decide,by decide⟩
 simp![show(15:Int).toNat=15 from rfl]at q;obtain⟨U,n,e,⟨m,b,a,rfl⟩,rfl⟩:=bK (i:=4) (body:=LQ) (fun(k:Nat)=>Dt.int (k:Int)) (fun k l n=>(∃m b a,l=[ε (.lst (ns.map Dt.int)),ε (.int (c:Nat)),ε (.int L),ε (.ref h.length),m,b,a])/\n=h++[.lst (cC (aI ns L) k)]) c (by
  rintro k W l n ⟨⟨m,b,a,rfl⟩,rfl⟩;have S:=fun h=>BM ns (1+k) h
  have T:(1:Int)+(k:Int)=((1+k:Nat):Int):=by omega
  have D:=fun(h:HI)=>SF (h:=h) (i:=(k:Int)) (j:=(k:Int)) (Or.inl ⟨by omega,by omega⟩)
  have M:=fun(x:Int) (h:HI)=>HP x (f:=742938285) (p:=2147483647) (by decide) (by decide) (by decide) h
  have o:(((ns[1+k]?.getD 0+(k:Int)*(k:Int))%1000000007+1)*742938285%2147483647).toNat=cy ns k:=rfl;generalize cy ns k=N at o;have C:=fun(h:HI)=>SF (h:=h) (i:=(N:Int)%8-3) (j:=L) (Or.inl ⟨by omega,by omega⟩)
  have B:=fun(h:HI)=>SF (h:=h) (i:=1+(N:Int)/8%5) (j:=L) (Or.inl ⟨by omega,by omega⟩)
  have s:(h++[Ob.lst (cC (aI ns L) k)])[h.length]?=ε (.lst (cC (aI ns L) k)):=by simp
  have O:cy ns k=N:=o;have E:HE (aI ns L k)=.tup [.int (((N:Int)%8-3)*L),.int (((N:Int)%8-3)*L+(1+(N:Int)/8%5)*L)]:=by unfold HE aI;rw[O]
  refine⟨.nx [ε (.lst (ns.map Dt.int)),ε (.int (c:Nat)),ε (.int L),ε (.ref h.length),ε (.int (k:Nat)),ε (.int (N:Nat)),ε (.int (((N:Int)%8-3)*L))] (h++[.lst (cC (aI ns L) (k+1))]),?_,⟨_,_,_,rfl⟩,rfl⟩;have y:=qF (l:=[ε (.lst (ns.map Dt.int)),ε (.int (c:Nat)),ε (.int L),ε (.ref h.length),ε (.int (k:Nat)),ε (.int (N:Nat)),ε (.int (((N:Int)%8-3)*L))]) (h:=h++[Ob.lst (cC (aI ns L) k)]) (g:=UA (bA (eV 6) (bA (e2 MB (eV 6) (e2 JC (e2 MB (ro 1) (e2 aC (e2 VE (eV 5) (ro 8)) (ro 5))) (eV 2))) (eA)))) (d:=HE (aI ns L k)) s (by rw[E];simp[Q,G,B]) s (by simp[cC];omega);have J:(h++[Ob.lst (cC (aI ns L) k)]).set h.length (.lst (cC (aI ns L) k++[HE (aI ns L k)]))=h++[.lst (cC (aI ns L) (k+1))]:=by rw[Zz];simp
  rw[J]at y;simp![LQ,XA,GB,MA,EA,zA,wA,gA,uA,Us,Ua,Qa,Qo,iA,fA,eF,T,S,D,Ri,M,o,fB,F,QP,C,cE,ZE,y]) [ε (.lst (ns.map Dt.int)),ε (.int (c:Nat)),ε (.int L),ε (.ref h.length),none,none,none] (h++[.lst []]) ⟨⟨_,_,_,rfl⟩,by simp[cC]⟩
 dsimp![nL,QQ,Qs,Uu,Ve,Ui,Ri,XA,GB,wA,JH,EA,zA,uA,MA,Qo,q,eF,Nat.reduceLeDiff,u,R,H,vI,P,Ro,Us,Ua,fB,KH,gK,mq,WD,IK,r,ZF,e,qB,wB]
theorem D8{c:Nat}(b:2<=c)(n k:Nat):∃i j:Nat,i<c/\j<c/\i≠j/\((n:Int)%(c:Int))=(i:Int)/\((i:Int)+1+(n:Int)/(k:Int)%((c:Int)-1))%(c:Int)=(j:Int):=by
 refine⟨n%c,(n%c+1+n/k%(c-1))%c,Iu _ nofun,Iu _ nofun,?_,by simp,?_⟩
 . have t:n/k%(c-1)<c-1:=Iu _ nofun;have a:n%c<c:=Iu _ nofun;generalize n/k%(c-1)=q at t;generalize n%c=i at a;by_cases w:i+1+q<c
   . rw[Nat.mod_eq_of_lt w];omega
   . rw[Nat.mod_eq_sub_mod nofun,Nat.mod_eq_of_lt nofun];omega
 . rw[show(c:Int)-1=((c-1:Nat):Int) by omega];simp
theorem F3{a b:Nat}(e:a<8192)(d:b<8192):a|||b<8192:=Nat.or_lt_two_pow (n:=13) e d
theorem VP{k:Nat}(h:k<13):2^k<8192:=Nat.pow_lt_pow_right (by decide) h (m:=k) (n:=13)
theorem Zd(N:Nat):∃m,m<8192/\∀h,HL [.int (N:Nat)] h=ε (.int (m:Nat),h):=by
 have M:=fun(i:Int) (h:HI)=>IG (h:=h) (i:=i) (j:=8192) ⟨by decide,by decide⟩
 have O:=fun(i:Int) (h:HI)=>IG (h:=h) (i:=i) (j:=67108864) ⟨by decide,by decide⟩
 have g:=fun(x:Int) (h:HI)=>ME (h:=h) (i:=x) (show(0:Int)<13 by decide)
 have I:=fun(x:Int) (h:HI)=>ME (h:=h) (i:=x) (show(0:Int)<8192 by decide)
 have J:=fun(x:Int) (h:HI)=>ME (h:=h) (i:=x) (show(0:Int)<4 by decide)
 have G:(N:Int)%8192=((N%8192:Nat):Int):=rfl;have F:(N:Int)/8192%8192=((N/8192%8192:Nat):Int):=rfl;have E:(N:Int)/67108864%4=((N/67108864%4:Nat):Int):=rfl;have y:N%8192<8192:=Iu _ (by decide);have Q:N/8192%8192<8192:=Iu _ (by decide);have P:N/67108864%4<4:=Iu _ (by decide);generalize N%8192=u at G y;generalize N/8192%8192=v at F Q;generalize N/67108864%4=w at E P;have r:(u:Int)%13=((u%13:Nat):Int):=rfl;have B:(v:Int)%13=((v%13:Nat):Int):=rfl;have o:u%13<13:=Iu _ (by decide);have s:v%13<13:=Iu _ (by decide);generalize u%13=p at r o;generalize v%13=q at B s;have C:=fun h=>QM (h:=h) (UK o)
 have H:=fun h=>QM (h:=h) (UK s)
 have D:∀w:Nat,(1:Int)*2^w=((2^w:Nat):Int):=fun w=>by simp
 have L:∀h,∃l:LI,HL [.int (N:Nat)] h=uD (lA (SC (qh (e2 RB (eV 3) (ro 0))) (AA (e2 WF (ro 1) (e2 aC (eV 1) (ro 13)))) jB) (lA (SC (qh (e2 RB (eV 3) (ro 1))) (AA (e2 FJ (e2 WF (ro 1) (e2 aC (eV 1) (ro 13))) (e2 WF (ro 1) (e2 aC (eV 2) (ro 13))))) jB) (lA (SC (qh (e2 RB (eV 3) (ro 2))) (AA (e2 LH (eV 1) (eV 2))) jB) (AA (eV 1)))) l h)/\l[1]?=ε (ε (.int (u:Nat)))/\l[2]?=ε (ε (.int (v:Nat)))/\l[3]?=ε (ε (.int (w:Nat))):=fun h=>by refine⟨[ε (.int (N:Nat)),ε (.int (u:Nat)),ε (.int (v:Nat)),ε (.int (w:Nat))],?_,rfl,rfl,rfl⟩;simp![HL,MR,pB,Qu,Ru,eG,Qs,Uu,Nat.reduceAdd,Nat.reduceSub,List.replicate,Ve,Ui];simp![XA,GB,wA,gA,uA,Us,Ua,Qa,iA,fA,I,G,M,F,O,J,E,fB]
 have b:∀(l:LI)(h:HI)(k:Int),l[3]?=ε (ε (.int (w:Nat)))->qh (e2 RB (eV 3) (eC (.int k))) l h=ε (decide ((w:Int)=k),h):=fun l h k e=>by simp![NA,wA,gA,uA,e,iA,fA,XF,VA]
 rcases(show w=0\/w=1\/w=2\/w=3 by omega)with rfl | rfl | rfl | rfl
 . refine⟨2^p,VP o,fun h=>?_⟩;obtain⟨l,e,f,n,a⟩:=L h;rw[e,oE (b l h 0 a) (d:=.int ((2^p:Nat):Int)) (h2:=h) (by simp![wA,gA,uA,f,iA,fA,g,r,C,m6,D])]
 . refine⟨2^p|||2^q,F3 (VP o) (VP s),fun h=>?_⟩;obtain⟨l,e,f,n,a⟩:=L h;rw[e,dE (b l h 0 a),oE (b l h 1 a) (d:=.int ((2^p|||2^q:Nat):Int)) (h2:=h) (by simp![wA,gA,uA,f,n,iA,fA,g,r,B,C,H,m6,D,o3,gP])]
 . refine⟨u&&&v,Ca Nat.and_le_left y,fun h=>?_⟩;obtain⟨l,e,f,n,a⟩:=L h;rw[e,dE (b l h 0 a),dE (b l h 1 a),oE (b l h 2 a) (d:=.int ((u&&&v:Nat):Int)) (h2:=h) (by simp![wA,gA,f,n,iA,fA,FM,iK])]
 . refine⟨u,y,fun h=>?_⟩;obtain⟨l,e,f,n,a⟩:=L h;rw[e,dE (b l h 0 a),dE (b l h 1 a),dE (b l h 2 a),mP (d:=.int (u:Nat)) (h1:=h) (by simp![gA,f,iA])]
theorem LU{c:Nat}(n:2<=c)(x:Int):∃m,AE c m/\∀h,gI [.int x,.int (c:Nat)] h=ε (yA m,h):=by
 have b:=fun h=>HP x (f:=950706376) (p:=2147483399) (by decide) (by decide) (by decide) h
 have a:=fun h=>HP x (f:=742938285) (p:=2147483647) (by decide) (by decide) (by decide) h
 generalize ((x%1000000007+1)*950706376%2147483399).toNat=N at b;generalize ((x%1000000007+1)*742938285%2147483647).toNat=K at a;obtain⟨i,j,s,r,k,y,d⟩:=D8 n N 8;simp![Hi]at d;obtain⟨m,q,u⟩:=Zd K;have o:=fun(x:Int) (h:HI)=>ME (h:=h) (i:=x) (show(0:Int)<(c:Int) by omega)
 have g:=fun(x:Int) (h:HI)=>ME (h:=h) (i:=x) (show(0:Int)<(c:Int)-1 by omega)
 have B:=fun(i:Int) (h:HI)=>IG (h:=h) (i:=i) (j:=8) ⟨by decide,by decide⟩
 have e:4<=sizeLine:=by decide
 refine⟨(i,m,j),⟨s,r,k,q⟩,fun h=>?_⟩;dsimp![gI,PR,Qs,Uu,Ve,Ui,XA,GB,wA,uA,MA,EA,zA,Ri,Qo,b,Us,Ua,fB,o,y,eF,QP,B,g,d,a,u,qB,yE,e,wB];rfl
theorem Wg(m b:Nat):m|||(m&&&b)=m:=Hs fun i=>by rw[Nat.testBit_or,wu];cases m.testBit i<;>simp
theorem Qz(m b:Nat):m&&&(m&&&b)=m&&&b:=Hs fun i=>by rw[wu,wu];cases m.testBit i<;>simp
theorem Jc{m w:Nat}(b:m<8192):∃x:Nat,(m:Int)-((m&&&2^w:Nat):Int)=(x:Int)/\x<8192/\x.testBit w=false:=by
 have l:m&&&2^w<=m:=Nat.and_le_left;refine⟨m-(m&&&2^w),by omega,by omega,?_⟩;cases z:m.testBit w with
 | false=>
  have e:m&&&2^w=0:=Hs fun i=>by
   rw[wu,Nat.testBit_two_pow,Nat.zero_testBit];by_cases q:w=i
   . rw[<- q,z];rfl
   . rw[eN q,Ge]
  rw[e,Nat.sub_zero,z]
 | true=>
  have e:m&&&2^w=2^w:=Hs fun i=>by
   rw[wu,Nat.testBit_two_pow];by_cases q:w=i
   . rw[<- q,z,Fi]
   . rw[eN q,Ge]
  have le:=Nat.ge_two_pow_of_testBit z;rw[e];cases y:(m-2^w).testBit w with
  | false=>rfl
  | true=>have a:=Nat.testBit_two_pow_add_eq (m-2^w) w;rw[show 2^w+(m-2^w)=m by omega,z,y]at a;cases a
theorem MU{s:Nat->Int×Int}{c:Nat}(ok:∀i,IE (s i)){m:nC}(I:AE c m)(o:Bool):∃p,AE c p/\sJ s p=o/\∀h a,h[a]?=ε (.lst (cC s c))->yG [yA m,.ref a,.bl o] h=ε (yA p,h):=by
 obtain⟨i,k,j⟩:=m;obtain⟨n,g,b,q⟩:=I;simp only at n g b q;have hw:=YG (ok i) (ok j);have D:=fun h=>Jk (ok i) (ok j) h
 obtain⟨x,H,G,F⟩:=Jc (w:=Yu (s i) (s j)) q;have r:=fun h=>QM (h:=h) (UK hw)
 have E:Builtin.bitXor (k:Int) ((k&&&2^Yu (s i) (s j):Nat):Int)=(x:Int):=by rw[Pk,Wg,Qz];exact H
 have u:(1:Int)*2^Yu (s i) (s j)=((2^Yu (s i) (s j):Nat):Int):=by simp
 have d:4<=sizeLine:=by decide
 have C:∀h:HI,rA (yA (i,k,j)) (.int 1) h=ε (.int (i:Nat),h):=fun _=>rfl
 have B:∀h:HI,rA (yA (i,k,j)) (.int 2) h=ε (.int (k:Nat),h):=fun _=>rfl
 have y:∀h:HI,rA (yA (i,k,j)) (.int 3) h=ε (.int (j:Nat),h):=fun _=>rfl
 cases o with
 | true=>refine⟨(i,k|||2^Yu (s i) (s j),j),⟨n,g,b,F3 q (VP hw)⟩,by unfold sJ;rw[Nat.testBit_or,Nat.testBit_two_pow_self,Bool.or_true],fun h a da=>?_⟩;have f:=FE da (i:Int);rw[SM.lD,jM n,Ro]at f;have e:=FE da (j:Int);rw[SM.lD,jM g,Ro]at e;dsimp![yG,cO,Qs,Uu,Ve,Ui,Ri,XA,GB,wA,uA,MA,EA,zA,Qo,C,B,y,f,e,D,r,m6,u,Us,Ua,fB,OB,NA,VA,qB,yE,o3,gP,d,RF,wB];rfl
 | false=>refine⟨(i,x,j),⟨n,g,b,G⟩,F,fun h a da=>?_⟩;have f:=FE da (i:Int);rw[SM.lD,jM n,Ro]at f;have e:=FE da (j:Int);rw[SM.lD,jM g,Ro]at e;dsimp![yG,cO,Qs,Uu,Ve,Ui,Ri,XA,GB,wA,uA,MA,EA,zA,Qo,C,B,y,f,e,D,r,m6,u,Us,Ua,fB,OB,NA,VA,Vs,eH,QE,qB,yE,FM,iK,fj,E,d,wB];rfl
def ck(lo:Nat)(h:HI)(d:Dt):qa->Prop
 | .one g=>∃n,d=.tup [.str "one", .ref n]/\lo<=n/\h[n]?=ε (.lst (g.map yA))/\g.length<=6
 | f=>ab h d f
theorem ck.at{lo:Nat}{h:HI}{d:Dt}{f:qa}(q:ck lo h d f):ab h d f:=by
 cases f with
 | one g=>obtain⟨n,e,_,q,_⟩:=q;exact⟨_,e,n,rfl,q⟩
 | ways m=>exact q
 | long x=>exact q
theorem ck.up{lo a:Nat}(b:a<=lo){h h':HI}(u:MV lo h h'){d:Dt}{f:qa}(q:ck lo h d f):ck a h' d f:=by
 cases f with
 | one g=>obtain⟨n,e,l,q,s⟩:=q;exact⟨n,e,by omega,u _ _ l q,s⟩
 | ways m=>exact q
 | long x=>exact q
inductive am(lo:Nat)(h:HI):List Dt->List qa->Prop where
 | nil:am lo h [] []
 | cons {d:Dt} {f:qa} {ds:List Dt} {fs:List qa} (a:ck lo h d f) (r:am lo h ds fs):am lo h (d::ds) (f::fs)
theorem am.up{lo b:Nat}(d:b<=lo){h h':HI}(u:MV lo h h'){ds:Ms Dt}{fs:Ms qa}(q:am lo h ds fs):am b h' ds fs:=by
 induction q with
 | nil=>exact .nil
 | cons a r ih=>exact .cons (a.up d u) ih
theorem am.at{lo:Nat}{h:HI}{ds:Ms Dt}{fs:Ms qa}(q:am lo h ds fs):Yi h ds fs:=by
 induction q with
 | nil=>exact .nil
 | cons a r ih=>exact .cons a.at ih
theorem am.snoc{lo:Nat}{h:HI}{ds:Ms Dt}{fs:Ms qa}(q:am lo h ds fs){d:Dt}{f:qa}(a:ck lo h d f):am lo h (ds++[d]) (fs++[f]):=by
 induction q with
 | nil=>exact .cons a .nil
 | cons b r ih=>exact .cons b ih
def zK(c:Nat)(s:Nat->Int×Int):qa->Prop
 | .ways m=>AE c m/\sJ s m=true
 | .long x=>iQ c s x
 | .one g=>(∀m∈g,AE c m)/\FP s g/\g.length<=6
theorem Vf {s:Nat->Int×Int} {c:Nat} (ok:∀i,IE (s i)) (r:2<=c) (x:Int) (N:Nat):∃g,(∀m∈g,AE c m)/\FP s g/\g.length<=6/\∀h a,h[a]?=ε (.lst (cC s c))->vL [.int x,.int (N:Nat),.ref a] h=ε (.tup [.str "one", .ref h.length],h++[.lst (g.map yA)]):=by
 have G:1+(N:Int)/6%3=((1+N/6%3:Nat):Int):=rfl;have S:1<=1+N/6%3:=by omega
 have F:1+N/6%3<=6:=by omega
 generalize 1+N/6%3=t at G S F;have n:(N:Int)/18%(t:Int)=((N/18%t:Nat):Int):=rfl;have L:N/18%t<t:=Iu _ nofun;generalize N/18%t=ch at n L;have mem:∀k:Nat,∃m,AE c m/\sJ s m=decide (k=ch)/\∃w,(∀h,gI [.int (x+1009*(k:Int)*(k:Int)),.int (c:Nat)] h=ε (yA w,h))/\∀h a,h[a]?=ε (.lst (cC s c))->yG [yA w,.ref a,.bl (decide (k=ch))] h=ε (yA m,h):=fun k=>by obtain⟨w,P,C⟩:=LU r (x+1009*(k:Int)*(k:Int));obtain⟨m,a,b,e⟩:=MU ok P (decide (k=ch));exact⟨m,a,b,w,C,e⟩
 obtain⟨M,u⟩:=Classical.axiomOfChoice mem;refine⟨(List.range t).map M,fun m f=>?_,⟨ch,by simpa using L,fun i m f=>?_⟩,by simpa using F,fun h a da=>?_⟩
 . obtain⟨k,_,rfl⟩:=Ae.mp f;exact(u k).1
 . rw[qu]at f;by_cases z:i<t
   . rw[Ls z]at f;simp at f;subst f;exact(u i).2.1
   . rw[jj (by simpa using z)]at f;cases f
 . have E:=(Uo da).1;have I:=fun h=>fG (h:=h) (show(-(2^62):Int)<=(t:Int) by omega) (show(t:Int)<2^62 by omega)
   simp![m6]at I;have W:=fun(x:Int) (h:HI)=>ME (h:=h) (i:=x) (show(0:Int)<3 by decide)
   have U:=fun(x:Int) (h:HI)=>ME (h:=h) (i:=x) (show(0:Int)<(t:Int) by omega)
   have d6:=fun(i:Int) (h:HI)=>IG (h:=h) (i:=i) (j:=6) ⟨by decide,by decide⟩
   have D:=fun(i:Int) (h:HI)=>IG (h:=h) (i:=i) (j:=18) ⟨by decide,by decide⟩
   have T:(cC s c).length=c:=by simp[cC]
   obtain⟨l',y,e,⟨q,p,rfl⟩,rfl⟩:=bK (i:=5) (body:=qR) (fun(k:Nat)=>Dt.int (k:Int)) (fun k l y=>(∃q p,l=[ε (.int x),ε (.int (N:Nat)),ε (.ref a),ε (.int (t:Nat)),ε (.ref h.length),q,p])/\y=h++[.lst (((List.range k).map M).map yA)]) t (by
    rintro k X l y ⟨⟨q,p,rfl⟩,rfl⟩;obtain⟨_,_,w,hw,C⟩:=u k;have R:=fun(h:HI)=>SF (h:=h) (i:=1009) (j:=(k:Int)) (Or.inl ⟨by decide,by decide⟩)
    have Q:=fun(h:HI)=>SF (h:=h) (i:=1009*(k:Int)) (j:=(k:Int)) (Or.inl ⟨by omega,by omega⟩)
    have Z:decide (((k:Nat):Int)=(ch:Int))=decide (k=ch):=by
     by_cases z:k=ch
     . rw[eO z,eO nofun]
     . rw[eN z,eN nofun]
    have o:(h++[Ob.lst (((List.range k).map M).map yA)])[a]?=ε (.lst (cC s c)):=by rw[Vo E];exact da
    have B:=C (h++[.lst (((List.range k).map M).map yA)]) a o;have H:=EH o;rw[T]at H;have J:(h++[Ob.lst (((List.range k).map M).map yA)])[h.length]?=ε (.lst (((List.range k).map M).map yA)):=by simp
    have O:=qF (l:=[ε (.int x),ε (.int (N:Nat)),ε (.ref a),ε (.int (t:Nat)),ε (.ref h.length),ε (.int (k:Nat)),ε (yA w)]) (h:=h++[.lst (((List.range k).map M).map yA)]) (g:=qA yG [] (bA (eV 6) (bA (eV 2) (bA (e2 RB (eV 5) (e2 aC (e2 VE (eV 1) (ro 18)) (eV 3))) eA)))) (d:=yA (M k)) J (by
     simp![MA,EA,zA,wA,uA,gA,Qa,Qo,iA,fA,D,U,n,XF,Z,Ri,B]) J (by simp[sizeLine];omega)
    have Y:(h++[Ob.lst (((List.range k).map M).map yA)]).set h.length (.lst (((List.range k).map M).map yA++[yA (M k)]))=h++[.lst (((List.range (k+1)).map M).map yA)]:=by rw[Hu,Fe,Fe];simp
    rw[Y]at O;refine⟨.nx [ε (.int x),ε (.int (N:Nat)),ε (.ref a),ε (.int (t:Nat)),ε (.ref h.length),ε (.int (k:Nat)),ε (yA w)] (h++[.lst (((List.range (k+1)).map M).map yA)]),?_,⟨_,_,rfl⟩,rfl⟩;simp![qR,XA,GB,MA,EA,zA,wA,uA,dC,gA,Us,Ua,Qa,Qo,iA,fA,R,Q,eF,H,Ri,hw,fB,cE,ZE,O]) [ε (.int x),ε (.int (N:Nat)),ε (.ref a),ε (.int (t:Nat)),ε (.ref h.length),none,none] (h++[.lst []]) ⟨⟨_,_,rfl⟩,rfl⟩
   dsimp![vL,xR,Qs,Uu,Ve,Ui,XA,GB,wA,uA,zA,EA,Qo,d6,W,eF,G,Us,Ua,fB,KH,mq,WD,IK,I,ZF,e,qB,yE,fN,wB]
theorem Xd {s:Nat->Int×Int} {c:Nat} (ok:∀i,IE (s i)) (E:1<=c) (M:c<=100) (N:Nat):∃x:Ln,iQ c s x/\∀h a,h[a]?=ε (.lst (cC s c))->GL [.int (N:Nat),.ref a] h=ε (.tup [.str "long", .int (x.1:Nat),.int x.2.1,.int x.2.2],h):=by
 have e:N/6%c<c:=Iu _ nofun;have r:(N:Int)/6%(c:Int)=((N/6%c:Nat):Int):=rfl;generalize N/6%c=i at e r;have L:0<=(N:Int)/24%2:=Int.emod_nonneg _ (by decide);have J:0<=(N:Int)/48%2:=Int.emod_nonneg _ (by decide);have sz:=ok i;unfold IE at sz;have p:(0:Int)<2*(c:Int)+1:=by omega
 have n:((s i).2-(s i).1)/(2*(c:Int)+1)*(2*(c:Int)+1)<=(s i).2-(s i).1:=Int.ediv_mul_le _ nofun;have m:(s i).2-(s i).1<((s i).2-(s i).1)/(2*(c:Int)+1)*(2*(c:Int)+1)+(2*(c:Int)+1):=Int.lt_ediv_add_one_mul_self _ p |>fun h=>by rw[Int.add_mul,Int.one_mul]at h;exact h
 have B:0<=((s i).2-(s i).1)/(2*(c:Int)+1):=Int.ediv_nonneg nofun nofun;generalize b:((s i).2-(s i).1)/(2*(c:Int)+1)=lo at n m B;have k:((2*c+1:Nat):Int)=2*(c:Int)+1:=by omega
 generalize F:2*(c:Int)+1=G at p n m k b;refine⟨(i,max 0 (lo-(N:Int)/24%2),lo+1+(N:Int)/48%2),⟨e,?_,?_⟩,fun h a da=>?_⟩
 . rw[k];show max 0 (lo-(N:Int)/24%2)*G<=(s i).2-(s i).1;have:max 0 (lo-(N:Int)/24%2)*G<=lo*G:=Int.mul_le_mul_of_nonneg_right nofun nofun;omega
 . rw[k];show(s i).2-(s i).1<=(lo+1+(N:Int)/48%2)*G;have:(lo+1)*G<=(lo+1+(N:Int)/48%2)*G:=Int.mul_le_mul_of_nonneg_right nofun nofun;rw[Int.add_mul lo,Int.one_mul]at this;omega
 . have C:=fun(x:Int) (h:HI)=>ME (h:=h) (i:=x) (show(0:Int)<(c:Int) by omega)
   have D:=fun(i:Int) (h:HI)=>ME (h:=h) (i:=i) (show(0:Int)<2 by decide)
   have I:=fun(i:Int) (h:HI)=>IG (h:=h) (i:=i) (j:=6) ⟨by decide,by decide⟩
   have g:=fun(i:Int) (h:HI)=>IG (h:=h) (i:=i) (j:=24) ⟨by decide,by decide⟩
   have f:=fun(i:Int) (h:HI)=>IG (h:=h) (i:=i) (j:=48) ⟨by decide,by decide⟩
   have H:=fun(i:Int) (h:HI)=>IG (h:=h) (i:=i) (j:=G) ⟨by omega,by omega⟩
   have u:=fun(h:HI)=>SF (h:=h) (i:=2) (j:=(c:Int)) (Or.inl ⟨by decide,by decide⟩)
   have y:(cC s c).length=c:=by simp[cC]
   have o:=FE da (i:Int);rw[SM.lD,jM e,Ro]at o;have q:=EH da;rw[y]at q;have d:4<=sizeLine:=by decide
   dsimp![GL,LR,Qs,Uu,Ve,Ui,XA,GB,wA,uA,dC,DQ,EA,zA,Qo,q,I,C,r,Us,Ua,fB,u,eF,F,o,HE,bC,FC,tF,Ro,QP,H,b,g,D,O7,f,qB,yE,d,wB]
theorem Hw{s:Nat->Int×Int}{c:Nat}(ok:∀i,IE (s i))(E:2<=c)(Z:c<=100)(x:Int)(b:Nat):∃f,∃u:Nat,zK c s f/\((LC [f]).length+b=u/\(b<=2->u<=2))/\∀(h:HI)(a r:Nat)(ds:Ms Dt)(m I:Ni Dt),h[a]?=ε (.lst (cC s c))->h[r]?=ε (.lst ds)->ds.length<=1000->
 ∃d e L,UI [m,ε (.ref a),ε (.ref r),ε (.int (b:Nat)),ε (.int x),I] h=ε (.nx [m,ε (.ref a),ε (.ref r),ε (.int (u:Nat)),ε (.int x),L] ((h++e).set r (.lst (ds++[d]))))/\ck h.length (h++e) d f:=by
 have J:=fun h=>HP x (f:=62089911) (p:=2147483587) (by decide) (by decide) (by decide) h
 generalize ((x%1000000007+1)*62089911%2147483587).toNat=N at J;have C:=fun(x:Int) (h:HI)=>ME (h:=h) (i:=x) (show(0:Int)<6 by decide)
 generalize D:(N:Int)%6=kd;have n:∀ds:Ms Dt,ds.length<=1000->ds.length<sizeLine:=fun ds h=>by simp[sizeLine];omega
 by_cases H:kd=0/\b<2
 . obtain⟨g,g1,g2,R,eg⟩:=Vf ok E x N;refine⟨.one g,b+1,⟨g1,g2,R⟩,⟨by simp[LC];omega,fun _=>H.2⟩,fun h a r ds m I da j F=>⟨.tup [.str "one", .ref h.length],[.lst (g.map yA)],ε (.int (N:Nat)),?_,h.length,rfl,Ra _,by simp,R⟩⟩;have B:decide (kd=0)=true:=eO H.1;have o:decide (((b:Nat):Int)<2)=true:=eO (by have:=H.2;omega);have gp:((b:Nat):Int)+1=((b+1:Nat):Int):=by omega
   have W:=(Uo j).1;have G:=qF (l:=[m,ε (.ref a),ε (.ref r),ε (.int ((b+1:Nat):Int)),ε (.int x),ε (.int (N:Nat))]) (h:=h) (h':=h++[.lst (g.map yA)]) (g:=qA vL [] (bA (eV 4) (bA (eV 5) (bA (eV 1) eA)))) (d:=.tup [.str "one", .ref h.length]) j (by
    simp![MA,EA,zA,gA,Qa,Qo,iA,fA,Ri,eg h a da]) (by rw[Vo W];exact j) (n ds F)
   simp![UI,XA,GB,MA,EA,zA,wA,gA,uA,Us,Ua,Qa,Qo,iA,fA,Ri,J,fB,C,D,OB,hV,NA,XF,B,wN,o,VA,eG,eF,gp,cE,ZE,G]
 . have first:∀(k:Bool×HI->Ni Rs)(l:LI)(h:HI),l[5]?=ε (ε (.int (N:Nat)))->l[3]?=ε (ε (.int (b:Nat)))->cB (CP (qh (e2 RB (e2 aC (eV 5) (ro 6)) (ro 0))) (qh (e2 GJ (eV 3) (ro 2))) l h) k=k (false,h):=by
    intro k l h P Q;by_cases q:kd=0
    . have o:decide (((b:Nat):Int)<2)=false:=eN (fun z=>H ⟨q,by omega⟩);have B:decide (kd=0)=true:=eO q;simp![hV,NA,wA,gA,P,Q,iA,fA,uA,C,D,XF,B,VA,eG,wN,o]
    . have B:decide (kd=0)=false:=eN q;simp![hV,NA,wA,gA,P,Q,iA,fA,uA,C,D,XF,B,VA,Vs,eH]
   by_cases O:kd=1
   . obtain⟨y,T,ey⟩:=Xd ok (show 1<=c by omega) Z N;refine⟨.long y,b,T,⟨by simp[LC],fun q=>q⟩,fun h a r ds m I da j F=>⟨.tup [.str "long", .int (y.1:Nat),.int y.2.1,.int y.2.2],[],ε (.int (N:Nat)),?_,rfl⟩⟩;have o:decide (kd=1)=true:=eO O;have G:=qF (l:=[m,ε (.ref a),ε (.ref r),ε (.int (b:Nat)),ε (.int x),ε (.int (N:Nat))]) (h:=h) (h':=h) (g:=qA GL [] (bA (eV 5) (bA (eV 1) eA))) (d:=.tup [.str "long", .int (y.1:Nat),.int y.2.1,.int y.2.2]) j (by
      simp![MA,EA,zA,gA,Qa,Qo,iA,fA,Ri,ey h a da]) j (n ds F)
     simp![UI,XA,GB,MA,EA,zA,wA,gA,uA,Us,Ua,Qa,Qo,iA,fA,Ri,J,fB];rw[OB,first _ _ _ rfl rfl];simp![Vs,eH,OB,NA,wA,gA,uA,Qa,Qo,iA,fA,C,D,XF,o,VA,eG,cE,ZE,G]
   . obtain⟨w,U,ew⟩:=LU E x;obtain⟨M,Y,X,ei⟩:=MU ok U true;refine⟨.ways M,b,⟨Y,X⟩,⟨by simp[LC],fun q=>q⟩,fun h a r ds m I da j F=>⟨yA M,[],ε (.int (N:Nat)),?_,rfl⟩⟩;have o:decide (kd=1)=false:=eN O;have S:=EH da;rw[show(cC s c).length=c by simp[cC]]at S;have G:=qF (l:=[m,ε (.ref a),ε (.ref r),ε (.int (b:Nat)),ε (.int x),ε (.int (N:Nat))]) (h:=h) (h':=h) (g:=qA yG [] (bA (qA gI [] (bA (eV 4) (bA (YB QB (eV 1)) eA))) (bA (eV 1) (bA (eC (.bl true)) eA)))) (d:=yA M) j (by
      simp![MA,EA,zA,uA,gA,dC,Qa,Qo,iA,fA,Ri,S,ew,ei h a da]) j (n ds F)
     simp![UI,XA,GB,MA,EA,zA,wA,gA,uA,Us,Ua,Qa,Qo,iA,fA,Ri,J,fB];rw[OB,first _ _ _ rfl rfl];simp![Vs,eH,OB,NA,wA,gA,uA,Qa,Qo,iA,fA,C,D,XF,o,VA,cE,ZE,G]
def Km(r:Nat)(h h':HI):Prop:=h.length<=h'.length/\∀(n:Nat)(a:Ms Dt),n≠r->h[n]?=ε (.lst a)->h'[n]?=ε (.lst a)
theorem kX{s:Nat->Int×Int}{c:Nat}(ok:∀i,IE (s i))(C:2<=c)(T:c<=100):∀(B:Ms Int)(u:Nat),∃fs,(∀f∈fs,zK c s f)/\(fs.length=B.length/\(u<=2->(LC fs).length+u<=2))/\∀(h:HI)(a r:Nat)(ds:Ms Dt)(b:Ms qa)(o J D:Ni Dt),h[a]?=ε (.lst (cC s c))->h[r]?=ε (.lst ds)->a≠r->ds.length+B.length<=1000->am (r+1) h ds b->
 ∃m I j p g,kC (CA 4) UI (B.map Dt.int) [o,ε (.ref a),ε (.ref r),ε (.int (u:Nat)),J,D] h=ε (.nx [o,ε (.ref a),ε (.ref r),ε (.int m),I,j] p)/\p[r]?=ε (.lst g)/\am (r+1) p g (b++fs)/\Km r h p
 | [],u=>⟨[],(fun _ h=>nomatch h),⟨rfl,fun q=>by simpa[LC]using q⟩,fun h a r ds b o J D da G S W F=>⟨_,_,_,h,ds,rfl,G,by rw[Ri];exact F,Ra _,fun _ _ _ e=>e⟩⟩
 | x::B,u=>by
  obtain⟨f,Q,kf,⟨g1,g2⟩,bd⟩:=Hw ok C T x u;obtain⟨fs,O,⟨fl,fo⟩,lp⟩:=kX ok C T B Q;refine⟨f::fs,fun y hy=>?_,⟨by simp[fl],fun q=>by have a1:=fo (g2 q);cases f<;>simp[LC]at g1 ⊢ <;>omega⟩,fun h a r ds b o J D da G S W F=>?_⟩
  . rcases zu.mp hy with rfl | hy
    . exact kf
    . exact O y hy
  . rw[Qu]at W;obtain⟨d,e,j,eb,FN⟩:=bd h a r ds o D da G nofun;have rl:=(Uo G).1;have M:r<(h++e).length:=by rw[g8];omega
    have U:∀k,k≠r->((h++e).set r (.lst (ds++[d])))[k]?=(h++e)[k]?:=fun k P=>by rw[ju (m5 P)]
    have H:Km r h ((h++e).set r (.lst (ds++[d]))):=⟨by simp,fun n L E q=>by rw[U n E];exact(Up.app h e).get q⟩;obtain⟨m,z4,Z,p,g,ew,R,Y,X⟩:=lp ((h++e).set r (.lst (ds++[d]))) a r (ds++[d]) (b++[f]) o (ε (.int x)) j (H.2 _ _ S da) (by rw[ou M]) S (by simp;omega) (by
     refine am.snoc (F.up (Ra _) (fun k L P q=>?_)) (FN.up nofun (fun k L P q=>?_))
     . exact H.2 _ _ nofun q
     . rw[U k nofun];exact q)
    rw[nu]at Y;refine⟨m,z4,Z,p,g,?_,R,Y,n7 H.1 X.1,fun n L E q=>X.2 _ _ E (H.2 _ _ E q)⟩;simp![Qs,kC,gG,Ss,Us,Ua,eb,y9,ew]
theorem uh(ns:Ms Int)(lo b:Ni Int):∃a:Ms Int,UE (ns.map Dt.int) lo b=a.map Dt.int/\a.length<=ns.length:=by unfold SM.UE;rw[<- map_drop,<- map_take];refine⟨_,rfl,?_⟩;rw[Ba,length_drop];omega
theorem Rf(ns:Ms Int)(I:ns.length<=63){s:Nat->Int×Int}{c:Nat}(ok:∀i,IE (s i))(d:2<=c)(B:c<=100):∃fs,(∀f∈fs,zK c s f)/\(fs.length<=63/\(LC fs).length<=2)/\∀(h:HI)(a:Nat),h[a]?=ε (.lst (cC s c))->
 ∃ds h',uL [.lst (ns.map Dt.int),.ref a] h=ε (.ref h.length,h')/\h'[h.length]?=ε (.lst ds)/\am (h.length+1) h' ds fs/\qo h h':=by
 obtain⟨b,E,H⟩:=uh ns (ε 9) (ε 29);obtain⟨fs,y,⟨J,C⟩,lp⟩:=kX ok d B b 0;refine⟨fs,y,⟨by omega,by have:=C nofun;omega⟩,fun h a da=>?_⟩;have o:=(Uo da).1;obtain⟨e,u,r,h',k,D,m,F,p⟩:=lp (h++[.lst []]) a h.length [] [] (ε (.lst (ns.map Dt.int))) none none (by rw[Vo o];exact da) ⋯ nofun (by simp;omega) .nil;refine⟨k,h',?_,m,F,by have:=p.1;simp at this;omega,fun n x q=>?_⟩
 . have j:DJ (eV 0) (JF (ro 9)) (JF (ro 29)) [ε (.lst (ns.map Dt.int)),ε (.ref a),ε (.ref h.length),ε (.int 0),none,none] (h++[.lst []])=ε (.lst (b.map Dt.int),h++[.lst []]):=by simp[E]
   have g:kC (CA 4) UI (b.map Dt.int) [ε (.lst (ns.map Dt.int)),ε (.ref a),ε (.ref h.length),ε (.int 0),none,none] (h++[.lst []])=ε (.nx [ε (.lst (ns.map Dt.int)),ε (.ref a),ε (.ref h.length),ε (.int e),u,r] h'):=D;dsimp![uL,wR,Qs,Uu,Ve,Ui,XA,GB,KH,zA,uA,mq,Us,Ua,fB,WD,rD,j,WG,ZF,g,qB,Qo,wB]
 . have G:=(Uo q).1;exact p.2 n x nofun ((Up.app h _).get q)
def pG:qa->Dt
 | .ways m=>yA m
 | .long x=>.tup [.str "long", .int (x.1:Nat),.int x.2.1,.int x.2.2]
 | .one g=>.tup [.str "one", .lst (g.map yA)]
theorem Ky(h:HI)(g:Ms nC):XB (LA h 5) (g.map yA)=ε (g.map yA):=MO yA yA g fun _ _=>rfl
theorem Mh{h:HI}{d:Dt}{f:qa}(q:ab h d f):LA h 7 d=ε (pG f):=by
 cases f with
 | ways m=>cases q;rfl
 | long x=>cases q;rfl
 | one g=>
  obtain⟨b,rfl,n,rfl,a⟩:=q;have e:LA h 6 (.ref n)=ε (.lst (g.map yA)):=by rw[LA,a];show(XB (LA h 5) (g.map yA)).map Dt.lst=_;rw[Ky];rfl
  have e2:LA h 6 (.str "one")=ε (.str "one"):=rfl;show(XB (LA h 6) [.str "one", .ref n]).map Dt.tup=_;simp![XB,e,e2,Ss,Ro];rfl
theorem uX{h:HI}{ds:Ms Dt}{fs:Ms qa}(q:Yi h ds fs):XB (LA h 7) ds=ε (fs.map pG):=by
 induction q with
 | nil=>rfl
 | cons a r ih=>simp![XB,Mh a,ih,Ss,Ro,Qs]
theorem Iw(f:qa):BB (pG f)=true:=by
 cases f with
 | ways m=>rfl
 | long x=>rfl
 | one g=>have:=ZS g;simp![pG,BB,HC,this,Bool.and_self]
theorem Lh(f:qa):OG (pG f)<=6:=by
 cases f with
 | ways m=>exact(show(1:Nat)<=6 by decide)
 | long x=>exact(show(1:Nat)<=6 by decide)
 | one g=>have:=xT g;simp![pG,OG,ID];omega
theorem tS:∀fs:Ms qa,HC (fs.map pG)=true
 | []=>rfl
 | f::fs=>by simp![Qs,HC,Iw f,tS fs,Bool.and_self]
theorem tX:∀fs:Ms qa,ID (fs.map pG)<=10
 | []=>by simp[ID]
 | f::fs=>by have:=tX fs;have:=Lh f;simp![Qs,ID];omega
theorem t9{bd:RG}{n:Nat}{body:RS}(ds:Ms Dt)(I:Nat->LI->HI->Prop)(s:∀k l h,I k l h->h[n]?=ε (.lst ds))
 (H:∀k d,ds[k]?=ε d->∀l h,I k l h->∃b j m,bd d l=ε b/\body b h=ε (.nx j m)/\I (k+1) j m):∀l h,I 0 l h->∃a h',zD bd body l (.rf n,h)=ε (.nx a h')/\I ds.length a h':=by
 have go:∀(f k:Nat)(l:LI)(h:HI),I k l h->f=ds.length-k+1->k<=ds.length->∃a h',DB bd body (.rf n) f k l h=ε (.nx a h')/\I ds.length a h':=by
  intro f
  induction f with
  | zero=>intro k l h _ e;omega
  | succ f ih=>
   intro k l h i B y;have e:=s k l h i;by_cases g:k<ds.length
   . have o:ds[k]?=ε ds[k]:=iu g;obtain⟨b,j,m,q,e2,p⟩:=H k ds[k] o l h i;have u:DB bd body (.rf n) (f+1) k l h=cB (body b h) (dN (DB bd body (.rf n) f (k+1))):=by
      simp![DB,qi.at,e,o,q,Ss];cases body b h with
      | none=>rfl
      | some r=>cases r<;>rfl
     rw[u,e2,fA];exact ih (k+1) j m p nofun g
   . obtain rfl:k=ds.length:=by omega
     have o:ds[ds.length]?=none:=jj (Ra _);exact⟨l,h,by simp![DB,qi.at,e,o],i⟩
 intro l h i;obtain⟨a,h',q,e2⟩:=go (ds.length+1) 0 l h i nofun (mq _);refine⟨a,h',?_,e2⟩;show DB bd body (.rf n) (qi.fuel (.rf n) h) 0 l h=_;have x:qi.fuel (.rf n) h=ds.length+1:=by simp![qi.fuel,s 0 l h i]
 rw[x];exact q
theorem Ck{te:RE}(s:∀(h:HI)(d:Dt)(f:qa),ab h d f->∃o b,te [ε d] h=ε (o,b)/\Up h b/\ab b o f){src:qi}{ds:Ms Dt}{h:HI}(hs:∀b,Up h b->∀k,src.at b k=ε ds[k]?)(G:src.fuel h=ds.length+1)(hz:ds.length<sizeLine){fs:Ms qa}(F:Yi h ds fs) :
 ∃g b,BE (CA 0) uB te [none] (src,h)=ε (g,b)/\Up h b/\Yi b g fs:=by
 have go:∀(m k:Nat)(y:Ni Dt)(a:HI)(i:Ms Dt),Up h a->m=ds.length-k+1->k<=ds.length->i.length<=k->Yi a i (fs.take k)->∃g j,eE (CA 0) uB te src m k [y] a i=ε (g,j)/\Up a j/\Yi j g fs:=by
  intro m
  induction m with
  | zero=>intro k y a i _ e;omega
  | succ m ih=>
   intro k y a i u L M J p;unfold eE;simp![hs a u k];by_cases n:k<ds.length
   . obtain⟨f,x,q⟩:=F.get (iu n);obtain⟨o,j,I,r,E⟩:=s a ds[k] f (q.up u.l);have B:=(p.up r.l).snoc E;rw[<- YJ x]at B;obtain⟨g,H,e2,C,D⟩:=ih (k+1) (ε ds[k]) j (i++[o]) (u.trans r) nofun nofun (by simp;omega) B;refine⟨g,H,?_,r.trans C,D⟩;rw[iu n];simp![gG,Ss,oM,eG,Ua,I];rw[dh nofun];exact e2
   . rw[jj nofun];rw[Je (by rw[<- F.len];omega)]at p;exact⟨i,a,rfl,Up.refl a,p⟩
 obtain⟨g,j,e,u,q⟩:=go (ds.length+1) 0 none h [] (Up.refl h) nofun (mq _) (Ra _) .nil;refine⟨g,j,?_,u,q⟩;unfold BE;simp![G];exact e
theorem vd(h:HI)(d:Dt)(f:qa)(q:ab h d f):∃e b,AL [ε d] h=ε (e,b)/\Up h b/\ab b e f:=by
 cases f with
 | ways m=>have a:d=yA m:=q;subst a;refine⟨yA m,h,?_,Up.refl h,q⟩;have i:rA (yA m) (.int 0) h=ε (.str "ways",h):=rfl;simp![AL,wI,NA,wA,gA,uA,Qa,iA,fA,i,YK,Kl,VA,Vs,eH]
 | long x=>have a:d=.tup [.str "long", .int (x.1:Nat),.int x.2.1,.int x.2.2]:=q;subst a;refine⟨_,h,?_,Up.refl h,q⟩;simp![AL,wI,NA,wA,gA,uA,Qa,iA,fA,bC,FC,Ro,YK,Rm,VA,Vs,eH]
 | one g=>
  obtain⟨k,rfl,n,rfl,j⟩:=q;have fn:vE (.ref n) h=ε (.ref h.length,h++[.lst (g.map yA)]):=by simp![vE,QD,HA,j,Ro]
  refine⟨.tup [.str "one", .ref h.length],h++[.lst (g.map yA)],?_,Up.app _ _,_,rfl,_,rfl,by simp⟩;simp![AL,wI,NA,wA,gA,uA,dC,yE,EA,zA,Qa,iA,fA,bC,FC,tF,Qo,decide_true,Ro,YK,Fp,VA,eG,fn,Qu,Ru,Nat.reduceAdd,fN]
theorem D7(h:HI)(d:Dt)(f:qa)(q:ab h d f):∃e b,kK [ε d] h=ε (e,b)/\Up h b/\ab b e f:=by
 have a:=P1 q [ε d] h 0 rfl;cases f with
 | ways m=>refine⟨d,h,?_,Up.refl h,q⟩;simp![kK,wI,NA,a,LK,gA,Qa,iA,fA,VA,Vs,eH]
 | long x=>refine⟨d,h,?_,Up.refl h,q⟩;simp![kK,wI,NA,a,LK,gA,Qa,iA,fA,VA,Vs,eH]
 | one g=>
  obtain⟨j,rfl,n,rfl,i⟩:=q;have fn:vE (.ref n) h=ε (.ref h.length,h++[.lst (g.map yA)]):=by simp![vE,QD,HA,i,Ro]
  refine⟨.tup [.str "one", .ref h.length],h++[.lst (g.map yA)],?_,Up.app _ _,_,rfl,_,rfl,by simp⟩;simp![kK,wI,NA,a,LK,wA,gA,uA,dC,yE,EA,zA,Qa,iA,fA,bC,tF,Qo,decide_true,Ro,VA,eG,fn,Qu,Ru,Nat.reduceAdd,fN]
structure av(c:Nat)(h:HI)(x:Dt)(ds:List Dt)(fs:List qa):Prop where
 at':x=.lst ds\/∃a,x=.ref a/\h[a]?=ε (.lst ds)
 fa:Yi h ds fs
 ok:∀x∈fs,dH c x
 sg:∀x∈LC fs,x.length<=1000
 len:fs.length<=100
theorem av.up{c:Nat}{h h':HI}{x:Dt}{ds:Ms Dt}{fs:Ms qa}(q:av c h x ds fs)(u:qo h h'):av c h' x ds fs:=
 ⟨q.at'.imp id fun⟨a,e,k⟩=>⟨a,e,u.2 _ _ k⟩,q.fa.up u,q.ok,q.sg,q.len⟩
theorem av.lt{c:Nat}{h:HI}{x:Dt}{ds:Ms Dt}{fs:Ms qa}(q:av c h x ds fs):ds.length<sizeLine:=by have:=q.len;rw[q.fa.len];simp[sizeLine];omega
theorem av.src{c:Nat}{h:HI}{x:Dt}{ds:Ms Dt}{fs:Ms qa}(q:av c h x ds fs):∃src,uH (x,h)=ε (src,h)/\(∀b,Up h b->∀k,src.at b k=ε ds[k]?)/\src.fuel h=ds.length+1:=by
 rcases q.at' with rfl | ⟨a,rfl,e⟩
 . exact⟨.vals ds,by rw[WG],fun _ _ _=>rfl,rfl⟩
 . exact⟨.rf a,zF e,fun b u k=>by simp![qi.at,u.get e],by simp![qi.fuel,e]⟩
theorem av.copied{c:Nat}{h:HI}{x:Dt}{ds:Ms Dt}{fs:Ms qa}(q:av c h x ds fs){te:RE}(i:∀(h:HI)(d:Dt)(f:qa),ab h d f->∃m b,te [ε d] h=ε (m,b)/\Up h b/\ab b m f) :
 ∃a b,cB (cB (uH (x,h)) (BE (CA 0) uB te [none])) (fun q=>ε (Dt.ref q.2.length,q.2++[Ob.lst q.1]))=ε (.ref a,b)/\Up h b/\rh c b a fs:=by
 obtain⟨src,p,o,n⟩:=q.src;obtain⟨j,g,e,u,E⟩:=Ck i o n q.lt q.fa;have k:Up g (g++[Ob.lst j]):=Up.app _ _;refine⟨g.length,g++[.lst j],?_,u.trans k,⟨j,by simp,E.up k.l⟩,q.ok,q.sg,q.len⟩;rw[p];simp![fA,e]
theorem rh.res{c:Nat}{h:HI}{a:Nat}{fs:Ms qa}(q:rh c h a fs):LA h 8 (.ref a)=ε (.lst (fs.map pG)):=by obtain⟨ds,e,F⟩:=q.ds;rw[LA,e];show(XB (LA h 7) _).map Dt.lst=_;rw[uX F];rfl
theorem av.res{c:Nat}{h:HI}{x:Dt}{ds:Ms Dt}{fs:Ms qa}(q:av c h x ds fs):LA h 8 x=ε (.lst (fs.map pG)):=by
 rcases q.at' with rfl | ⟨a,rfl,e⟩
 . show(XB (LA h 7) _).map Dt.lst=_;rw[uX q.fa];rfl
 . exact rh.res (c:=c) ⟨⟨ds,e,q.fa⟩,q.ok,q.sg,q.len⟩
theorem Nh(fs:Ms qa):uE (fs.map pG) (fs.map pG)=true:=by unfold uE;rw[tS];have:=tX fs;simp;omega
theorem rh.up{c:Nat}{h h':HI}{a:Nat}{fs:Ms qa}(q:rh c h a fs)(u:qo h h'):rh c h' a fs:=by obtain⟨ds,e,F⟩:=q.ds;exact⟨⟨ds,u.2 _ _ e,F.up u⟩,q.ok,q.sg,q.len⟩
theorem iX{c:Nat}(n:c<=8){h:HI}{x:Dt}{ds:Ms Dt}{fs:Ms qa}(q:av c h x ds fs){t:rb}{d:Dt}(o:ra h t d)(dp:aD t<=12){due:Bool}(m:∀v,Sh c (ED fs) 12 (DD vC fs) (LC fs) t v->v=due) :
 ∃h',WI [.int (c:Nat),x,d,.bl due] h=ε (.bl true,h')/\qo h h':=by
 obtain⟨a,s,r,g,i⟩:=q.copied vd;obtain⟨v,b,e2,e,S⟩:=Aw n i (ra.up g.l t o) dp;obtain rfl:=m v S;have u:=g.l.trans e;have ex:gE (.ref a) x b=ε (.bl true,b):=by rw[W9 (i.up e).res (q.up u).res (Nh fs),zO _ (tS fs)]
 have p:gE (.bl v) (.bl v) b=ε (.bl true,b):=by cases v<;>rfl
 have k:OH b (.bl v)=ε "bool" :=rfl;have j:SM.MG "bool" "bool" =true:=by decide
 refine⟨b,?_,u⟩;dsimp![WI,NR,Qs (f:=some),Uu (f:=some),Ve,Ui,XA,GB,RL,rD,Qo,rF,oF,r,Us,Ua,fB,MA,EA,zA,Ri,e2,qB,iV,K3,k,j,Ro,qT,wA,p,ex,wB]
def br(h:HI)(d:Dt):Prop:=∃t,ra h t d/\aD t<=12
theorem br.up{h h':HI}(u:qo h h'){d:Dt}(q:br h d):br h' d:=by obtain⟨t,q,e⟩:=q;exact⟨t,ra.up u t q,e⟩
theorem FZ{h:HI}:∀(a:Ms rb){ds:Ms Dt},Wi h a ds->mE a<=12->∀d∈ds,br h d
 | [],ds,q,_,d,hd=>by simp![Wi]at q;subst q;cases hd
 | t::a,ds,q,dp,d,hd=>by
  simp![Wi]at q;simp![mE]at dp;obtain⟨f,r,rfl,e,b⟩:=q;rcases zu.mp hd with rfl | hd
  . exact⟨t,e,by omega⟩
  . exact FZ a b nofun d hd
noncomputable def CN:Dt:=.tup [.str "threes", .lst []]
def Wk:Ms Dt:=[CN,.tup [.str "threes", .lst [.tup [.int 0,.int 1,.int 2],.tup [.int 1,.int 0,.int 2]]],.tup [.str "ring", .lst [],.lst [.int 0,.int 1,.int 0]],.tup [.str "one", .lst [],.lst [CN]],.tup [.str "split", .lst [],.int 0,.int 1,.lst (List.replicate 13 CN)]]
theorem Q1(h:HI):ra h (.Wu []) CN:=by simp![ra];exact⟨_,rfl,rfl⟩
theorem jV(h:HI):∀n,Wi h (List.replicate n (.Wu [])) (List.replicate n CN)/\mE (List.replicate n (.Wu []))<=1
 | 0=>by simp![List.replicate,Wi,mE];exact⟨trivial,by omega⟩
 | n+1=>by obtain⟨a,b⟩:=jV h n;simp![Ke,Wi,mE,aD];exact⟨⟨_,_,rfl,Q1 h,a⟩,by omega⟩
theorem SY(h:HI):∀d∈Wk,br h d:=by
 have r:=jV h 13;have a:=jV h 1;intro d hd;simp![Wk,zu,not_mem_nil,or_false]at hd;rcases hd with rfl | rfl | rfl | rfl | rfl
 . exact⟨_,Q1 h,by simp![aD];omega⟩
 . exact⟨.Wu [(0,1,2),(1,0,2)],by simp![ra];exact⟨_,rfl,rfl⟩,by simp![aD];omega⟩
 . exact⟨.ring [] [0,1,0],by simp![ra];exact⟨_,_,rfl,rfl,rfl,by decide⟩,by simp![aD];omega⟩
 . exact⟨.one [] (List.replicate 1 (.Wu [])),by simp![ra];exact⟨_,_,_,rfl,rfl,rfl,a.1⟩,by simp![aD];omega⟩
 . exact⟨.split [] (0,1) (List.replicate 13 (.Wu [])),by simp![ra];exact⟨_,_,_,rfl,rfl,rfl,r.1⟩,by simp![aD];omega⟩
theorem Zf{lo c:Nat}{h:HI}{A:ri}{x:Dt}(AN:ci lo h c A (.tup [UG A.wd,x]))(sm:∀b,A=.clash b->jG b/\aD (ZC b)<=12)(s:Nat) :
 ∃r h' a,wL [.tup [UG A.wd,x,.int (s:Nat)]] h=ε (.ref r,h')/\h'[r]?=ε (.lst a)/\(∀d∈a,br h' d)/\qo h h':=by
 have l0:∀l H,oC eA l H=ε (.lst [],H):=fun l H=>by simp![JH,zA,fA,Ru,mq,eG]
 have s1:1<=sizeLine:=by decide
 have L:2<=sizeLine:=by decide
 have s3:3<=sizeLine:=by decide
 have s4:4<=sizeLine:=by decide
 have s5:5<=sizeLine:=by decide
 have W:=fun(H:HI)=>DT (h:=H) CN (k:=13) (by decide)
 simp![Hi]at W;have Z:∀H,rA (.tup [UG A.wd,x,.int (s:Nat)]) (.int 0) H=ε (UG A.wd,H):=fun _=>rfl
 have D:∀H,rA (.tup [UG A.wd,x,.int (s:Nat)]) (.int 1) H=ε (x,H):=fun _=>rfl
 have d1:(h++[Ob.lst (Wk.take 4)])[h.length]?=ε (.lst (Wk.take 4)):=by simp
 have q:=fun(l:LI)=>qF (l:=l) (h:=h++[.lst (Wk.take 4)]) (h':=h++[.lst (Wk.take 4)]) (n:=h.length) (g:=UA (bA (eC (.str "split")) (bA (oC eA) (bA (ro 0) (bA (ro 1) (bA (SH (UA (bA (eC (.str "threes")) (bA (oC eA) eA))) (ro 13)) eA)))))) (d:=.tup [.str "split", .lst [],.int 0,.int 1,.lst (List.replicate 13 CN)]) d1 (by
  simp![yE,EA,zA,uA,l0,Jj,fA,Qu,Ru,Nat.reduceAdd,L,s5,eG];rw[show Dt.tup [.str "threes", .lst []]=CN from rfl,W];rfl) d1 (by decide)
 have R:(h++[Ob.lst (Wk.take 4)]).set h.length (.lst (Wk.take 4++[.tup [.str "split", .lst [],.int 0,.int 1,.lst (List.replicate 13 CN)]]))=h++[.lst Wk]:=by simp[Wk]
 rw[R]at q;have first:gF (bA (UA (bA (eC (.str "threes")) (bA (oC eA) eA))) (bA (UA (bA (eC (.str "threes")) (bA (oC (bA (UA (bA (ro 0) (bA (ro 1) (bA (ro 2) eA)))) (bA (UA (bA (ro 1) (bA (ro 0) (bA (ro 2) eA)))) eA))) eA))) (bA (UA (bA (eC (.str "ring")) (bA (oC eA) (bA (oC (bA (ro 0) (bA (ro 1) (bA (ro 0) eA)))) eA)))) (bA (UA (bA (eC (.str "one")) (bA (oC eA) (bA (oC (bA (UA (bA (eC (.str "threes")) (bA (oC eA) eA))) eA)) eA)))) eA)))) [ε (.tup [UG A.wd,x,.int (s:Nat)]),none] h=ε (.ref h.length,h++[.lst (Wk.take 4)]):=by rfl
 have ef:wL [.tup [UG A.wd,x,.int (s:Nat)]] h=uD (tL [ε (.tup [UG A.wd,x,.int (s:Nat)]),none] h):=by show UB 1 2 tL _ h=_;rw[pB];rfl
 generalize i:wL [.tup [UG A.wd,x,.int (s:Nat)]] h=X;rw[ef,tL,zE first (l':=[ε (.tup [UG A.wd,x,.int (s:Nat)]),ε (.ref h.length)]) rfl,pZ (n:=h.length) rfl (q _)]at i;generalize hT:Dt.tup [UG A.wd,x,.int (s:Nat)]=T at i Z D;simp![XA,fA,gA,Qa,Qo,iA,OB,NA,wA,uA,Z]at i;have u1:qo h (h++[.lst Wk]):=qo.app _ _;have S:(h++[Ob.lst Wk])[h.length]?=ε (.lst Wk):=by simp
 by_cases U:A.wd=.clash
 . cases A with
   | opn=>cases U
   | laid t=>cases U
   | clash b=>
    obtain⟨x',e,TA⟩:=AN;obtain rfl:x=x':=by injection e with e;injection e with _ e;injection e
    obtain⟨J,j⟩:=sm b rfl;have fa:ra h (ZC b) x:=HQ b J TA;have wc:UG (ri.clash b).wd=.str "clash" :=rfl;have f:=fun(l:LI) (hl:l[0]?=ε (ε T))=>qF (l:=l) (h:=h++[.lst Wk]) (h':=h++[.lst Wk]) (n:=h.length) (g:=e2 rA (eV 0) (ro 1)) (d:=x) S (by simp![wA,gA,hl,iA,fA,uA,D]) S (by decide)
    have Q:(h++[Ob.lst Wk]).set h.length (.lst (Wk++[x]))=h++[.lst (Wk++[x])]:=by simp
    rw[Q]at f;have f:=f [ε T,ε (.ref h.length)] rfl;have y:qo h (h++[.lst (Wk++[x])]):=qo.app _ _;have d3:(h++[Ob.lst (Wk++[x])])[h.length]?=ε (.lst (Wk++[x])):=by simp
    have C:∀H,RB (UG (ri.clash b).wd) (.str "clash") H=ε (.bl true,H):=fun _=>rfl
    have al:∀H:HI,qo h H->∀d∈Wk++[x],br H d:=by
     intro H u d hd;rcases Aa.mp hd with hd | hd
     . exact SY H d hd
     . rw[zc.mp hd];exact⟨_,ra.up u _ fa,j⟩
    obtain⟨sd,Y,_,_⟩:=fa.hd;have G:HA (h++[Ob.lst (Wk++[x])]) (.ref h.length)=ε (Wk++[x]):=XG d3;have o:∀(B:Ms rb) (r:Dt) (ds:Ms Dt),mE B<=12->HA h r=ε ds->Wi h B ds->(∀H,rA x (.int (-1)) H=ε (r,H))->(∀H,kH false (.str (ZC b).wd) (.tup [.str "one", .str "split"]) H=ε (.bl true,H))->∃r h' a,X=ε (.ref r,h')/\h'[r]?=ε (.lst a)/\(∀d∈a,br h' d)/\qo h h':=by
     intro B r ds dp sr fs ix E;have I:=iG y sr;have ct:=SM.Sd ds 3;simp![Hi]at ct;have sl:=fs.len;have cn:wJ (.ref h.length) (.lst (ds.take 3)) (h++[Ob.lst (Wk++[x])])=ε (.ref (h.length+1),h++[Ob.lst (Wk++[x])]++[.lst (Wk++[x]++ds.take 3)]):=by
      simp![wJ,G,BH,Ss,g8,Qu,Ru];have l3:(ds.take 3).length<=3:=length_take_le _ _;have l5:Wk.length=5:=rfl;have l9:(100:Nat)<=sizeLine:=by decide
      rw[dh nofun]
     have F:qo h (h++[Ob.lst (Wk++[x])]++[.lst (Wk++[x]++ds.take 3)]):=y.trans (qo.app _ _);refine⟨h.length+1,_,Wk++[x]++ds.take 3,?_,?_,?_,F⟩
     . simp![C,VA,fA,eG,XA,cE,ZE,gA,Qa,Qo,iA,f,fB,OB,NA,wA,uA,D,Y,yE,EA,zA,Qu,Ru,Nat.reduceAdd,L,E,GB,WP,UM,ZL,ix,yP,xP,fP,I,Ro,ct,cn,Us,Ua,qB,wB]at i;exact i.symm
     . simp
     . intro d hd;rcases Aa.mp hd with hd | hd
       . exact al _ F d hd
       . exact(FZ B fs dp d (mem_of_mem_take hd)).up F
    have m:(∀H,kH false (.str (ZC b).wd) (.tup [.str "one", .str "split"]) H=ε (.bl false,H))->∃r h' a,X=ε (.ref r,h')/\h'[r]?=ε (.lst a)/\(∀d∈a,br h' d)/\qo h h':=by intro no;refine⟨h.length,_,_,?_,d3,al _ y,y⟩;simp![C,VA,fA,eG,XA,cE,ZE,gA,Qa,Qo,iA,f,fB,OB,NA,wA,uA,D,Y,yE,EA,zA,Qu,Ru,Nat.reduceAdd,L,no,Vs,eH,QE,qB,wB]at i;exact i.symm
    cases b with
    | Wu st=>exact m (fun H=>show kH false (.str "threes") _ H=_ from rfl)
    | ring st cs P k=>exact m (fun H=>show kH false (.str "ring") _ H=_ from rfl)
    | one st bs=>simp![ZC,ra]at fa;obtain⟨s',r,ds,rfl,_,O,M⟩:=fa;simp![ZC,aD]at j;exact o (lE bs) r ds nofun O M (fun _=>rfl) (fun H=>show kH false (.str "one") _ H=_ from rfl)
    | split st p bs=>simp![ZC,ra]at fa;obtain⟨s',r,ds,rfl,_,O,M⟩:=fa;simp![ZC,aD]at j;exact o (lE bs) r ds nofun O M (fun _=>rfl) (fun H=>show kH false (.str "split") _ H=_ from rfl)
 . have C:∀H,RB (UG A.wd) (.str "clash") H=ε (.bl false,H):=by
    intro H;cases A with
    | opn=>rfl
    | laid t=>rfl
    | clash b=>exact Ci rfl U
   refine⟨h.length,_,Wk,?_,S,SY _,u1⟩;simp![C,VA,fA,Vs,eH,QE,fB,qB,gA,Qa,Qo,iA,wB]at i;exact i.symm
theorem Zr{c:Nat}{s:Nat->Int×Int}{f:qa}(h:zK c s f):dH c f:=by
 cases f with
 | ways m=>exact h.1
 | long x=>exact h.1
 | one g=>exact h.1
theorem VO{c:Nat}{s:Nat->Int×Int}(ok:∀i,i<c->IE (s i)):∀(fs:Ms qa)(f:OA),(∀x∈fs,zK c s x)->re c f s->re c (DD f fs) s
 | [],f,_,q=>q
 | x::fs,f,h,q=>by
  have j:∀y∈fs,zK c s y:=fun y n=>h y (by simp[n])
  cases x with
  | ways m=>obtain⟨⟨a,b,d,e⟩,k⟩:=h (.ways m) ⋯;exact VO ok fs _ j (q.nar ok a b d k)
  | long y=>exact VO ok fs _ j q
  | one g=>exact VO ok fs _ j q
theorem sO{c:Nat}:∀(fs:Ms qa)(f:OA),(∀x∈fs,dH c x)->(∀i<c,f i i=64)->∀i<c,DD f fs i i=64
 | [],f,_,q=>q
 | x::fs,f,h,q=>by
  have j:∀y∈fs,dH c y:=fun y k=>h y (by simp[k])
  cases x with
  | ways m=>obtain⟨a,b,d,e⟩:AE c m:=h (.ways m) ⋯;exact sO fs _ j (yT q d _)
  | long y=>exact sO fs _ j q
  | one g=>exact sO fs _ j q
theorem YL:∀{fs:Ms qa}{g:Ms nC},g∈LC fs->qa.one g∈fs
 | [],g,h=>by cases h
 | f::fs,g,h=>by
  cases f with
  | one x=>
   rcases zu.mp h with rfl | h
   . simp
   . simp[YL h]
  | ways m=>exact m8 _ (YL h)
  | long m=>exact m8 _ (YL h)
theorem AO:∀{fs:Ms qa}{x:Ln},x∈ED fs->qa.long x∈fs
 | [],g,h=>by cases h
 | f::fs,g,h=>by
  cases f with
  | long x=>
   rcases zu.mp h with rfl | h
   . simp
   . simp[AO h]
  | ways m=>exact m8 _ (AO h)
  | one m=>exact m8 _ (AO h)
theorem Ab{c:Nat}{s:Nat->Int×Int}(ok:∀i,i<c->IE (s i)):re c vC s:=fun i d j b a=>by
 have w:=YG (ok i d) (ok j b);have t:∀k<13,(8191:Nat).testBit k=true:=by decide
 unfold vC;rw[dG a];exact t _ w
noncomputable def rG(n:Ms Dt)(a b c d e f g:Ni Dt):LI:=[ε (.lst n),a,b,c,d,e,f,g]
section
variable{n:Ms Dt}{a b c d e f g:Ni Dt}
theorem WV:(rG n a b c d e f g)[0]?=ε (ε (.lst n)):=rfl
theorem wQ:(rG n a b c d e f g)[1]?=ε a:=rfl
theorem Ym:(rG n a b c d e f g)[2]?=ε b:=rfl
theorem Zm:(rG n a b c d e f g)[3]?=ε c:=rfl
theorem jl:(rG n a b c d e f g)[4]?=ε d:=rfl
theorem Al:(rG n a b c d e f g)[5]?=ε e:=rfl
theorem o4:(rG n a b c d e f g)[6]?=ε f:=rfl
theorem Cp:(rG n a b c d e f g)[7]?=ε g:=rfl
end
theorem law_true(ns:Ms Int)(hl:ns.length<=63):∃o,uI [.lst (ns.map Dt.int)] []=ε (.bl true,o):=by
 have c0:=fun h=>BM ns 0 h
 have c7:=fun h=>BM ns 7 h
 have c8:=fun h=>BM ns 8 h
 simp![Hi]at c0 c7 c8;have m3:=fun(x:Int) (h:HI)=>ME (h:=h) (i:=x) (show(0:Int)<3 by decide)
 have m4:=fun(x:Int) (h:HI)=>ME (h:=h) (i:=x) (show(0:Int)<4 by decide)
 obtain⟨c,a2,J,a8⟩:∃c:Nat,2+ns[0]?.getD (0:Int)%3=(c:Int)/\2<=c/\c<=4:=⟨(2+ns[0]?.getD (0:Int)%3).toNat,by omega,by omega,by omega⟩
 have j:c<=8:=by omega
 obtain⟨L,L1,es⟩:=Rx ns j [];have C:∀i,IE (aI ns L i):=fun i=>x9 ns L1 i
 generalize aI ns L=s at C es;obtain⟨fs,I,⟨fl,fo⟩,ef⟩:=Rf ns hl C J (show c<=100 by omega);obtain⟨ds,h1,ef,hd,FL,U1⟩:=ef [.lst (cC s c)] 0 rfl;have hd:h1[1]?=ε (.lst ds):=hd;have a7:h1[0]?=ε (.lst (cC s c)):=U1.2 _ _ rfl;have B:∀x∈fs,dH c x:=fun x hx=>Zr (I x hx)
 have s6:∀g∈LC fs,g.length<=6:=fun g hg=>(I _ (YL hg)).2.2
 have q1:av c h1 (.ref 1) ds fs:=⟨.inr ⟨1,rfl,hd⟩,FL.at,B,fun x hx=>n7 (s6 x hx) (by decide),by omega⟩;obtain⟨w0,w1,ew⟩:=LU J (ns[7]?.getD 0);obtain⟨w2,w3,_,ei⟩:=MU C w1 false;have ei:=ei h1 0 a7;obtain⟨m,m1,em⟩:∃m,AE c m/\∀(rest:RS)(a b F:Ni Dt),lA (SC (qh (e2 dL (e2 aC (qA VG [] (bA (eV 0) (bA (ro 8) eA))) (ro 4)) (ro 0))) (DA 4 (qA yG [] (bA (eV 4) (bA (eV 2) (bA (eC (.bl false)) eA))))) jB) rest (rG (ns.map Dt.int) a (ε (.ref 0)) b (ε (yA w0)) F none none) h1=rest (rG (ns.map Dt.int) a (ε (.ref 0)) b (ε (yA m)) F none none) h1:=by
  have tt:∀(a b F:Ni Dt),qh (e2 dL (e2 aC (qA VG [] (bA (eV 0) (bA (ro 8) eA))) (ro 4)) (ro 0)) (rG (ns.map Dt.int) a (ε (.ref 0)) b (ε (yA w0)) F none none) h1=ε (decide (0<ns[8]?.getD (0:Int)%4),h1):=fun a b F=>by simp![NA,wA,MA,EA,zA,gA,uA,WV,iA,fA,Ri,c8,m4,vN,VA]
  by_cases z:0<ns[8]?.getD (0:Int)%4
  . refine⟨w2,w3,fun rest a b F=>?_⟩;simp![XA,OB,tt,eO z,fA,eG,GB,MA,EA,zA,gA,uA,jl,Ym,iA,Ri,ei,fB];rfl
  . exact⟨w0,w1,fun rest a b F=>dE (by rw[tt,eN z])⟩
 have s1:1<=sizeLine:=by decide
 have ca:JI (.ref 1) (.lst [yA m]) h1=ε (.lst (ds++[yA m]),h1):=by have:=q1.lt;simp![JI,XG hd,BH,Ss,Qu,Ru];rw[dh nofun]
 have of:∀fs:Ms qa,LC (fs++[.ways m])=LC fs:=by
  intro fs
  induction fs with
  | nil=>rfl
  | cons f fs ih=>cases f<;>simp[LC,ih]
 have Z:av c h1 (.lst (ds++[yA m])) (ds++[yA m]) (fs++[.ways m]):=by
  refine⟨.inl rfl,FL.at.snoc rfl,fun x hx=>?_,fun x hx=>?_,by simp;omega⟩
  . rcases Aa.mp hx with hx | hx
    . exact B x hx
    . rw[zc.mp hx];exact m1
  . rw[of]at hx;exact n7 (s6 x hx) (by decide)
 generalize fs++[.ways m]=gs at Z;obtain⟨a,h2,a6,u2,R⟩:=Z.copied D7;have a0:=fJ gs R.ok _ (oP c);have G:=VL gs R.ok;have ex:=Qv (m:=2) (show 1<=c by omega) j (show(ED gs).length<=100 by have:=WJ gs;have:=R.len;omega) G 12 (DD vC gs) (LC gs) 0 a0 (kJ gs R.ok) nofun nofun;obtain⟨A,U,x,O,LP,ep,AN,U3⟩:=Cw (show 1<=c by omega) j R ex;have sm:∀p,A=.clash p->jG p/\aD (ZC p)<=12:=fun p e=>CY j 12 _ _ 0 p U (e ▸ LP)
 obtain⟨r,h4,W,et,hr,TD,U4⟩:=Zf AN sm U;have Q:qo h1 h4:=(u2.l.trans U3).trans U4;have qs:=q1.up Q;have D:∀i,i<c->IE (s i):=fun i _=>C i
 have lk:∀g,re c g s->∃T:Nat->Int,∀e∈KC c g (ED fs),T e.1-T e.2.1<=e.2.2:=fun g q=>⟨cN s,Cg D q fun y hy=>I _ (AO hy)⟩
 have no:∀t v,Sh c (ED fs) 12 (DD vC fs) (LC fs) t v->v=false:=fun t v S=>rZ D lk 12 _ _ t v S (fJ fs B _ (oP c)) (kJ fs B) (sO fs vC B (fun i _=>by unfold vC;rw[dh rfl])) (VO D fs _ I (Ab D)) (fun g hg=>(I _ (YL hg)).2.1)
 obtain⟨T,M⟩:∃T,T=Dt.tup [UG A.wd,x,.int (U:Nat)]:=⟨_,rfl⟩
 rw[<- M]at ep et;obtain⟨l',E,e5,⟨y,rfl⟩,U5⟩:=t9 (bd:=CA 7) (n:=r) (body:=bM) W (fun k l o=>(∃y,l=rG (ns.map Dt.int) (ε (.int (c:Nat))) (ε (.ref 0)) (ε (.ref 1)) (ε (yA m)) (ε (.lst (ds++[yA m]))) (ε T) y)/\qo h4 o) (by
  rintro k l o ⟨_,u⟩;exact u.2 _ _ hr) (by
  rintro k d a1 l o ⟨⟨y,rfl⟩,u⟩;obtain⟨t,ft,dp⟩:=(TD d (jo a1)).up u;obtain⟨h6,e6,u6⟩:=iX j (qs.up u) ft dp (due:=false) (no t);refine⟨_,rG (ns.map Dt.int) (ε (.int (c:Nat))) (ε (.ref 0)) (ε (.ref 1)) (ε (yA m)) (ε (.lst (ds++[yA m]))) (ε T) (ε d),h6,rfl,?_,⟨_,rfl⟩,u.trans u6⟩;show bM (rG (ns.map Dt.int) (ε (.int (c:Nat))) (ε (.ref 0)) (ε (.ref 1)) (ε (yA m)) (ε (.lst (ds++[yA m]))) (ε T) (ε d)) o=_;simp![bM,OB,lJ,NA,MA,EA,zA,gA,uA,wQ,Zm,Cp,iA,fA,Ri,e6,VA,qg,Vs,eH,QE]) (rG (ns.map Dt.int) (ε (.int (c:Nat))) (ε (.ref 0)) (ε (.ref 1)) (ε (yA m)) (ε (.lst (ds++[yA m]))) (ε T) none) h4 ⟨⟨_,rfl⟩,qo.refl h4⟩
 have t1:OH O T=ε "tuple" :=by rw[M];rfl
 have t2:SM.MG "tuple" "tuple" =true:=by decide
 have tl:QB T O=ε (.int 3,O):=by rw[M];rfl
 have i0:∀H,rA T (.int 0) H=ε (UG A.wd,H):=fun H=>by rw[M];rfl
 have i1:∀H,rA T (.int 1) H=ε (x,H):=fun H=>by rw[M];rfl
 have a3:nL [.lst (ns.map Dt.int),.int (c:Nat)] []=ε (.ref 0,[.lst (cC s c)]):=es;have a5:uL [.lst (ns.map Dt.int),.ref 0] [.lst (cC s c)]=ε (.ref 1,h1):=ef;have a4:XI [.int (c:Nat),.ref a,.int 2] h2=ε (T,O):=ep;have pre:uI [.lst (ns.map Dt.int)] []=uD (AA (PV (e2 QC (e2 rA (eV 6) (ro 0)) (eC (.str "clash"))) (qA WI [] (bA (eV 1) (bA (eV 5) (bA (e2 rA (eV 6) (ro 1)) (bA (eC (.bl true)) eA)))))) (rG (ns.map Dt.int) (ε (.int (c:Nat))) (ε (.ref 0)) (ε (.ref 1)) (ε (yA m)) (ε (.lst (ds++[yA m]))) (ε T) y) E):=by rw[uI,pB];show uD (LM (rG (ns.map Dt.int) none none none none none none none) [])=_;unfold LM;refine pI (d:=.int (c:Nat)) (h1:=[]) (l':=rG (ns.map Dt.int) (ε (.int (c:Nat))) none none none none none none) (by simp![wA,MA,EA,zA,gA,uA,WV,iA,fA,Ri,c0,m3,eF,a2]) rfl ?_;refine pI (l':=rG (ns.map Dt.int) (ε (.int (c:Nat))) (ε (.ref 0)) none none none none none) (by simp![MA,EA,zA,gA,WV,wQ,iA,fA,Ri];exact a3) rfl ?_;refine pI (l':=rG (ns.map Dt.int) (ε (.int (c:Nat))) (ε (.ref 0)) (ε (.ref 1)) none none none none) (by simp![MA,EA,zA,gA,WV,Ym,iA,fA,Ri];exact a5) rfl ?_;refine pI (d:=yA w0) (h1:=h1) (l':=rG (ns.map Dt.int) (ε (.int (c:Nat))) (ε (.ref 0)) (ε (.ref 1)) (ε (yA w0)) none none none) (by simp![MA,EA,zA,gA,uA,WV,wQ,iA,fA,Ri,c7,ew]) rfl ?_;rw[em];refine pI (d:=.lst (ds++[yA m])) (h1:=h1) (l':=rG (ns.map Dt.int) (ε (.int (c:Nat))) (ε (.ref 0)) (ε (.ref 1)) (ε (yA m)) (ε (.lst (ds++[yA m]))) none none) (by simp![wA,gA,JH,EA,zA,Zm,jl,iA,fA,Qu,Ru,Nat.reduceAdd,s1,eG,ca]) rfl ?_;refine pI (l':=rG (ns.map Dt.int) (ε (.int (c:Nat))) (ε (.ref 0)) (ε (.ref 1)) (ε (yA m)) (ε (.lst (ds++[yA m]))) (ε T) none) (by simp![MA,EA,zA,gA,uA,RL,rD,rF,oF,wQ,Al,iA,fA,a6,Ri];exact a4) rfl ?_;refine xV (h1:=O) (by simp![GF,lJ,NA,K3,wA,dC,gA,uA,o4,iA,fA,t1,t2,Ro,VA,qg,Vs,eH,tl,YH,decide_true]) ?_;exact U7 (by simp![rD,MA,EA,zA,gA,o4,iA,fA,Ri,et];exact zF hr) e5 rfl
 have P:∀o,PV (e2 QC (e2 rA (eV 6) (ro 0)) (eC (.str "clash"))) (qA WI [] (bA (eV 1) (bA (eV 5) (bA (e2 rA (eV 6) (ro 1)) (bA (eC (.bl true)) eA))))) (rG (ns.map Dt.int) (ε (.int (c:Nat))) (ε (.ref 0)) (ε (.ref 1)) (ε (yA m)) (ε (.lst (ds++[yA m]))) (ε T) y) E=ε (.bl true,o)->∃o,uI [.lst (ns.map Dt.int)] []=ε (.bl true,o):=fun o e=>⟨o,pre.trans (mP e)⟩
 by_cases cl:A.wd=.clash
 . cases A with
   | opn=>cases cl
   | laid t=>cases cl
   | clash p=>
    have nq:QC (UG (ri.clash p).wd) (.str "clash") E=ε (.bl false,E):=rfl;obtain⟨x',e,TA⟩:=AN;obtain rfl:x=x':=by injection e with e;injection e with _ e;injection e
    obtain⟨Y,X⟩:=sm p rfl;obtain⟨h6,e6,u6⟩:=iX j (Z.up (Q.trans U5)) (ra.up (U4.trans U5) _ (HQ p Y TA)) X (due:=true) (fun v S=>nX G 12 _ _ 0 p U LP 12 v S);exact P h6 (by simp![M3,wA,gA,uA,wQ,Al,o4,iA,fA,i0,nq,vZ,Vs,eH,MA,EA,zA,i1,Ri,e6])
 . have nq:QC (UG A.wd) (.str "clash") E=ε (.bl true,E):=by
    cases A with
    | opn=>rfl
    | laid t=>rfl
    | clash p=>exact Ci rfl cl
   exact P E (by simp![M3,wA,gA,uA,o4,iA,fA,i0,nq,vZ,eG])
set_option maxHeartbeats 0 in
theorem Ib {l:PySem.W.OpenLaw} {w:O4} {K:Oi} {h:Pu} {mg:Str->Ni Mu} {fa:Oa} (X:K.In h) (G:h.Ns mainGlobals mg) (g6:mg "law" =ε (.ref fa))
 {b:Oa} {g:Mu} {i:Oa} {k:Oa} {j:Mu}
 (d:iN K "Search" b) (g5:findIn K (.ref b) "lengths" =ε none) (g4:findIn K (.ref b) "most" =ε none) (g3:findIn K (.ref b) "made" =ε none) (g2:gB K "zones" lU) (g1:gB K "ways_in" lT) (g0:gB K "set_of" JT) (f8:gB K "turned" MT) (f6:gB K "chained_sets" bR) (f5:gB K "wide_row" qS) (f4:gB K "wide" lV) (f3:gB K "pairs_of" oS) (f2:gB K "narrowed" mS) (f1:gB K "left_by" fT) (f0:gB K "narrows" jT) (e6:gB K "made_of" iT) (e5:gB K "is_empty" kS) (e4:gB K "threes_along" gR) (e3:gB K "rounded_from" eR) (e1:gB K "rounded" kT) (e0:gB K "first_net" dS) (d9:gB K "lengths_in" uR) (d8:gB K "groups_in" eS) (d6:gB K "only_member" IR) (d5:gB K "first_loose_pair" MQ) (d4:gB K "split_of" pS) (d3:gB K "grain" EU) (d2:gB K "length_bounds" jR) (d1:gB K "point_bounds" dR) (d0:gB K "set_bounds" vR) (c9:gB K "bounds" IT) (c8:gB K "least_bounds" cR) (c7:gB K "moved" FU) (c6:gB K "ring_behind" JR) (c5:gB K "timed" kU) (c4:gB K "is_three" lS) (c3:gB K "behind_steps" aR) (c2:gB K "is_ring" eT) (c0:gB K "shows" GU) (b6:gB K "all_show" jS) (b5:gB K "follows" cT) (b4:NM K b "__init__" "Search.__init__" XQ) (b3:NM K b "look" "Search.look" HR) (b2:NM K b "look_at_branches" "Search.look_at_branches" KQ) (b1:gB K "stretches_at" fR) (a9:Z1 K "planned" EO 200) (a8:gB K "_law_cell" WR) (a7:gB K "_law_mix" iS) (a6:gB K "_law_zone" cS) (a5:gB K "_law_between" ZQ) (a4:gB K "_law_mask" YR) (a3:gB K "_law_ways" aS) (a2:gB K "_law_stretches" UQ) (a1:gB K "_law_with" bS) (a0:gB K "_law_group" sR) (Z:gB K "_law_long" XR) (Y:gB K "_law_facts" rR) (W:gB K "_law_told" ZR) (U:gB K "_law_trees" tR) (S:gB K "law" tV) (R:nsIn K mainGlobals "all" =ε none) (Q:nsIn K mainGlobals "any" =ε none) (P:nsIn K mainGlobals "bool" =ε none) (O:nsIn K mainGlobals "enumerate" =ε none) (M:nsIn K mainGlobals "int" =ε none) (L:nsIn K mainGlobals "isinstance" =ε none) (J:nsIn K mainGlobals "len" =ε none) (I:nsIn K mainGlobals "list" =ε none) (H:nsIn K mainGlobals "max" =ε none) (F:nsIn K mainGlobals "min" =ε none) (E:nsIn K mainGlobals "range" =ε none) (D:nsIn K mainGlobals "set" =ε none) (C:nsIn K mainGlobals "sum" =ε none) (B:nsIn K mainGlobals "tuple" =ε none) (y:nsIn K mainGlobals "zip" =ε none) (x:nsIn K mainGlobals "ALL" =ε (ε g)) (u:VD K 6 g=ε MM) (r:nsIn K mainGlobals "ZONES" =ε (ε (.ref i))) (q:VD K 6 (.ref i)=ε iU) (p:nsIn K mainGlobals "CHAINED" =ε (ε (.ref k))) (o:VD K 6 (.ref k)=ε WS) (n:nsIn K mainGlobals "SAME" =ε (ε j)) (m:VD K 6 j=ε TU)
 :∃fd:FuncData,(∀(s:Nu) (v:Mu),BindsTo s fd ⟨[v],[]⟩ [("_law_script",v)])/\∀base:Pu,K.In base->base.Ns mainGlobals mg->YD l.prog w K mg base LG 33 fa fd ["_law_script"] (JJ K 1 uI):=by
 have T:Im K mg:={
  hO:=lB X G g2 fun _ _ _ _ _ _=>AD (fun _=>rfl)
  hX:=lB X G g1 fun _ _ _ _ _ _=>AD (fun _=>rfl)
  hY:=lB X G g0 fun _ _ _ _ _ _=>AD (fun _=>rfl)
  hZ:=lB X G f8 fun _ _ _ _ _ _=>AD (fun _=>rfl)
  ia:=lB X G f6 fun _ _ _ _ _ _=>IC (fun _ _=>rfl)
  ib:=lB X G f5 fun _ _ _ _ _ _=>IC (fun _ _=>rfl)
  ie:=lB X G f4 fun _ _ _ _ _ _=>AD (fun _=>rfl)
  ii:=lB X G f3 fun _ _ _ _ _ _=>AD (fun _=>rfl)
  ij:=lB X G f2 fun _ _ _ _ _ _=>II (fun _ _ _ _=>rfl)
  ik:=lB X G f1 fun _ _ _ _ _ _=>IC (fun _ _=>rfl)
  im:=lB X G f0 fun _ _ _ _ _ _=>IC (fun _ _=>rfl)
  io:=lB X G e6 fun _ _ _ _ _ _=>IC (fun _ _=>rfl)
  ip:=lB X G e5 fun _ _ _ _ _ _=>AD (fun _=>rfl)
  iq:=lB X G e4 fun _ _ _ _ _ _=>IC (fun _ _=>rfl)
  ir:=lB X G e3 fun _ _ _ _ _ _=>IC (fun _ _=>rfl)
  i3:=lB X G e1 fun _ _ _ _ _ _=>AD (fun _=>rfl)
  i4:=lB X G e0 fun _ _ _ _ _ _=>IC (fun _ _=>rfl)
  i5:=lB X G d9 fun _ _ _ _ _ _=>AD (fun _=>rfl)
  ja:=lB X G d8 fun _ _ _ _ _ _=>AD (fun _=>rfl)
  zev:=lB X G d6 fun _ _ _ _ _ _=>uG (fun _ _ _=>rfl)
  jb:=lB X G d5 fun _ _ _ _ _ _=>AD (fun _=>rfl)
  jn:=lB X G d4 fun _ _ _ _ _ _=>IC (fun _ _=>rfl)
  jp:=lB X G d3 fun _ _ _ _ _ _=>AD (fun _=>rfl)
  jv:=lB X G d2 fun _ _ _ _ _ _=>IC (fun _ _=>rfl)
  j0:=lB X G d1 fun _ _ _ _ _ _=>II (fun _ _ _ _=>rfl)
  j3:=lB X G d0 fun _ _ _ _ _ _=>uG (fun _ _ _=>rfl)
  ka:=lB X G c9 fun _ _ _ _ _ _=>IC (fun _ _=>rfl)
  ke:=lB X G c8 fun _ _ _ _ _ _=>AD (fun _=>rfl)
  kg:=lB X G c7 fun _ _ _ _ _ _=>uG (fun _ _ _=>rfl)
  ki:=lB X G c6 fun _ _ _ _ _ _=>IC (fun _ _=>rfl)
  km:=lB X G c5 fun _ _ _ _ _ _=>IC (fun _ _=>rfl)
  ko:=lB X G c4 fun _ _ _ _ _ _=>IC (fun _ _=>rfl)
  kq:=lB X G c3 fun _ _ _ _ _ _=>IC (fun _ _=>rfl)
  kr:=lB X G c2 fun _ _ _ _ _ _=>IC (fun _ _=>rfl)
  gd:=lB X G c0 fun _ _ _ _ _ _=>II (fun _ _ _ _=>rfl)
  kt:=lB X G b6 fun _ _ _ _ _ _=>II (fun _ _ _ _=>rfl)
  ku:=lB X G b5 fun _ _ _ _ _ _=>uG (fun _ _ _=>rfl)
  kv:=Dg X G d b4 fun _ _ _ _ _ _=>uG (fun _ _ _=>rfl)
  gf:=pY d b3 fun _ _ _ _ _ _=>II (fun _ _ _ _=>rfl)
  kw:=pY d b2 fun _ _ _ _ _ _=>II (fun _ _ _ _=>rfl)
  kx:=lB X G b1 fun _ _ _ _ _ _=>AD (fun _=>rfl)
  ky:=Mf X G a9 fun _ _ _ _ _ _ _ _ _ _ _ us hl h1 h2=>match us,hl with | [_,_,_],_=>BindsTo.of_defaults rfl h1 h2 rfl rfl
  kz:=lB X G a8 fun _ _ _ _ _ _=>IC (fun _ _=>rfl)
  la:=lB X G a7 fun _ _ _ _ _ _=>uG (fun _ _ _=>rfl)
  lc:=lB X G a6 fun _ _ _ _ _ _=>IC (fun _ _=>rfl)
  ld:=lB X G a5 fun _ _ _ _ _ _=>IC (fun _ _=>rfl)
  lf:=lB X G a4 fun _ _ _ _ _ _=>AD (fun _=>rfl)
  lh:=lB X G a3 fun _ _ _ _ _ _=>IC (fun _ _=>rfl)
  li:=lB X G a2 fun _ _ _ _ _ _=>IC (fun _ _=>rfl)
  lj:=lB X G a1 fun _ _ _ _ _ _=>uG (fun _ _ _=>rfl)
  ln:=lB X G a0 fun _ _ _ _ _ _=>uG (fun _ _ _=>rfl)
  lr:=lB X G Z fun _ _ _ _ _ _=>IC (fun _ _=>rfl)
  lv:=lB X G Y fun _ _ _ _ _ _=>IC (fun _ _=>rfl)
  lx:=lB X G W fun _ _ _ _ _ _=>II (fun _ _ _ _=>rfl)
  ly:=lB X G U fun _ _ _ _ _ _=>AD (fun _=>rfl)
  gg:=sU d g5
  gh:=sU d g4
  cz:=sU d g3
  gi:=mg_none_of X G R
  l8:=mg_none_of X G Q
  ma:=mg_none_of X G P
  md:=mg_none_of X G O
  gm:=mg_none_of X G M
  gr:=mg_none_of X G L
  Ys:=mg_none_of X G J
  cv:=mg_none_of X G I
  eL:=mg_none_of X G H
  dv:=mg_none_of X G F
  ar:=mg_none_of X G E
  gu:=mg_none_of X G D
  gv:=mg_none_of X G C
  me:=mg_none_of X G B
  gx:=mg_none_of X G y
  eP:=⟨⟨_,6,PySem.W.mg_of X G x,u⟩⟩
  mf:=⟨⟨_,6,PySem.W.mg_of X G r,q⟩⟩
  mh:=⟨⟨_,6,PySem.W.mg_of X G p,o⟩⟩
  mi:=⟨⟨_,6,PySem.W.mg_of X G n,m⟩⟩
 }
 obtain⟨f,oc,od,kV,dc,pm,an,cd,ct,sl,a,l1,c1,k1⟩:=S;have e:=g6.symm.trans (PySem.W.mg_of X G a);cases e;exact⟨_,fun s v=>.of_eq rfl,fun base _ _=>R7 T base (vP l1 c1 k1)⟩
end G
open PySem.W
set_option maxRecDepth 100000 in
set_option maxHeartbeats 0 in
theorem PySem.Challenge.cw_spanways_k21_whole_no_tree_where_a_plan_holds : PySem.Challenge.rw_spanways_k21_whole_no_tree_where_a_plan.Holds := by
 w_on;o_law;k_head;(case hw=>w_witness2)
 k_fill
 refine SM.Mg (l:=PySem.Challenge.rw_spanways_k21_whole_no_tree_where_a_plan) (F:=G.uI) (k:=33) (x := "_law_script") rfl rfl ⟨rfl,by decide,by decide⟩ (fun w h Y=>PySem.W.kIn_of Y) ?F G.law_true
 case F=>
  intro w mg fa h b d a
  refine' G.Ib b d a ?yq0 ?yq1 ?yq2 ?yq3 ?yq4 ?yq5 ?yq6 ?yq7 ?yq8 ?yq9 ?yq10 ?yq11 ?yq12 ?yq13 ?yq14 ?yq15 ?yq16 ?yq17 ?yq18 ?yq19 ?yq20 ?yq21 ?yq22 ?yq23 ?yq24 ?yq25 ?yq26 ?yq27 ?yq28 ?yq29 ?yq30 ?yq31 ?yq32 ?yq33 ?yq34 ?yq35 ?yq36 ?yq37 ?yq38 ?yq39 ?yq40 ?yq41 ?yq42 ?yq43 ?yq44 ?yq45 ?yq46 ?yq47 ?yq48 ?yq49 ?yq50 ?yq51 ?yq52 ?yq53 ?yq54 ?yq55 ?yq56 ?yq57 ?yq58 ?yq59 ?yq60 ?yq61 ?yq62 ?yq63 ?yq64 ?yq65 ?yq66 ?yq67 ?yq68 ?yq69 ?yq70 ?yq71 ?yq72 ?yq73 ?yq74 ?yq75 ?yq76 ?yq77 ?yq78 ?yq79 ?yq80 ?yq81 ?yq82
  (case yq0=>exact⟨by k_is,by k_is,by k_is,by k_is,by k_is,by k_is,by k_is⟩)
  (case yq1 | yq2 | yq3=>k_is)
  (case yq4 | yq5 | yq6 | yq7 | yq8 | yq9 | yq10 | yq11 | yq12 | yq13 | yq14 | yq15 | yq16 | yq17 | yq18 | yq19 | yq20 | yq21 | yq22 | yq23 | yq24 | yq25 | yq26 | yq27 | yq28 | yq29 | yq30 | yq31 | yq32 | yq33 | yq34 | yq35 | yq36 | yq37 | yq38 | yq39 | yq40=>exact⟨_,_,_,_,_,_,_,_,_,_,by k_is,by k_is,by k_is,by k_is⟩)
  (case yq41 | yq42 | yq43=>exact⟨_,_,_,_,_,_,_,_,_,_,by k_is,by k_is,by k_is,by k_is,by k_is⟩)
  (case yq44=>exact⟨_,_,_,_,_,_,_,_,_,_,by k_is,by k_is,by k_is,by k_is⟩)
  (case yq45=>exact⟨_,_,_,_,_,_,_,_,_,_,_,_,_,_,by k_is,by k_is,by k_is,by k_is,by k_is,by rfl⟩)
  (case yq46 | yq47 | yq48 | yq49 | yq50 | yq51 | yq52 | yq53 | yq54 | yq55 | yq56 | yq57 | yq58 | yq59=>exact⟨_,_,_,_,_,_,_,_,_,_,by k_is,by k_is,by k_is,by k_is⟩)
  (case yq60 | yq61 | yq62 | yq63 | yq64 | yq65 | yq66 | yq67 | yq68 | yq69 | yq70 | yq71 | yq72 | yq73 | yq74 | yq75=>k_is)
  (case yq76=>kernel_rfl)
  (case yq77=>k_is)
  (case yq78=>kernel_rfl)
  (case yq79=>k_is)
  (case yq80=>kernel_rfl)
  (case yq81=>k_is)
  (case yq82=>kernel_rfl)
end
