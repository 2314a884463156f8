import PyProof.Rows.All
import Wide.All
import OpenK.AllK
import Wide.FinOn
import Lean
import PyProof.EqAt
import PyProof.EqKinds
import PyProof.TupleCall
import PySem.Challenge.RW_spanways_k29_rows_at_fault
set_option Elab.async false
set_option linter.all false
set_option maxRecDepth 100000
set_option bootstrap.genMatcherCode false
noncomputable section
namespace PySem.W.Fast
def tw8988077390342021365:=0
def tw3308548711172851625:=0
def tw2536554934192990377:=0
def tw8206505770378944672:=0
def tw2465163279014209575:=0
def tw11632795140842701057:=0
def tw9174521571646916859:=0
def tw9065868467707599983:=0
def tw138008151127679480:=0
def tw6096913229596955382:=0
def tw1606071088022931457:=0
def tw1641862781442173004:=0
def tw4565671740805525736:=0
def tw8384462052630982155:=0
def tw10711789612387640913:=0
def tw12216450140075753711:=0
def tw3010366184461520009:=0
def tw10398840732706726517:=0
def tw18400727230626181464:=0
def tw18180155429546799998:=0
def tw4021567303721876947:=0
def tw157063279158715089:=0
def tw6571913811726136724:=0
def tw6765467755515189752:=0
def tw12170260822519955919:=0
def tw8091562543376671318:=0
def tw10453168267165790827:=0
def tw1770191209857907806:=0
def tw7529402418511803444:=0
def tw6752577565009402358:=0
def tw12409535524290322378:=0
def tw1779099539449868139:=0
def tw11008884870218545354:=0
def tw285564935390381661:=0
def tw6531802039240467764:=0
def tw16268978437312361077:=0
def tw9867452266009387631:=0
def tw14937764109492298665:=0
def tw1782802144465830612:=0
def tw215436645672456981:=0
def tw5030015141482659866:=0
def tw14999457442570495428:=0
def tw8139714552974578180:=0
def tw8736975725357163152:=0
def tw9276895034267420648:=0
def tw15636966489311333441:=0
def tw1420704067322985737:=0
def tw4338483195924653362:=0
def tw3570827818656481344:=0
def tw10304376164588867080:=0
def tw12881437101584404670:=0
def tw15954948796038581471:=0
def tw7129863137576466981:=0
def tw9593453721984839980:=0
def tw14981348309518285560:=0
def tw2062224631903193698:=0
def tw16441565174598603146:=0
def tw6910099719127991532:=0
def tw14131854822829202863:=0
def tw6074224277967194328:=0
def tw295836475697350236:=0
def tw10932925247469841439:=0
def tw12613773116526903437:=0
def tw15672156131081262146:=0
def tw3871714632583105243:=0
def tw16867879862025832584:=0
def tw10472553696620457569:=0
def tw4860314708533819858:=0
def tw14561654794846016237:=0
def tw8416626469216711403:=0
def tw7629360237179279228:=0
def tw16087489299551520239:=0
def tw7607301021716467488:=0
def tw7358256426776518480:=0
def tw11413534422236361197:=0
def tw4774505466324998999:=0
def tw1238245236329336600:=0
def tw11294374750354433209:=0
def tw12861412268503544586:=0
def tw1124719033283876331:=0
def tw7903569873959638100:=0
def tw15094199405343327756:=0
def tw15490429929969008499:=0
def tw1170395771228187759:=0
def tw2762383981068067752:=0
def tw14273702134615903671:=0
def tw16890723229752190581:=0
def tw15523806779423961248:=0
def tw6222609051061797544:=0
def tw17563086258488703521:=0
def tw12328111952830844299:=0
def tw3308951443203106836:=0
def tw17993553345907605887:=0
def tw10778386997566317728:=0
def tw5446639811519802560:=0
def tw15737405818187236248:=0
def tw17537330525650934231:=0
def tw9386549936718063349:=0
def tw709135763795971044:=0
def tw12614869922911362443:=0
def tw9105412717080911743:=0
def tw1237854017822313295:=0
def tw4126356485770233224:=0
def tw4656717953094882442:=0
def tw12301957384221386059:=0
def tw10037301888118235637:=0
def tw182206613676464892:=0
def tw10333260200647850740:=0
def tw5774173656087679856:=0
def tw47891814259835847:=0
def tw11491556564727945596:=0
def tw9430783179129120611:=0
def tw7914772548003042383:=0
def tw14207653276377147489:=0
def tw9597125654270276427:=0
def tw15727359709002598724:=0
def tw15539019270584209193:=0
def tw8903138111590782958:=0
def tw8963848447271791590:=0
def tw16467975340825905157:=0
def tw13498400596635863601:=0
def tw2268163051076074610:=0
def tw11973951119720759765:=0
def tw16451406653522859733:=0
def tw12086370915078147275:=0
def tw14677423997539553564:=0
def tw5340709854705785519:=0
def tw11429742761823369581:=0
def tw15217535204744013144:=0
def tw8357429070402111473:=0
def tw16116931575497311906:=0
def tw4261048287344353978:=0
def tw12358519036621730755:=0
def tw5436672340414795781:=0
def tw2422343439811657267:=0
def tw18127261775121375907:=0
def tw3685339883250444055:=0
def tw5741388066626621150:=0
def tw13854466725422558034:=0
def tw14956857700508041910:=0
def tw9604281452894513148:=0
def tw310910075576454826:=0
def tw10088102918632372527:=0
def tw7466812233277646966:=0
def tw7863647131111770326:=0
def tw4541612064375524424:=0
def tw4600191448028190128:=0
def tw1365148407047640191:=0
def tw14735006204941034736:=0
def tw4521106428924997665:=0
def tw5044705438464610096:=0
def tw18299016269074431257:=0
def tw16989263575234136243:=0
def tw8267278944860560209:=0
def tw2597911669262078787:=0
def tw2874770193785197837:=0
def tw7044112416293739854:=0
def tw14114000453752714415:=0
def tw2269947490320030981:=0
def tw4724736506452444465:=0
def tw5021373371839069541:=0
def tw16343897136009414442:=0
def tw4455333955507508153:=0
def tw13992428613121804565:=0
def tw16274264411727992443:=0
def tw7975968961630267296:=0
def tw16604526226271713968:=0
def tw1162885127968857047:=0
def tw16510953667213021870:=0
def tw6544823705826829604:=0
def tw14001299045133635387:=0
def tw1452753211670782302:=0
def tw6380200673109096810:=0
def tw5680261321591470663:=0
def tw4724298457695990258:=0
def tw6946918965169076694:=0
def tw8071137334123518784:=0
def tw17953140552554622658:=0
def tw6078631335412326585:=0
def tw13178019364902643305:=0
def tw12689832363032836970:=0
def tw1397089657673604516:=0
def tw13724692251320696184:=0
def tw16692927518231037318:=0
def tw15870046479860653581:=0
def tw730979221866244114:=0
def tw17103328926514557625:=0
def tw18214978890076270820:=0
def tw13810594614158547436:=0
def tw1372174822727220470:=0
def tw2568446711471656486:=0
def tw5997383830291643738:=0
def tw15434749272069355889:=0
def tw7772808098452700137:=0
def tw3482760139033115614:=0
def tw5117361285800569734:=0
def tw4202690744326945885:=0
def tw1727768512008896267:=0
def tw524264869742618692:=0
def tw1688764186909129773:=0
def tw10037806540065270111:=0
def tw17799540498727767328:=0
def tw14776284283032070410:=0
def tw2452615714346090053:=0
def tw11232118982172147589:=0
def tw8243305105652500003:=0
def tw17621963727086128217:=0
def tw2276857371082729279:=0
def tw9662068373194663904:=0
def tw16862943605023772579:=0
def tw3793495282003213801:=0
def tw10801194490669638766:=0
def tw11134750988854096345:=0
def tw16542421731403380470:=0
def tw17512288898504787410:=0
def tw15853775179095894794:=0
def tw8367208530974602360:=0
def tw11515065985605059764:=0
def tw9143881248496649461:=0
def tw12636632994933930478:=0
def tw7717188702207883319:=0
def tw16150743506909022170:=0
def tw4069211366084776932:=0
def tw2436602571325000934:=0
def tw11496896260054036900:=0
def tw7113205097227439406:=0
def tw10436422582915702286:=0
def tw7061744987442053853:=0
def tw14505869422207764073:=0
def tw12993184479927318063:=0
def tw4707521336376248415:=0
def tw2093047859293819784:=0
def tw11921768367208422029:=0
def tw15352385193352420849:=0
def tw16896580832028494006:=0
def tw14686360831040211954:=0
def tw16498079243825629429:=0
def tw8965535180113965670:=0
def tw18173531431228401325:=0
def tw13866533885488238837:=0
def tw16112710225626483679:=0
def tw11081292361488787617:=0
def tw1388250703032724489:=0
def tw4810549120892892597:=0
def tw4730222529163257405:=0
def tw9173817373130657944:=0
def tw12498158071094349276:=0
def tw17869582570201131479:=0
def tw6644469026106929530:=0
def tw13066410841503106856:=0
def tw10760309167732394945:=0
def tw8166772333655080620:=0
def tw17847233535495926346:=0
def tw7205734117841664615:=0
def tw4607360814207845131:=0
def tw14361773161048239228:=0
def tw7170195222941938416:=0
def tw16724596646881973108:=0
def tw9203941512004359474:=0
def tw13859029193942949425:=0
def tw1473336023192925710:=0
def tw15290307396204312896:=0
def tw2651493915568132462:=0
def tw13632557934355146376:=0
def tw5675639612153267383:=0
def tw712607976663799628:=0
def tw1361732490708645476:=0
def tw15003238118274516150:=0
def tw17348589571380501467:=0
def tw18091177134647583922:=0
def tw9258332427755482368:=0
def tw6982510338783385943:=0
def tw8864105827252967945:=0
def tw7423958289550430644:=0
def tw2678213004629147165:=0
def tw15990160020228481002:=0
def tw11590298483838424138:=0
def tw16728644232402740689:=0
def tw17354908183866076281:=0
def tw9620495582002231943:=0
def tw5898165615293059539:=0
def tw13261971334594411957:=0
def tw10216204771453461337:=0
def tw14508693750345761099:=0
def tw1318888451778853615:=0
def tw13621160166919952200:=0
def tw10404432245795326933:=0
def tw2769464083939807209:=0
def tw9149568228645694051:=0
def tw15161712982340992482:=0
def tw15227890763198860730:=0
def tw15612813238470373619:=0
def tw3979564390190716148:=0
def tw12042125558817130480:=0
def tw1942147097755480676:=0
def tw2881183396042936233:=0
def tw34684136598311928:=0
def tw637245590653829961:=0
def tw17949365411323286199:=0
def tw6928556782205023434:=0
def tw17420243822743332117:=0
def tw15203088170577159120:=0
def tw8219850949871140383:=0
def tw12398350109361843174:=0
def tw9080621811099307995:=0
def tw9533878930589785339:=0
def tw15333392177899397070:=0
def tw16910652024910335175:=0
def tw16791788483034041691:=0
def tw3386998276752919381:=0
def tw3014771434383453314:=0
def tw11534184602936765930:=0
def tw11960033403734649698:=0
def tw10654770717521142402:=0
def tw17217623760767710276:=0
def tw15625021290728480626:=0
def tw7518920975926480716:=0
def tw8598097506539612179:=0
def tw2731364501959151679:=0
def tw1015353549956518827:=0
def tw5261121327318830795:=0
def tw6995661240075386418:=0
def tw16051140961831910115:=0
def tw6099497843450807632:=0
def tw10395649341611724036:=0
def tw2399257914563789871:=0
def tw9543813070743842169:=0
def tw1600175104153887652:=0
def tw15214800226740697468:=0
def tw11214709558273354815:=0
def tw9333538355026772368:=0
def tw16935084532780162602:=0
def tw10312347721371867508:=0
def tw3329068086102056748:=0
def tw18372920978939719744:=0
def tw7273339323941701971:=0
def tw252612710968123380:=0
def tw2940867831624851593:=0
end PySem.W.Fast
namespace L2
end L2
namespace SM
end SM
namespace BF
end BF
namespace G
end G
open PySem PySem.Spec PyProof.Rows L2 SM BF G List
theorem Xd{α:Type _}{a:α}{l:List α}:(a::l)[0]?=some a:=rfl
theorem Yd{α:Type _}{a:α}{l:List α}{i:Nat}:(a::l)[i+1]?=l[i]?:=rfl
theorem Zd{α:Type _}{a:α}{l:List α}:(a::l).length=l.length+1:=rfl
theorem jc{α:Type _}:([]:List α).length=0:=rfl
theorem uc{α β:Type _}{f:α->β}{a:α}{l:List α}:(a::l).map f=f a::l.map f:=rfl
theorem yc{α β:Type _}{f:α->β}:[].map f=[]:=rfl
theorem zc{α:Type _}{a b:α}{l:List α}:(a::l).set 0 b=b::l:=rfl
theorem Ac{α:Type _}{a b:α}{l:List α}{i:Nat}:(a::l).set (i+1) b=a::l.set i b:=rfl
theorem Bc{α β:Type _}{f:α->β}{a:α}:(some a).map f=some (f a):=rfl
theorem Dc{α β:Type _}{a:α}{f:α->Option β}:(some a).bind f=f a:=rfl
theorem Ec{α:Type _}{l:List α}:[]++l=l:=rfl
theorem Jc{α:Type _}{a:α}{l k:List α}:a::l++k=a::(l++k):=rfl
theorem Kc{α:Type _}{l:List α}{i:Nat}{a:α}:l[i]?=some a->∃h:i<l.length,l[i]=a:=List.getElem?_eq_some_iff.mp
theorem Qc{α:Type _}{l k:List α}{i:Nat}(h:i<l.length):(l++k)[i]?=l[i]?:=List.getElem?_append_left h
theorem Rc:false≠true:=Bool.false_ne_true
theorem Uc(n:Nat):n<=n:=Nat.le_refl n
theorem Vc{α:Type _}{l k:List α}{i:Nat}(h:l.length<=i):(l++k)[i]?=k[i-l.length]?:=List.getElem?_append_right h
theorem Wc{α:Type _}(l:List α):l++[]=l:=List.append_nil l
theorem Xc:(false=true)=False:=Bool.false_eq_true
open PySem.W (Frag nsIn findIn keepIn fnOf mg_none_of)
namespace L2
noncomputable abbrev gC:=Sum Int Str
noncomputable def bV:gC->Value->Bool
 | .inl k,v=>Value.isInt k v
 | .inr x,v=>Value.isStrOf x v
noncomputable def WV(w:World):gC->Int
 | .inl k=>hashInt k
 | .inr x=>hashStr w x
theorem XF:∀{k:gC}{v:Value},bV k v=true->(∃i t,k=Sum.inl i/\v=Value.int i t)\/(∃x t,k=Sum.inr x/\v=Value.str x t)
 | .inl i,v,h=>by obtain⟨t,e⟩:=Value.isInt_shape (k:=i) (v:=v) h;exact .inl ⟨i,t,rfl,e⟩
 | .inr x,v,h=>by obtain⟨t,e⟩:=Value.isStrOf_shape (x:=x) (v:=v) h;exact .inr ⟨x,t,rfl,e⟩
theorem W7(a b:Int):decide ((Sum.inl a:gC)=Sum.inl b)=(a==b):=by
 by_cases e:a=b
 · subst e;simp
 · have h:¬(Sum.inl a:gC)=Sum.inl b:=fun q=>e (Sum.inl.inj q)
   rw[decide_eq_false h];exact(beq_eq_false_iff_ne.mpr e).symm
theorem Z7(a b:Str):decide ((Sum.inr a:gC)=Sum.inr b)=decide (a=b):=by
 by_cases e:a=b
 · subst e;simp
 · have h:¬(Sum.inr a:gC)=Sum.inr b:=fun q=>e (Sum.inr.inj q)
   rw[decide_eq_false h,decide_eq_false e]
theorem X7(a:Int)(b:Str):decide ((Sum.inl a:gC)=Sum.inr b)=false:=decide_eq_false (fun q=>nomatch q)
theorem Y7(a:Str)(b:Int):decide ((Sum.inr a:gC)=Sum.inl b)=false:=decide_eq_false (fun q=>nomatch q)
def MT(prog:Program)(w:World):PySem.KeyKind prog w gC where
 is:=bV
 hash:=WV w
 inj:=fun v a b ha hb=>by
  rcases XF ha with⟨i,t,rfl,rfl⟩ | ⟨x,t,rfl,rfl⟩
  · rcases XF hb with⟨j,u,rfl,e⟩ | ⟨y,u,rfl,e⟩
    · injection e with e1 _;rw[e1]
    · exact nomatch e
  · rcases XF hb with⟨j,u,rfl,e⟩ | ⟨y,u,rfl,e⟩
    · exact nomatch e
    · injection e with e1 _;rw[e1]
 byValue:=fun k v h=>by rcases XF h with⟨i,t,rfl,rfl⟩ | ⟨x,t,rfl,rfl⟩<;>rfl
 pyHash:=fun hv h=>by
  rcases XF hv with⟨i,t,rfl,rfl⟩ | ⟨x,t,rfl,rfl⟩
  · exact wpAny_pyHash_int h
  · exact wpAny_pyHash_str h
 eqBool:=fun hu hv h=>by
  rcases XF hu with⟨i,t,rfl,rfl⟩ | ⟨x,t,rfl,rfl⟩
  · rcases XF hv with⟨j,u,rfl,rfl⟩ | ⟨y,u,rfl,rfl⟩
    · rw[W7]at h;exact wpAny_eqBool_int h
    · rw[X7]at h;exact SeqAt.EqAt.int_str i t y u _ _ _ _ h
  · rcases XF hv with⟨j,u,rfl,rfl⟩ | ⟨y,u,rfl,rfl⟩
    · rw[Y7]at h;exact SeqAt.EqAt.str_int x t j u _ _ _ _ h
    · rw[Z7]at h;exact wpAny_eqBool_str h
 «strs»:=fun k x t v h=>by
  rcases XF h with⟨i,u,rfl,e⟩ | ⟨y,u,rfl,e⟩
  · exact nomatch e
  · injection e with e1 _
    subst e1;cases v<;>rfl
inductive V where
 | non | bl (b:Bool) | int (i:Int) | str (x:Str) | Nv (b:Array UInt8) | flt (b:UInt64) | ref (a:Addr) | ty (n:String)
 deriving DecidableEq
noncomputable def RelV:V->Value->Prop
 | .non,u=>u=Value.none
 | .bl b,u=>u=Value.bool b
 | .int i,u=>∃t,u=Value.int i t
 | .str x,u=>∃t,u=Value.str x t
 | .Nv b,u=>∃t,u=Value.bytes b t
 | .flt b,u=>∃t,u=Value.float b t
 | .ref a,u=>u=Value.ref a
 | .ty n,u=>u=Value.type n
abbrev Vals:List V->List Value->Prop:=Paired RelV
theorem Vals.length{xs:List V}{us:List Value}(r:Vals xs us):xs.length=us.length:=Paired.length r
theorem Vals.get:∀{xs:List V}{us:List Value}{i:Nat}{x:V},Vals xs us->xs[i]?=some x->∃u,us[i]?=some u/\RelV x u
 | _,_,_,_,.nil,e=>by simp at e
 | _,_,0,_,.cons r _,e=>by simp at e;subst e;exact⟨_,rfl,r⟩
 | _,_,i+1,x,.cons _ t,e=>by obtain⟨u,h1,h2⟩:=Vals.get (i:=i) (x:=x) t (by simpa using e);exact⟨u,by simpa using h1,h2⟩
theorem Vals.set{x:V}{u:Value}(r:RelV x u):∀{xs:List V}{us:List Value}(i:Nat),Vals xs us->Vals (xs.set i x) (us.set i u)
 | _,_,_,.nil=>.nil
 | _,_,0,.cons _ t=>.cons r t
 | _,_,i+1,.cons q t=>.cons q (Vals.set r i t)
theorem Vals.append:∀{xs ys:List V}{us ws:List Value},Vals xs us->Vals ys ws->Vals (xs++ys) (us++ws)
 | _,_,_,_,.nil,s=>s
 | _,_,_,_,.cons r t,s=>.cons r (Vals.append t s)
theorem Vals.take:∀{xs:List V}{us:List Value}(n:Nat),Vals xs us->Vals (xs.take n) (us.take n)
 | _,_,0,_=>.nil
 | _,_,_+1,.nil=>.nil
 | _,_,n+1,.cons r t=>.cons r (Vals.take n t)
theorem Vals.drop:∀{xs:List V}{us:List Value}(n:Nat),Vals xs us->Vals (xs.drop n) (us.drop n)
 | _,_,0,r=>r
 | _,_,_+1,.nil=>.nil
 | _,_,n+1,.cons _ t=>Vals.drop n t
def uw:Option V->Option Value->Prop
 | some v,some u=>RelV v u
 | none,none=>True
 | _,_=>False
def KV{κ:Type}:List (κ×V)->List (κ×Value)->Prop:=Paired fun(p:κ×V) (q:κ×Value)=>p.1=q.1/\RelV p.2 q.2
noncomputable def kV:gC->V
 | .inl i=>.int i
 | .inr x=>.str x
inductive HO where
 | lst (xs:List V)
 | tup (xs:List V)
 | dK (kvs:List (gC×V)) | dT (kvs:List (List gC×V))
 | set (S:Int->Bool) (n:Nat)
 | ins (C dx:Addr) (fs:List (Str×V))
 | own (x:Addr)
 | xd (fs:List (Str×V))
 | met (f x:Addr)
 | rng (lo hi:Int)
 | Qz (o:Obj) (u:HO)
 | Xw (ps:Array Value)
 | ext (φ:Heap->Prop)
noncomputable abbrev Hp:=Addr->Option HO
noncomputable def AB(H:Hp)(a:Addr)(o:HO):Hp:=fun b=>if b=a then some o else H b
theorem MC{H:Hp}{a:Addr}{o:HO}:AB H a o a=some o:=by unfold AB;rw[if_pos rfl]
theorem lB{H:Hp}{a b:Addr}{o:HO}(h:b≠a):AB H a o b=H b:=by unfold AB;rw[if_neg h]
theorem ZT{H:Hp}{a:Addr}{o u:HO}:AB (AB H a o) a u=AB H a u:=by funext b;unfold AB;split<;>rfl
theorem XC{H:Hp}{a b:Addr}{o:HO}(h:H a=some o)(h':H b=none):a≠b:=by intro e;subst e;rw[h]at h';cases h'
section
variable(P:Program)(w:World)
def Sq(H:Hp)(h:Heap)(a:Addr):HO->Prop
 | .lst xs=>xs.length<=sizeLine/\∃(its:List Value) (n:Nat),Vals xs its/\h.get? a=some { cls:=.type "list",data:=.seq its.toArray n }
 | .tup xs=>xs.length<=sizeLine/\∃its:List Value,Vals xs its/\IsTup h a its.toArray
 | .dK kvs=>kvs.length<=sizeLine/\(a==sysModules)=false/\∃vs,KV kvs vs/\h.DictOf (MT P w) a vs
 | .dT kvs=>kvs.length<=sizeLine/\(a==sysModules)=false/\∃xs:List (List gC×Addr×Value),
  Paired (fun(p:List gC×V) (q:List gC×Addr×Value)=>p.1=q.1/\H q.2.1=some (.tup (p.1.map kV))/\RelV p.2 q.2.2) kvs xs/\
  ∃o es ep,h.get? a=some o/\o.ExactDict/\o.data=.dict es ep/\es.toList=xs.map (entryOfKey (tupleKind (MT P w)))/\(xs.map (·.1)).Nodup
 | .set S n=>h.SetOf (intKind P w) a S n
 | .ins C dx fs=>H dx=some (.own a)/\fs.length<=1000/\dx≠a/\h.get? a=some (PySem.W.instObj C dx)/\
  ∃mA,h.Ns1 dx mA/\(∀f,uw (fs.lookup f) (mA f))/\PySem.Within mA (fs.map (·.1))
 | .own _=>∃o,h.get? a=some o
 | .xd fs=>∃mA,h.Ns1 a mA/\∀f,uw (fs.lookup f) (mA f)
 | .rng lo hi=>∃t u v,h.get? a=some { cls:=.type "range",data:=.fields #[.int lo t,.int hi u,.int 1 v] }
 | .Qz o u=>h.get? a=some o/\Sq H h a u
 | .Xw ps=>h.get? a=some { cls:=.none,data:=.fields ps }
 | .met f x=>h.get? a=some (PySem.W.methodObj (.ref f) (.ref x))
 | .ext φ=>φ h/\(∃o,h.get? a=some o)/\∀h1 h2:Heap,φ h1->(∀o,h1.get? a=some o->h2.get? a=some o)->φ h2
def Zx(H:Hp)(h:Heap):Prop:=∀a o,H a=some o->Sq P w H h a o
end
section
variable{P:Program}{w:World}{H H':Hp}{h h':Heap}{a:Addr}{o:HO}
theorem Sq.lt(x:Sq P w H h a o):a<h.objs.size:=by
 cases o with
 | lst xs=>obtain⟨_,_,_,_,e⟩:=x;exact Heap.lt_size e
 | tup xs=>obtain⟨_,_,_,p⟩:=x;exact p.lt
 | dK kvs=>obtain⟨_,_,_,_,o,_,_,e,_⟩:=x;exact Heap.lt_size e
 | dT kvs=>obtain⟨_,_,_,_,o,_,_,e,_⟩:=x;exact Heap.lt_size e
 | set S n=>obtain⟨o,_,_,_,e,_⟩:=x;exact Heap.lt_size e
 | ins C dx fs=>obtain⟨_,_,_,e,_⟩:=x;exact Heap.lt_size e
 | own y=>obtain⟨_,e⟩:=x;exact Heap.lt_size e
 | xd fs=>obtain⟨_,⟨_,_,_,e,_⟩,_⟩:=x;exact Heap.lt_size e
 | rng lo hi=>obtain⟨_,_,_,e⟩:=x;exact Heap.lt_size e
 | Qz ob u=>obtain⟨e,_⟩:=x;exact Heap.lt_size e
 | Xw ps=>exact Heap.lt_size (show h.get? a=some _ from x)
 | met f y=>exact Heap.lt_size (show h.get? a=some _ from x)
 | ext φ=>obtain⟨_,⟨_,e⟩,_⟩:=x;exact Heap.lt_size e
theorem Paired.Vw{α β:Type}{F G:α->β->Prop}:∀{l₁:List α}{l₂:List β},Paired F l₁ l₂->(∀a b,F a b->G a b)->Paired G l₁ l₂
 | _,_,.nil,_=>.nil
 | _,_,.cons r t,f=>.cons (f _ _ r) (Paired.Vw t f)
theorem Sq.stay(x:Sq P w H h a o)(k:∀b u,(b=a\/H b=some (.own a))->h.get? b=some u->h'.get? b=some u)
 (ho:∀b,H b=some (.own a)->H' b=some (.own a)) (ht:∀b xs,H b=some (.tup xs)->H' b=some (.tup xs)):Sq P w H' h' a o:=by
 induction o with
 | lst xs=>obtain⟨z,its,n,r,e⟩:=x;exact⟨z,its,n,r,k _ _ (.inl rfl) e⟩
 | tup xs=>obtain⟨z,its,r,ob,e,c⟩:=x;exact⟨z,its,r,ob,k _ _ (.inl rfl) e,c⟩
 | dK kvs=>obtain⟨z,y,vs,r,ob,es,ep,e,c⟩:=x;exact⟨z,y,vs,r,ob,es,ep,k _ _ (.inl rfl) e,c⟩
 | dT kvs=>obtain⟨z,y,xs,r,ob,es,ep,e,c⟩:=x;exact⟨z,y,xs,Paired.Vw r fun p q z=>⟨z.1,ht _ _ z.2.1,z.2.2⟩,ob,es,ep,k _ _ (.inl rfl) e,c⟩
 | set S n=>obtain⟨ob,es,ep,t,e,c⟩:=x;exact⟨ob,es,ep,t,k _ _ (.inl rfl) e,c⟩
 | ins C dx fs=>obtain⟨d,z,ne,e,mA,⟨od,es,ep,e2,c⟩,r⟩:=x;exact⟨ho _ d,z,ne,k _ _ (.inl rfl) e,mA,⟨od,es,ep,k _ _ (.inr d) e2,c⟩,r⟩
 | own y=>obtain⟨ob,e⟩:=x;exact⟨ob,k _ _ (.inl rfl) e⟩
 | xd fs=>obtain⟨mA,⟨od,es,ep,e,c⟩,r⟩:=x;exact⟨mA,⟨od,es,ep,k _ _ (.inl rfl) e,c⟩,r⟩
 | rng lo hi=>obtain⟨t,u,v,e⟩:=x;exact⟨t,u,v,k _ _ (.inl rfl) e⟩
 | Qz ob u ih=>obtain⟨e,q⟩:=x;exact⟨k _ _ (.inl rfl) e,ih q⟩
 | Xw ps=>have e:h.get? a=some { cls:=.none,data:=.fields ps }:=x;show h'.get? a=some { cls:=.none,data:=.fields ps };exact k a _ (.inl rfl) e
 | met f y=>have e:h.get? a=some (PySem.W.methodObj (.ref f) (.ref y)):=x;show h'.get? a=some (PySem.W.methodObj (.ref f) (.ref y));exact k a _ (.inl rfl) e
 | ext φ=>obtain⟨p,⟨o,e⟩,st⟩:=x;exact⟨st _ _ p fun o q=>k _ _ (.inl rfl) q,⟨o,k _ _ (.inl rfl) e⟩,st⟩
theorem Zx.lt(x:Zx P w H h)(e:H a=some o):a<h.objs.size:=(x a o e).lt
theorem Zx.fresh(x:Zx P w H h)(e:h.objs.size<=a):H a=none:=by
 cases q:H a with
 | none=>rfl
 | some u=>exact absurd (Nat.lt_of_lt_of_le (x.lt q) e) (Nat.lt_irrefl _)
theorem Zx.kept(x:Zx P w H h)(k:∀b u,h.get? b=some u->h'.get? b=some u):Zx P w H h':=fun a o e=>(x a o e).stay (fun b u _ q=>k b u q) (fun _ q=>q) fun _ _ q=>q
theorem Zx.laid(x:Zx P w H h)(k:∀b u,h.get? b=some u->h'.get? b=some u)(hp:h.objs.size<=a)(new:Sq P w (AB H a o) h' a o):Zx P w (AB H a o) h':=fun b u e=>by
 have hn:=x.fresh hp;by_cases hb:b=a
 · subst hb;rw[MC]at e;cases e;exact new
 · rw[lB hb]at e;exact(x b u e).stay (fun c v _ q=>k c v q) (fun c q=>by rw[lB (XC q hn)];exact q) fun c xs q=>by rw[lB (XC q hn)];exact q
end
noncomputable def Rd(H:Hp)(a:Addr)(u:HO):Prop:=H a=some u\/∃o,H a=some (.Qz o u)
theorem Rd.ok{P:Program}{w:World}{H:Hp}{h:Heap}{a:Addr}{u:HO}(r:Rd H a u)(x:Zx P w H h):Sq P w H h a u:=by
 rcases r with r | ⟨o,r⟩
 · exact x a u r
 · obtain⟨_,q⟩:=x a _ r;exact q
noncomputable def VQ:Option HO->Prop
 | some (.lst _)=>True
 | some (.dK _)=>True
 | some (.dT _)=>True
 | some (.set _ _)=>True
 | some (.ins _ _ _)=>True
 | some (.ext _)=>True
 | _=>False
section
variable{P:Program}{w:World}{H:Hp}{h h':Heap}{x e:Addr}{o':HO}
theorem Zx.write(ok:Zx P w H h)(mu:VQ (H x))(he:e=x\/H e=some (.own x))(k:∀b u,b≠e->h.get? b=some u->h'.get? b=some u)(heo:∃u,h'.get? e=some u)
 (new:Sq P w (AB H x o') h' x o'):Zx P w (AB H x o') h':=fun b u q=>by
 have Xk:∀c y,H c=some (.own y)->c≠x:=fun c y r z=>by subst z;rw[r]at mu;exact mu
 have Qh:∀c xs,H c=some (.tup xs)->c≠x:=fun c xs r z=>by subst z;rw[r]at mu;exact mu
 by_cases hb:b=x
 · subst hb;rw[MC]at q;cases q;exact new
 · rw[lB hb]at q;by_cases hbe:b=e
   · have q':H b=some (.own x):=by
      rcases he with z | z
      · exact absurd (hbe.trans z) hb
      · rw[hbe];exact z
     rw[q]at q';cases q';obtain⟨v,hv⟩:=heo;exact⟨v,by rw[hbe];exact hv⟩
   · refine(ok b u q).stay (fun c v hc r=>k c v ?_ r) (fun c r=>by rw[lB (Xk c b r)];exact r) fun c xs r=>by rw[lB (Qh c xs r)];exact r
     rcases hc with rfl | hc
     · exact hbe
     · rintro rfl;rcases he with z | z
       · exact Xk c b hc z
       · rw[hc]at z;cases z;exact hb rfl
end
structure Un(fs ex:List Addr)(H H':Hp)(h h':Heap):Prop where
 keep:∀b o,h.get? b=some o->H b=none->b∉fs->b∉ex->h'.get? b=some o
 slot:∀b o,h.get? b=some o->H b=none->b∈fs->b∉ex->∃sl,h'.get? b=some { o with slots:=sl }
 free:∀b o,h.get? b=some o->H b=none->b∉ex->H' b=none
 there:∀b o,h.get? b=some o->b∉ex->∃o',h'.get? b=some o'
 tups:∀b xs,H b=some (.tup xs)->H' b=some (.tup xs)
 Px:∀b o u,H b=some (.Qz o u)->H' b=some (.Qz o u)
 Xx:∀b ps,H b=some (.Xw ps)->∃more,H' b=some (.Xw (ps++more))
section
variable{fs fs' ex ex':List Addr}{H H1 H2:Hp}{h h1 h2 h':Heap}{a x e:Addr}{o:HO}
theorem Un.any(u:Un fs ex H H1 h h1){b:Addr}{ob:Obj}(q:h.get? b=some ob)(n:H b=none)(hx:b∉ex):∃sl,h1.get? b=some { ob with slots:=sl }:=by
 by_cases hb:b∈fs
 · exact u.slot b ob q n hb hx
 · exact⟨ob.slots,u.keep b ob q n hb hx⟩
theorem Un.trans(a:Un fs ex H H1 h h1)(b:Un fs ex H1 H2 h1 h2):Un fs ex H H2 h h2 where
 keep:=fun c ob q n hc hx=>b.keep c ob (a.keep c ob q n hc hx) (a.free c ob q n hx) hc hx
 slot:=fun c ob q n hc hx=>by obtain⟨sl,e1⟩:=a.slot c ob q n hc hx;obtain⟨sl',e2⟩:=b.slot c _ e1 (a.free c ob q n hx) hc hx;exact⟨sl',e2⟩
 free:=fun c ob q n hx=>by obtain⟨o',e1⟩:=a.there c ob q hx;exact b.free c o' e1 (a.free c ob q n hx) hx
 there:=fun c ob q hx=>by obtain⟨o',e1⟩:=a.there c ob q hx;exact b.there c o' e1 hx
 tups:=fun c xs q=>b.tups c xs (a.tups c xs q)
 Px:=fun c ob xs q=>b.Px c ob xs (a.Px c ob xs q)
 Xx:=fun c ps q=>by obtain⟨m1,e1⟩:=a.Xx c ps q;obtain⟨m2,e2⟩:=b.Xx c _ e1;exact⟨m1++m2,by rw[e2,Array.append_assoc]⟩
theorem Un.kept(k:∀b u,h.get? b=some u->h'.get? b=some u):Un fs ex H H h h':=
 ⟨fun b ob q _ _ _=>k b ob q,fun b ob q _ _ _=>⟨ob.slots,k b ob q⟩,fun _ _ _ n _=>n,fun b ob q _=>⟨ob,k b ob q⟩,fun _ _ q=>q,fun _ _ _ q=>q,fun _ ps q=>⟨#[],by rw[q];simp⟩⟩
theorem Un.refl:Un fs ex H H h h:=Un.kept fun _ _ q=>q
theorem Un.laid(k:∀b u,h.get? b=some u->h'.get? b=some u)(hp:h.objs.size<=a)(hn:H a=none):Un fs ex H (AB H a o) h h' where
 keep:=fun b u q _ _ _=>k b u q
 slot:=fun b u q _ _ _=>⟨u.slots,k b u q⟩
 free:=fun b u q n _=>by rw[lB (Nat.ne_of_lt (Nat.lt_of_lt_of_le (Heap.lt_size q) hp))];exact n
 there:=fun b u q _=>⟨u,k b u q⟩
 tups:=fun b xs q=>by rw[lB (XC q hn)];exact q
 Px:=fun b u xs q=>by rw[lB (XC q hn)];exact q
 Xx:=fun b ps q=>⟨#[],by rw[lB (XC q hn),q];simp⟩
theorem Un.write(mu:VQ (H x))(he:e=x\/H e=some (.own x))(k:∀b u,b≠e->h.get? b=some u->h'.get? b=some u)(heo:∃u,h'.get? e=some u):Un fs ex H (AB H x o) h h':=by
 have hx:∀b,H b=none->b≠x:=fun b n z=>by subst z;rw[n]at mu;exact mu
 have hb:∀b,H b=none->b≠e:=fun b n z=>by
  subst z;rcases he with r | r
  · exact hx b n r
  · rw[n]at r;cases r
 have hm:∀b u,H b=some u->¬VQ (some u)->b≠x:=fun b u q nm z=>by subst z;rw[q]at mu;exact nm mu
 refine⟨fun b u q n _ _=>k b u (hb b n) q,fun b u q n _ _=>⟨u.slots,k b u (hb b n) q⟩,fun b u q n _=>by rw[lB (hx b n)];exact n,fun b u q _=>?_,
  fun b xs q=>by rw[lB (hm b _ q fun z=>z)];exact q,fun b u xs q=>by rw[lB (hm b _ q fun z=>z)];exact q,fun b ps q=>⟨#[],by rw[lB (hm b _ q fun z=>z),q];simp⟩⟩
 by_cases hbe:b=e
 · subst hbe;exact heo
 · exact⟨u,k b u hbe q⟩
theorem Un.mono(u:Un fs ex H H1 h h1)(hs:∀b∈fs,b∈fs')(hx:∀b∈ex,b∈ex'):Un fs' ex' H H1 h h1:=
 ⟨fun b ob q n hb he=>u.keep b ob q n (fun z=>hb (hs b z)) fun z=>he (hx b z),fun _ _ q n _ he=>u.any q n fun z=>he (hx _ z),fun b ob q n he=>u.free b ob q n fun z=>he (hx b z),fun b ob q he=>u.there b ob q fun z=>he (hx b z),u.tups,u.Px,u.Xx⟩
end
noncomputable def CV(h:Heap)(H:Hp):List Addr:=(List.range h.objs.size).filter fun a=>(H a).isSome
def KF(h:Heap)(H:Hp):Heap:=PySem.W.hideAll h (CV h H)
theorem DY(h:Heap)(H:Hp):(KF h H).objs.size=h.objs.size:=PySem.W.hideAll_size _ _
theorem pZ{h:Heap}{H:Hp}{b:Addr}{o:Obj}(e:h.get? b=some o)(n:H b=none):(KF h H).get? b=some o:=
 PySem.W.hideAll_get _ e fun hm=>by have q:(H b).isSome=true:=(mem_filter.mp hm).2;rw[n]at q;simp at q
theorem K5{h:Heap}{H:Hp}{b:Addr}{o:Obj}(e:(KF h H).get? b=some o):h.get? b=some o/\H b=none:=by
 have e':h.get? b=some o:=PySem.W.of_hideAll (CV h H) e;refine⟨e',?_⟩;cases q:H b with
 | none=>rfl
 | some x=>have hm:b∈CV h H:=mem_filter.mpr ⟨mem_range.mpr (Heap.lt_size e'),by simp[q]⟩;have z:(KF h H).get? b=none:=PySem.W.hideAll_none (CV h H) hm;rw[z]at e;cases e
noncomputable def Z2(g h:Heap)(L:Addr):List (Addr×Obj):=(List.range h.objs.size).filterMap fun a=>if a=L\/(g.get? a).isSome=true then none else(h.get? a).map fun o=>(a,o)
def rest(g h:Heap)(L d:Addr):List (Addr×Obj):=(Z2 g h L).filter fun p=>decide (p.1≠d)
structure Mod(K:Frag)(mg:Str->Option Value)(base:Heap):Prop where
 Pk:K.In base
 glob:base.Ns mainGlobals mg
 blt:∃mb,base.Ns builtinsNs mb/\∀x:Str,x ≠ "__name__" ->mb x=bootBuiltins x
 nolimit:base.NoLimit
structure Cx where
 prog:Program
 w:World
 K:Frag
 mg:Str->Option Value
 base:Heap
 A:Around
 N:List Str
 s₀:Shared
 H₀:Hp
 env:Env
 outer:List Env
 stack:List Env
 ex:List Addr
 fn:Str->Bool
 calm:Bool
 pn:List (Addr×Obj)
 xe:Value->Shared->Prop
noncomputable def KG(l:List Env):List Addr:=l.filterMap (·.frame)
abbrev Cx.fs(X:Cx):List Addr:=KG X.outer
noncomputable def kK(sc:Scope)(x:Str):Prop:=sc.names.lookup x=some .local\/sc.names.lookup x=some .cell\/sc.names.lookup x=some .free
noncomputable def NM(sc:Scope)(x:Str):Prop:=sc.names.lookup x=some .local\/sc.names.lookup x=some .cell
noncomputable def LV(env:Env)(h:Heap)(m:Str->Option Value)(x:Str)(u:Value):Prop:=
 (env.kindOf x=some .local/\m x=some u)\/((env.kindOf x=some .cell\/env.kindOf x=some .free)/\∃c,env.cells.lookup x=some c/\h.IsCell c (some u))
structure Cx.Ok(X:Cx):Prop where
 mod:Mod X.K X.mg X.base
 kind:X.env.scope.kind=.function
 glob:X.env.globals=mainGlobals
 blt:X.env.builtins=builtinsNs
 above:X.s₀.heap.objs.size<=X.env.locals
 inj:∀x y c,X.env.cells.lookup x=some c->X.env.cells.lookup y=some c->x=y
 has:∀x,(X.env.kindOf x=some .cell\/X.env.kindOf x=some .free)->∃c,X.env.cells.lookup x=some c
 cab:∀x c,X.fn x=true->X.env.cells.lookup x=some c->X.s₀.heap.objs.size<=c
 hd:X.calm=true->X.A.handled=none
 frames:X.A.frames=some X.stack
 stk:X.stack=X.outer\/(X.stack=X.env::X.outer/\X.env.frame=some X.env.locals)
 Ek:∀b∈X.ex,b≠X.env.locals/\∀x c,X.env.cells.lookup x=some c->c≠b
 bs:∀b o,X.base.get? b=some o->X.s₀.heap.get? b=some o/\X.H₀ b=none
 yw:X.base.objs.size<=X.s₀.heap.objs.size
 Hv:∀b o,X.base.get? b=some o->b∉X.ex
 Gv:∀b∈X.ex,b∉X.fs
 Wx:X.s₀.heap.FunFrames X.base X.outer
 Hw:∀b∈X.fs,X.H₀ b=none
structure Inv(X:Cx)(pins:List (Addr×Obj))(σ:List (Option V))(H:Hp)(s:Shared):Prop where
 ok:X.Ok
 os:s.os=X.s₀.os
 bare:AllBare s.gens
 base:Un X.fs X.ex X.H₀ H X.s₀.heap s.heap
 loc:∃m,s.heap.Ns X.env.locals m/\∀(i:Nat)(x:Str)(v:V),X.N[i]?=some x->σ[i]?=some (some v)->kK X.env.scope x->∃u,RelV v u/\LV X.env s.heap m x u
 cell:∀x c,X.env.cells.lookup x=some c->∃v,s.heap.IsCell c v
 free:H X.env.locals=none
 ux:∀x c,X.env.cells.lookup x=some c->H c=none
 pin:∀p∈X.pn++pins,s.heap.get? p.1=some p.2/\H p.1=none/\p.1≠X.env.locals/\p.1∉X.fs/\∀v,p.2.data≠.cell v
 hok:Zx X.prog X.w H s.heap
 len:σ.length=X.N.length
section
variable{X:Cx}{pins:List (Addr×Obj)}{σ:List (Option V)}{H H':Hp}{s:Shared}{h':Heap}
theorem Cx.Ok.Oh(ok:X.Ok){b:Addr}{o:Obj}(e:X.base.get? b=some o):b∉X.fs:=fun hb=>by have:=(ok.Wx.mem hb).1;rw[e]at this;cases this
theorem Inv.bs(I:Inv X pins σ H s):∀b o,X.base.get? b=some o->s.heap.get? b=some o/\H b=none:=fun b o e=>⟨I.base.keep b o (I.ok.bs b o e).1 (I.ok.bs b o e).2 (I.ok.Oh e) (I.ok.Hv b o e),I.base.free b o (I.ok.bs b o e).1 (I.ok.bs b o e).2 (I.ok.Hv b o e)⟩
theorem Inv.bk(I:Inv X pins σ H s):∀b o,X.base.get? b=some o->s.heap.get? b=some o:=fun b o e=>(I.bs b o e).1
theorem Inv.mod(I:Inv X pins σ H s):Mod X.K X.mg X.base:=I.ok.mod
theorem Inv.Jx(I:Inv X pins σ H s):X.K.In s.heap:=I.ok.mod.Pk.keeps I.bk
theorem Inv.nolimit(I:Inv X pins σ H s):s.heap.NoLimit:=I.ok.mod.nolimit.keeps I.bk
theorem Inv.lt(I:Inv X pins σ H s):X.env.locals<s.heap.objs.size:=let ⟨_,hn,_⟩:=I.loc;hn.lt
theorem Inv.sz(I:Inv X pins σ H s):X.s₀.heap.objs.size<=s.heap.objs.size:=Nat.le_trans I.ok.above (Nat.le_of_lt I.lt)
theorem Inv.Ph(I:Inv X pins σ H s){a:Addr}(h:s.heap.objs.size<=a):a∉X.fs:=fun hb=>by obtain⟨_,o,ho,_⟩:=I.ok.Wx.mem hb;exact absurd (Nat.lt_of_lt_of_le (Heap.lt_size ho) (Nat.le_trans I.sz h)) (Nat.lt_irrefl _)
theorem Inv.Aw(I:Inv X pins σ H s):∀x c,X.env.cells.lookup x=some c->c≠X.env.locals:=fun x c e z=>by obtain⟨v,o,ho,hd⟩:=I.cell x c e;obtain⟨m,⟨o',es,ep,ho',hd',_⟩,_⟩:=I.loc;rw[z,ho']at ho;cases ho;rw[hd']at hd;cases hd
theorem Inv.Wx(I:Inv X pins σ H s):s.heap.FunFrames X.base X.outer:=by
 have all:∀(l:List Env),(∀b∈KG l,b∈X.fs)->X.s₀.heap.FunFrames X.base l->s.heap.FunFrames X.base l:=by
  intro l
  induction l with
  | nil=>intro _ _;trivial
  | cons env r ih=>
   intro hs hl;obtain⟨hk,⟨L,o,hf,hn,ho,hd⟩,hr⟩:=hl;have hL:L∈X.fs:=hs L (by unfold KG;rw[filterMap_cons,hf];exact mem_cons_self);obtain⟨sl,e⟩:=I.base.slot L o ho (I.ok.Hw L hL) hL fun z=>I.ok.Gv L z hL
   exact⟨hk,⟨L,_,hf,hn,e,hd⟩,ih (fun b hb=>hs b (by unfold KG;rw[filterMap_cons,hf];exact mem_cons_of_mem _ hb)) hr⟩
 exact all X.outer (fun _ hb=>hb) I.ok.Wx
theorem Inv.stack(I:Inv X pins σ H s):s.heap.FunFrames X.base X.stack:=by
 rcases I.ok.stk with e | ⟨e,hf⟩
 · rw[e];exact I.Wx
 · rw[e];obtain⟨m,hn,_⟩:=I.loc;refine .cons (by rw[I.ok.kind];decide) hf hn ?_ I.Wx;exact Heap.get?_none_of_le (Nat.le_trans I.ok.yw I.ok.above)
theorem Inv.Mz(I:Inv X pins σ H s):∀b∈KG X.stack,b∈X.env.locals::X.fs:=fun b hb=>by
 rcases I.ok.stk with e | ⟨e,hf⟩
 · rw[e]at hb;exact mem_cons_of_mem _ hb
 · rw[e]at hb;unfold KG at hb;rw[filterMap_cons,hf]at hb;exact hb
theorem Inv.Lz(I:Inv X pins σ H s):∀b∈KG X.stack,H b=none:=fun b hb=>by
 rcases mem_cons.mp (I.Mz b hb)with e | hb
 · rw[e];exact I.free
 · obtain⟨_,o,ho,_⟩:=I.ok.Wx.mem hb;exact I.base.free b o ho (I.ok.Hw b hb) fun z=>I.ok.Gv b z hb
theorem Inv.step{g':Array GenState}{t':Nat}{d':Drawn}{ch:List Addr}(I:Inv X pins σ H s)
 (hch:∀b∈ch,(b∈X.ex\/X.s₀.heap.objs.size<=b)/\b≠X.env.locals/\(∀x c,X.env.cells.lookup x=some c->c≠b)/\∀p∈X.pn++pins,p.1≠b)
 (keep:∀b o,b≠X.env.locals->b∉X.fs->b∉ch->s.heap.get? b=some o->H b=none->h'.get? b=some o)
 (slot:∀b o,b≠X.env.locals->b∈X.fs->b∉ch->s.heap.get? b=some o->H b=none->∃sl,h'.get? b=some { o with slots:=sl }) (free:∀b o,b∉ch->s.heap.get? b=some o->H b=none->H' b=none)
 (there:∀b o,b∉ch->s.heap.get? b=some o->∃o',h'.get? b=some o')
 (tups:∀b xs,H b=some (.tup xs)->H' b=some (.tup xs)) (Px:∀b o u,H b=some (.Qz o u)->H' b=some (.Qz o u)) (Xx:∀b ps,H b=some (.Xw ps)->∃more,H' b=some (.Xw (ps++more)))
 (ns:∀m,s.heap.Ns X.env.locals m->h'.Ns X.env.locals m) (hok:Zx X.prog X.w H' h') (hg:AllBare g') :
 Inv X pins σ H' { s with heap:=h',gens:=g',drawn:=d',toks:=t' }:=by
 have Uk:∀b o,X.s₀.heap.get? b=some o->b≠X.env.locals:=fun b o e=>Nat.ne_of_lt (Nat.lt_of_lt_of_le (Heap.lt_size e) I.ok.above)
 have Yg:∀b o,X.s₀.heap.get? b=some o->b∉X.ex->b∉ch:=fun b o e hx hb=>by
  rcases(hch b hb).1 with z | z
  · exact hx z
  · exact absurd (Nat.lt_of_lt_of_le (Heap.lt_size e) z) (Nat.lt_irrefl _)
 have cellK:∀x c,X.env.cells.lookup x=some c->∀v,s.heap.IsCell c v->h'.IsCell c v:=fun x c e v zz=>by
  obtain⟨o,ho,hd⟩:=zz;have Rk:c∉ch:=fun z=>(hch c z).2.2.1 x c e rfl
  by_cases hc:c∈X.fs
  · obtain⟨sl,q⟩:=slot c o (I.Aw x c e) hc Rk ho (I.ux x c e);exact⟨_,q,hd⟩
  · exact⟨o,keep c o (I.Aw x c e) hc Rk ho (I.ux x c e),hd⟩
 refine⟨I.ok,I.os,hg,⟨fun b o e n hb hx=>?_,fun b o e n hb hx=>?_,fun b o e n hx=>?_,fun b o e hx=>?_,fun b xs e=>tups b xs (I.base.tups b xs e),fun b o xs e=>Px b o xs (I.base.Px b o xs e),fun b ps e=>?_⟩,?_,fun x c e=>?_,?_,fun x c e=>?_,fun p hp=>?_,hok,I.len⟩
 · exact keep b o (Uk b o e) hb (Yg b o e hx) (I.base.keep b o e n hb hx) (I.base.free b o e n hx)
 · obtain⟨sl,e1⟩:=I.base.slot b o e n hb hx;obtain⟨sl',e2⟩:=slot b _ (Uk b o e) hb (Yg b o e hx) e1 (I.base.free b o e n hx);exact⟨sl',e2⟩
 · obtain⟨o',e1⟩:=I.base.there b o e hx;exact free b o' (Yg b o e hx) e1 (I.base.free b o e n hx)
 · obtain⟨o',e1⟩:=I.base.there b o e hx;exact there b o' (Yg b o e hx) e1
 · obtain⟨m1,e1⟩:=I.base.Xx b ps e;obtain⟨m2,e2⟩:=Xx b _ e1;exact⟨m1++m2,by rw[e2,Array.append_assoc]⟩
 · obtain⟨m,hn,hl⟩:=I.loc;refine⟨m,ns m hn,fun i x v e1 e2 e3=>?_⟩;obtain⟨u,r,l⟩:=hl i x v e1 e2 e3;refine⟨u,r,?_⟩;rcases l with l | ⟨k,c,e,z⟩
   · exact .inl l
   · exact .inr ⟨k,c,e,cellK x c e _ z⟩
 · obtain⟨v,z⟩:=I.cell x c e;exact⟨v,cellK x c e v z⟩
 · obtain⟨m,⟨o,_,_,ho,_⟩,_⟩:=I.loc;exact free _ o (fun z=>(hch _ z).2.1 rfl) ho I.free
 · obtain⟨v,o,ho,hd⟩:=I.cell x c e;exact free c o (fun z=>(hch c z).2.2.1 x c e rfl) ho (I.ux x c e)
 · obtain⟨e,n,ne,nf,d⟩:=I.pin p hp;have Rk:p.1∉ch:=fun z=>(hch p.1 z).2.2.2 p hp rfl
   exact⟨keep p.1 p.2 ne nf Rk e n,free p.1 p.2 Rk e n,ne,nf,d⟩
theorem Inv.un{t':Nat}(I:Inv X pins σ H s)(u:Un X.fs [] H H' s.heap h')(hok:Zx X.prog X.w H' h'):Inv X pins σ H' { s with heap:=h',toks:=t' }:=by
 obtain⟨m,⟨o,es,ep,ho,r⟩,_⟩:=id I.loc;obtain⟨sl,hL⟩:=u.any ho I.free (by simp);exact I.step (g':=s.gens) (d':=s.drawn) (ch:=[]) (fun _ z=>nomatch z) (fun b o _ hb _ e n=>u.keep b o e n hb (by simp)) (fun b o _ hb _ e n=>u.slot b o e n hb (by simp)) (fun b o _ e n=>u.free b o e n (by simp)) (fun b o _ e=>u.there b o e (by simp)) u.tups u.Px u.Xx (fun m' hm=>by
  obtain⟨o',es',ep',ho',r'⟩:=hm;rw[ho]at ho';cases ho';exact⟨_,es',ep',hL,r'⟩) hok I.bare
theorem Inv.call{g':Array GenState}{t':Nat}{d':Drawn}{ch:List Addr}(I:Inv X pins σ H s)(u:Un (KG X.stack) ch H H' s.heap h')(hok:Zx X.prog X.w H' h')(hg:AllBare g')
 (hch:∀b∈ch,(b∈X.ex\/X.s₀.heap.objs.size<=b)/\b≠X.env.locals/\(∀x c,X.env.cells.lookup x=some c->c≠b)/\∀p∈X.pn++pins,p.1≠b) :
 Inv X pins σ H' { s with heap:=h',gens:=g',drawn:=d',toks:=t' }:=by
 obtain⟨m,⟨o,es,ep,ho,r⟩,_⟩:=id I.loc;obtain⟨sl,hL⟩:=u.any ho I.free fun z=>(hch _ z).2.1 rfl
 exact I.step (ch:=ch) hch (fun b o hL hb hc e n=>u.keep b o e n (fun z=>(mem_cons.mp (I.Mz b z)).elim hL hb) hc) (fun b o _ _ hc e n=>u.any e n hc) (fun b o hc e n=>u.free b o e n hc) (fun b o hc e=>u.there b o e hc) u.tups u.Px u.Xx (fun m' hm=>by
  obtain⟨o',es',ep',ho',r'⟩:=hm;rw[ho]at ho';cases ho';exact⟨_,es',ep',hL,r'⟩) hok hg
theorem Inv.turned{t':Nat}{it:Addr}(I:Inv X pins σ H s)(k:∀b o,b≠it->s.heap.get? b=some o->h'.get? b=some o)(hn:H it=none)(hL:it≠X.env.locals)
 (h1:it∈X.ex\/X.s₀.heap.objs.size<=it) (h2:∀x c,X.env.cells.lookup x=some c->c≠it) (h3:∀p∈X.pn++pins,p.1≠it):Inv X pins σ H { s with heap:=h',toks:=t' }:=by
 have xr:∀b u,H b=some u->b≠it:=fun b u e z=>by rw[z,hn]at e;cases e
 refine I.step (g':=s.gens) (d':=s.drawn) (ch:=[it]) (fun b hb=>?_) (fun b o _ _ hc e _=>k b o (fun z=>hc (by simp[z])) e) (fun b o _ _ hc e _=>⟨o.slots,k b o (fun z=>hc (by simp[z])) e⟩) (fun _ _ _ _ n=>n)
  (fun b o hc e=>⟨o,k b o (fun z=>hc (by simp[z])) e⟩) (fun _ _ e=>e) (fun _ _ _ e=>e) (fun b ps e=>⟨#[],by rw[e];simp⟩) (fun m hm=>?_) (fun b u e=>?_) I.bare
 · have e:b=it:=by simpa using hb
   subst e;exact⟨h1,hL,h2,h3⟩
 · obtain⟨o,es,ep,ho,r⟩:=hm;exact⟨o,es,ep,k _ o (Ne.symm hL) ho,r⟩
 · refine(I.hok b u e).stay (fun c v hc q=>k c v ?_ q) (fun _ q=>q) fun _ _ q=>q
   rcases hc with z | z
   · rw[z];exact xr b u e
   · exact xr c _ z
theorem Inv.tok(I:Inv X pins σ H s)(t:Nat):Inv X pins σ H { s with toks:=t }:=I.un (h':=s.heap) (t':=t) Un.refl I.hok
theorem Inv.kept{t':Nat}(I:Inv X pins σ H s)(k:∀b u,s.heap.get? b=some u->h'.get? b=some u):Inv X pins σ H { s with heap:=h',toks:=t' }:=I.un (Un.kept k) (I.hok.kept k)
theorem Inv.laid{a:Addr}{o:HO}{t':Nat}(I:Inv X pins σ H s)(k:∀b u,s.heap.get? b=some u->h'.get? b=some u)(hp:s.heap.objs.size<=a)(new:Sq X.prog X.w (AB H a o) h' a o) :
 Inv X pins σ (AB H a o) { s with heap:=h',toks:=t' }:=I.un (Un.laid k hp (I.hok.fresh hp)) (I.hok.laid k hp new)
theorem Inv.write{x e:Addr}{o:HO}{t':Nat}(I:Inv X pins σ H s)(mu:VQ (H x))(he:e=x\/H e=some (.own x))(k:∀b u,b≠e->s.heap.get? b=some u->h'.get? b=some u)(heo:∃u,h'.get? e=some u)
 (new:Sq X.prog X.w (AB H x o) h' x o):Inv X pins σ (AB H x o) { s with heap:=h',toks:=t' }:=I.un (Un.write mu he k heo) (I.hok.write mu he k heo new)
theorem Inv.Bv{Sv:List (Addr×Obj)}(I:Inv X pins σ H s)(h:∀p∈Sv,s.heap.get? p.1=some p.2/\H p.1=none/\p.1≠X.env.locals/\p.1∉X.fs/\∀v,p.2.data≠.cell v):Inv X Sv σ H s:=
 ⟨I.ok,I.os,I.bare,I.base,I.loc,I.cell,I.free,I.ux,fun p hp=>(mem_append.mp hp).elim (fun z=>I.pin p (mem_append_left _ z)) (h p),I.hok,I.len⟩
theorem IP{N:List Str}(hN:N.Nodup){i j:Nat}{x:Str}(a:N[i]?=some x)(b:N[j]?=some x):i=j:=by obtain⟨h1,e1⟩:=Kc a;obtain⟨h2,e2⟩:=Kc b;exact(getElem_inj hN).mp (e1.trans e2.symm)
theorem nS{M:Model}{A:Around}{E:Value->Shared->Prop}{i:Nat}{x:Str}{v:V}{u:Value}{Q:Unit->Shared->Prop}(I:Inv X pins σ H s)(hN:X.N.Nodup)(hi:X.N[i]?=some x)(hx:NM X.env.scope x)(r:RelV v u)
 (h:∀s',Inv X pins (σ.set i (some v)) H s'->(∃a,Heap.SameBut a s.heap s'.heap/\(a=X.env.locals\/X.env.cells.lookup x=some a))->Q () s') (hf:X.fn x=true\/X.env.scope.names.lookup x=some .local:=by first | exact .inl rfl | exact .inr rfl | assumption):wpAny M A (storeName X.env x u) Q E s:=by
 obtain⟨m,hn,hl⟩:=id I.loc;have hcls:(X.env.scope.kind==.class || (X.env.scope.kind==.module&&X.env.locals !=X.env.globals))=false:=by rw[I.ok.kind];rfl
 have Ut:i<σ.length:=by rw[I.len];exact(Kc hi).1
 have Aw:=I.Aw;have tracked:∀{a:Addr}{h':Heap},(∃o,s.heap.get? a=some o/\H a=none)->Heap.SameBut a s.heap h'->Zx X.prog X.w H h':=fun {a h'} ha hs b ob e=>by
  obtain⟨_,_,hfree⟩:=ha;refine(I.hok b ob e).stay (fun c w' hc q=>(hs.2 c ?_).trans q) (fun _ q=>q) fun _ _ q=>q
  rintro rfl;rcases hc with rfl | hc
  · rw[hfree]at e;cases e
  · rw[hfree]at hc;cases hc
 rcases hx with hk | hk
 · refine wpAny_storeName_local hk hn (fun h' hn' hs=>?_) hcls;obtain⟨oL,_,_,hoL,_⟩:=id hn;refine h _ ⟨I.ok,I.os,I.bare,⟨fun b o e n hb hx=>?_,fun b o e n hb hx=>?_,I.base.free,fun b o e hx=>?_,I.base.tups,I.base.Px,I.base.Xx⟩,⟨_,hn',fun j y v' e1 e2 e3=>?_⟩,fun y c e=>?_,I.free,I.ux,fun p hp=>?_,tracked ⟨oL,hoL,I.free⟩ hs,by simpa using I.len⟩ ⟨_,hs,.inl rfl⟩
   · exact(hs.2 b (Nat.ne_of_lt (Nat.lt_of_lt_of_le (Heap.lt_size e) I.ok.above))).trans (I.base.keep b o e n hb hx)
   · obtain⟨sl,e1⟩:=I.base.slot b o e n hb hx;exact⟨sl,(hs.2 b (Nat.ne_of_lt (Nat.lt_of_lt_of_le (Heap.lt_size e) I.ok.above))).trans e1⟩
   · obtain⟨o',e1⟩:=I.base.there b o e hx;exact⟨o',(hs.2 b (Nat.ne_of_lt (Nat.lt_of_lt_of_le (Heap.lt_size e) I.ok.above))).trans e1⟩
   · by_cases hj:j=i
     · subst hj;rw[hi]at e1;cases e1;rw[getElem?_set_self Ut]at e2;cases e2;exact⟨u,r,.inl ⟨hk,by simp⟩⟩
     · rw[getElem?_set_ne (Ne.symm hj)]at e2;obtain⟨u',r',q⟩:=hl j y v' e1 e2 e3;refine⟨u',r',?_⟩;rcases q with⟨k,e⟩ | ⟨k,c,e,z⟩
       · refine .inl ⟨k,?_⟩;have:y≠x:=fun e=>hj (IP hN e1 (e ▸ hi))
         simp[this,e]
       · exact .inr ⟨k,c,e,z.sameBut hs (Aw y c e)⟩
   · obtain⟨w',z⟩:=I.cell y c e;exact⟨w',z.sameBut hs (Aw y c e)⟩
   · obtain⟨e,n,ne,nf,d⟩:=I.pin p hp;exact⟨(hs.2 p.1 ne).trans e,n,ne,nf,d⟩
 · have hfn:X.fn x=true:=by
    rcases hf with z | z
    · exact z
    · rw[z]at hk;cases hk
   obtain⟨c,hc⟩:=I.ok.has x (.inl hk);obtain⟨w',z⟩:=I.cell x c hc;refine wpAny_storeName_cell I.ok.kind hk hc z (fun h' hc' hs=>?_);obtain⟨oc,hoc,Mh⟩:=id z;refine h { s with heap:=h' } ⟨I.ok,I.os,I.bare,⟨fun b o e n hb hx=>?_,fun b o e n hb hx=>?_,I.base.free,fun b o e hx=>?_,I.base.tups,I.base.Px,I.base.Xx⟩,⟨m,hn.sameBut hs (Ne.symm (Aw x c hc)),fun j y v' e1 e2 e3=>?_⟩,fun y c' e=>?_,I.free,I.ux,fun p hp=>?_,tracked ⟨oc,hoc,I.ux x c hc⟩ hs,by simpa using I.len⟩ ⟨c,hs,.inr hc⟩
   · exact(hs.2 b (Nat.ne_of_lt (Nat.lt_of_lt_of_le (Heap.lt_size e) (I.ok.cab x c hfn hc)))).trans (I.base.keep b o e n hb hx)
   · obtain⟨sl,e1⟩:=I.base.slot b o e n hb hx;exact⟨sl,(hs.2 b (Nat.ne_of_lt (Nat.lt_of_lt_of_le (Heap.lt_size e) (I.ok.cab x c hfn hc)))).trans e1⟩
   · obtain⟨o',e1⟩:=I.base.there b o e hx;exact⟨o',(hs.2 b (Nat.ne_of_lt (Nat.lt_of_lt_of_le (Heap.lt_size e) (I.ok.cab x c hfn hc)))).trans e1⟩
   · by_cases hj:j=i
     · subst hj;rw[hi]at e1;cases e1;rw[getElem?_set_self Ut]at e2;cases e2;exact⟨u,r,.inr ⟨.inl hk,c,hc,hc'⟩⟩
     · rw[getElem?_set_ne (Ne.symm hj)]at e2;obtain⟨u',r',q⟩:=hl j y v' e1 e2 e3;refine⟨u',r',?_⟩;rcases q with q | ⟨k,c',e,z'⟩
       · exact .inl q
       · refine .inr ⟨k,c',e,z'.sameBut hs ?_⟩;rintro rfl;exact hj (IP hN e1 (I.ok.inj _ _ _ e hc ▸ hi))
   · by_cases hcc:c'=c
     · subst hcc;exact⟨_,hc'⟩
     · obtain⟨w2,z2⟩:=I.cell y c' e;exact⟨w2,z2.sameBut hs hcc⟩
   · obtain⟨e,n,ne,nf,d⟩:=I.pin p hp;refine⟨(hs.2 p.1 ?_).trans e,n,ne,nf,d⟩;intro q;rw[q,hoc]at e;have q':oc=p.2:=Option.some.inj e;exact d w' (by rw[<- q'];exact Mh)
theorem tL{M:Model}{A:Around}{E:Value->Shared->Prop}{i:Nat}{x:Str}{v:V}{u:Value}{Q:Unit->Shared->Prop}(I:Inv X pins σ H s)(hN:X.N.Nodup)(hi:X.N[i]?=some x)(hx:NM X.env.scope x)(r:RelV v u)
 (h:∀s',Inv X pins (σ.set i (some v)) H s'->Q () s') (hf:X.fn x=true\/X.env.scope.names.lookup x=some .local:=by first | exact .inl rfl | exact .inr rfl | assumption):wpAny M A (storeName X.env x u) Q E s:=
 nS I hN hi hx r (fun s' I' _=>h s' I') hf
theorem Inv.call'{s':Shared}{ch:List Addr}(I:Inv X pins σ H s)(ho:s'.os=s.os)(u:Un (KG X.stack) ch H H' s.heap s'.heap)(hok:Zx X.prog X.w H' s'.heap)(hg:AllBare s'.gens)
 (hch:∀b∈ch,(b∈X.ex\/X.s₀.heap.objs.size<=b)/\b≠X.env.locals/\(∀x c,X.env.cells.lookup x=some c->c≠b)/\∀p∈X.pn++pins,p.1≠b):Inv X pins σ H' s':=by
 obtain⟨h',g',d',t',o'⟩:=s';have e:o'=s.os:=ho;subst e;exact I.call (g':=g') (t':=t') (d':=d') u hok hg hch
end
abbrev XK:=Value->Option Addr->Hp->Prop
noncomputable abbrev St:=List (Option V)
abbrev VK:=V->Hp->Prop
abbrev TE:=St->Hp->VK->Prop
abbrev TT:=St->Hp->(Bool->Hp->Prop)->Prop
abbrev TA:=St->Hp->(List V->Hp->Prop)->Prop
structure HF where
 nx:St->Hp->Prop
 rt:VK
 bk:St->Hp->Prop:=fun _ _=>False
 ct:St->Hp->Prop:=fun _ _=>False
abbrev TS:=HF->St->Hp->Prop
def EP(X:Cx)(pins:List (Addr×Obj))(σ:St)(Q:VK)(u:Value)(s':Shared):Prop:=∃v H',Inv X pins σ H' s'/\RelV v u/\Q v H'
noncomputable def TP(X:Cx)(pins:List (Addr×Obj))(σ:St)(Q:Bool->Hp->Prop)(b:Bool)(s':Shared):Prop:=∃H',Inv X pins σ H' s'/\Q b H'
def AP(X:Cx)(pins:List (Addr×Obj))(σ:St)(Q:List V->Hp->Prop)(us:List Value)(s':Shared):Prop:=∃vs H',Inv X pins σ H' s'/\Vals vs us/\Q vs H'
def SP(X:Cx)(pins:List (Addr×Obj))(D:HF)(f:Flow)(s':Shared):Prop:=
 match f with
 | .next=>∃σ' H',Inv X pins σ' H' s'/\D.nx σ' H'
 | .brk=>∃σ' H',Inv X pins σ' H' s'/\D.bk σ' H'
 | .cont=>∃σ' H',Inv X pins σ' H' s'/\D.ct σ' H'
 | .ret u=>∃v σ' H',Inv X pins σ' H' s'/\RelV v u/\D.rt v H'
def PE(X:Cx)(e:Expr)(t:TE):Prop:=
 ∀(pins:List (Addr×Obj))(s:Shared)(σ:St)(H:Hp)(Q:VK),Inv X pins σ H s->t σ H Q->wpAny (model X.prog X.w) X.A (eval e X.env) (EP X pins σ Q) X.xe s
def PT(X:Cx)(e:Expr)(t:TT):Prop:=
 ∀(pins:List (Addr×Obj))(s:Shared)(σ:St)(H:Hp)(Q:Bool->Hp->Prop),Inv X pins σ H s->t σ H Q->wpAny (model X.prog X.w) X.A (isTrue e X.env (eval e X.env)) (TP X pins σ Q) X.xe s
def PW(X:Cx)(e:Expr)(t:TT):Prop:=
 ∀(whole:Sem Value)(pins:List (Addr×Obj))(s:Shared)(σ:St)(H:Hp)(Q:Bool->Hp->Prop),Inv X pins σ H s->t σ H Q->wpAny (model X.prog X.w) X.A (isTrue e X.env whole) (TP X pins σ Q) X.xe s
theorem PW.pt{X:Cx}{e:Expr}{t:TT}(h:PW X e t):PT X e t:=h _
def PA(X:Cx)(es:List Expr)(t:TA):Prop:=
 ∀(pos:Pos)(pins:List (Addr×Obj))(s:Shared)(σ:St)(H:Hp)(Q:List V->Hp->Prop),Inv X pins σ H s->t σ H Q->wpAny (model X.prog X.w) X.A (spliced (backTo pos (starEach es X.env))) (AP X pins σ Q) X.xe s
def PS(X:Cx)(st:Stmt)(t:TS):Prop:=
 ∀(pins:List (Addr×Obj))(s:Shared)(σ:St)(H:Hp)(D:HF),Inv X pins σ H s->t D σ H->wpAny (model X.prog X.w) X.A (exec st X.env) (SP X pins D) X.xe s
def rz(X:Cx)(st:List Stmt)(t:TS):Prop:=
 ∀(pins:List (Addr×Obj))(s:Shared)(σ:St)(H:Hp)(D:HF),Inv X pins σ H s->t D σ H->wpAny (model X.prog X.w) X.A (execs st X.env) (SP X pins D) X.xe s
theorem qB{α:Type}{t:Sem α}{Q Q':α->Shared->Prop}{M:Model}{A:Around}{E:Value->Shared->Prop}{s:Shared}(h:wpAny M A t Q E s)(hQ:∀a s,Q a s->Q' a s):wpAny M A t Q' E s:=wpAny_mono h hQ fun _ _ x=>x
section
variable{X:Cx}
theorem Xj{a b:Expr}{ta tb:TE}(ha:PE X a ta)(hb:PE X b tb){pins:List (Addr×Obj)}{s:Shared}{σ:St}{H:Hp}{R:V->V->Hp->Prop}(I:Inv X pins σ H s)(h:ta σ H fun x H1=>tb σ H1 fun y H2=>R x y H2)
 {α:Type} {Q:α->Shared->Prop} {f:Value->Value->Sem α}
 (hf:∀v u s2 x y H2,Inv X pins σ H2 s2->RelV x v->RelV y u->R x y H2->wpAny (model X.prog X.w) X.A (f v u) Q X.xe s2) :
 wpAny (model X.prog X.w) X.A (eval a X.env) (fun v s₁=>wpAny (model X.prog X.w) X.A (eval b X.env) (fun u s₂=>wpAny (model X.prog X.w) X.A (f v u) Q X.xe s₂) X.xe s₁) X.xe s:=by
 refine qB (ha pins s σ H _ I h) fun v s1 zz=>?_
 obtain⟨x,H1,I1,r1,q1⟩:=zz;refine qB (hb pins s1 σ H1 _ I1 q1) fun u s2 zz=>?_
 obtain⟨y,H2,I2,r2,q2⟩:=zz;exact hf v u s2 x y H2 I2 r1 r2 q2
noncomputable def LK(i:Nat):TE:=fun σ H Q=>∃v,σ[i]?=some (some v)/\Q v H
noncomputable def tC(v:V):TE:=fun _ H Q=>Q v H
theorem fM {i:Nat} {x:Str} {pos:Pos} (hN:X.N[i]?=some x) (hv:kK X.env.scope x) (hd:(x==("__debug__" :Str))=false:=by decide) (hcd:(x==("__classdict__" :Str))=false:=by decide):PE X (.Name x pos) (LK i):=by
 intro pins s σ H Q I h;obtain⟨v,e,h⟩:=h;obtain⟨m,hn,hl⟩:=I.loc;obtain⟨u,r,l⟩:=hl i x v hN e hv;have fin:EP X pins σ Q u s:=⟨v,H,I,r,h⟩;rcases l with⟨hk,hm⟩ | ⟨hk,c,hc,hcell⟩
 · exact wpAny_Name (wpAny_loadName_local I.ok.kind hk hn hm fin) hd
 · rcases hk with hk | hk
   · exact wpAny_Name (wpAny_loadName_cell I.ok.kind hk hc hcell fin) hd
   · exact wpAny_Name (wpAny_loadName_free I.ok.kind hk hc hcell fin hcd) hd
theorem JU{i j pos}:PE X (.Constant (.int i) j pos) (tC (.int i)):=fun _ _ _ H _ I h=>wpAny_Constant_int ⟨.int i,H,I.tok _,⟨_,rfl⟩,h⟩
theorem o8{b j pos}:PE X (.Constant (.bool b) j pos) (tC (.bl b)):=fun _ _ _ H _ I h=>Constant_bool ⟨.bl b,H,I,rfl,h⟩
theorem t7{j pos}:PE X (.Constant .none j pos) (tC .non):=fun _ _ _ H _ I h=>Constant_none ⟨.non,H,I,rfl,h⟩
theorem y7{x j pos}:PE X (.Constant (.str x) j pos) (tC (.str x)):=fun _ _ _ H _ I h=>Calls.Constant_str ⟨.str x,H,I.tok _,⟨_,rfl⟩,h⟩
noncomputable def Gl(X:Cx)(x:Str):Prop:=X.env.kindOf x=some .globalImplicit
theorem DG{E:Value->Shared->Prop}{pins:List (Addr×Obj)}{s:Shared}{σ:St}{H:Hp}{x:Str}{u:Value}{pos:Pos}{Q:Value->Shared->Prop}(I:Inv X pins σ H s)(hg:Gl X x)(hm:X.mg x=some u)(h:Q u s)
 (hd:(x==("__debug__" :Str))=false:=by decide):wpAny (model X.prog X.w) X.A (eval (.Name x pos) X.env) Q E s:=
 Calls.Name_function_global I.ok.kind hg (Calls.loadGlobal_global (by rw[I.ok.glob];exact I.mod.glob.keeps I.bk) hm h) hd
theorem PJ{E:Value->Shared->Prop}{pins:List (Addr×Obj)}{s:Shared}{σ:St}{H:Hp}{x:Str}{u:Value}{pos:Pos}{Q:Value->Shared->Prop}(I:Inv X pins σ H s)(hg:Gl X x)(hm:X.mg x=none)(hv:bootBuiltins x=some u)(h:Q u s)
 (hn:x ≠ "__name__" :=by decide) (hd:(x==("__debug__" :Str))=false:=by decide):wpAny (model X.prog X.w) X.A (eval (.Name x pos) X.env) Q E s:=by
 obtain⟨mb,h1,h2⟩:=I.mod.blt;exact Calls.Name_function_global I.ok.kind hg (Calls.loadGlobal_builtin (by rw[I.ok.glob];exact I.mod.glob.keeps I.bk) hm (by rw[I.ok.blt];exact h1.keeps I.bk) ((h2 x hn).trans hv) h) hd
theorem U5 {x:Str} {v:V} {u:Value} {pos:Pos} (hg:Gl X x) (hm:X.mg x=some u) (r:RelV v u) (hd:(x==("__debug__" :Str))=false:=by decide):PE X (.Name x pos) (tC v):=
 fun _ _ _ H _ I h=>DG I hg hm ⟨v,H,I,r,h⟩ hd
theorem VT {x:Str} {v:V} {u:Value} {pos:Pos} (hg:Gl X x) (hm:X.mg x=none) (hv:bootBuiltins x=some u) (r:RelV v u) (hn:x ≠ "__name__" :=by decide) (hd:(x==("__debug__" :Str))=false:=by decide):PE X (.Name x pos) (tC v):=
 fun _ _ _ H _ I h=>PJ I hg hm hv ⟨v,H,I,r,h⟩ hn hd
variable{a b:Expr}{ta tb:TE}{pos:Pos}
def PC(X:Cx)(op:CmpOp)(a b:Expr)(t:TE):Prop:=
 ∀(pins:List (Addr×Obj))(s:Shared)(σ:St)(H:Hp)(Q:VK),Inv X pins σ H s->t σ H Q->
  wpAny (model X.prog X.w) X.A (eval a X.env) (fun v s₁=>wpAny (model X.prog X.w) X.A (eval b X.env) (fun u s₂=>wpAny (model X.prog X.w) X.A (compareOp op v u) (EP X pins σ Q) X.xe s₂) X.xe s₁) X.xe s
theorem T1(b:Expr){op:CmpOp}(h:op≠.In)(h2:op≠.NotIn):behindInMarks op b=false:=by
 have e1:(op==CmpOp.In)=false:=by cases op<;>first | rfl | exact absurd rfl h
 have e2:(op==CmpOp.NotIn)=false:=by cases op<;>first | rfl | exact absurd rfl h2
 cases b<;>simp[behindInMarks,e1,e2]
noncomputable def tB(t:TE):TT:=fun σ H Q=>t σ H fun x H1=>∃c,x=.bl c/\Q c H1
theorem Dj{op:CmpOp}{t:TE}(h:PC X op a b t)(h1:behindInMarks op b=false:=by first | exact T1 _ (by decide) (by decide) | rfl):PT X (.Compare a [op] [b] pos) (tB t):=by intro pins s σ H Q I hw;refine wpAny_isTrue_Compare1 (qB (h pins s σ H _ I hw) fun v s1 h1=>qB h1 fun u s2 h2=>qB h2 fun c s3 zz=>?_) h1;obtain⟨x,H1,I1,r1,q1⟩:=zz;obtain⟨d,rfl,q⟩:=q1;cases r1;exact wpAny_truthy_bool ⟨H1,I1,q⟩
theorem K6{e:Expr}{t:TE}(h:PE X e t)(he:∀whole,isTrue e X.env whole=(do let v <- whole;standAt e.pos;holding [v] (truthy v)):=by intro _;rfl):PT X e (tB t):=by intro pins s σ H Q I hw;refine isTrue_plain (qB (h pins s σ H _ I hw) fun v s1 zz=>?_) (he _);obtain⟨x,H1,I1,r1,q1⟩:=zz;obtain⟨d,rfl,q⟩:=q1;cases r1;exact wpAny_truthy_bool ⟨H1,I1,q⟩
variable{tA Aq:TT}{rest:List Expr}
noncomputable def jW(t u:TT):TT:=fun σ H Q=>t σ H fun c H1=>if c=true then u σ H1 Q else Q false H1
noncomputable def zj(t u:TT):TT:=fun σ H Q=>t σ H fun c H1=>if c=true then Q true H1 else u σ H1 Q
noncomputable def nW(t:TT):TT:=fun σ H Q=>t σ H fun c H1=>Q (!c) H1
theorem w6(ha:PT X a tA):PW X (.BoolOp .And [a] pos) tA:=by
 intro wh pins s σ H Q I h;refine isTrue_and (qB (ha pins s σ H Q I h) fun c s1 e=>?_);cases c with
 | true=>exact isTrue_and_nil e
 | false=>exact e
theorem M6(ha:PT X a tA):PW X (.BoolOp .Or [a] pos) tA:=by
 intro wh pins s σ H Q I h;refine isTrue_or (qB (ha pins s σ H Q I h) fun c s1 e=>?_);cases c with
 | false=>exact isTrue_or_nil e
 | true=>exact e
theorem L6(ha:PT X a tA)(hb:PW X (.BoolOp .And (b::rest) pos) Aq):PW X (.BoolOp .And (a::b::rest) pos) (jW tA Aq):=by
 intro wh pins s σ H Q I h;refine isTrue_and (qB (ha pins s σ H _ I h) fun c s1 zz=>?_);obtain⟨H1,I1,q1⟩:=zz;cases c with
 | true=>exact hb wh pins s1 σ H1 Q I1 q1
 | false=>exact⟨H1,I1,q1⟩
theorem x8(ha:PT X a tA)(hb:PW X (.BoolOp .Or (b::rest) pos) Aq):PW X (.BoolOp .Or (a::b::rest) pos) (zj tA Aq):=by
 intro wh pins s σ H Q I h;refine isTrue_or (qB (ha pins s σ H _ I h) fun c s1 zz=>?_);obtain⟨H1,I1,q1⟩:=zz;cases c with
 | true=>exact⟨H1,I1,q1⟩
 | false=>exact hb wh pins s1 σ H1 Q I1 q1
theorem J6(ha:PT X a tA):PT X (.UnaryOp .Not a pos) (nW tA):=by intro pins s σ H Q I h;exact isTrue_not (ha pins s σ H (fun c H1=>Q (!c) H1) I h)
noncomputable def J9(ta tb:TE):TE:=fun σ H Q=>ta σ H fun x H1=>∃c,x=.bl c/\if c=true then tb σ H1 Q else Q (.bl false) H1
noncomputable def pW(ta tb:TE):TE:=fun σ H Q=>ta σ H fun x H1=>∃c,x=.bl c/\if c=true then Q (.bl true) H1 else tb σ H1 Q
noncomputable def M9(ta:TE):TE:=fun σ H Q=>ta σ H fun x H1=>∃c,x=.bl c/\Q (.bl (!c)) H1
theorem v7{op}{t:TE}(h:PE X a t):PE X (.BoolOp op [a] pos) t:=fun pins s σ H Q I hw=>BoolOp_one (h pins s σ H Q I hw)
theorem l7(ha:PE X a ta)(hb:PE X (.BoolOp .And (b::rest) pos) tb):PE X (.BoolOp .And (a::b::rest) pos) (J9 ta tb):=by
 intro pins s σ H Q I h;refine BoolOp_and (qB (ha pins s σ H _ I h) fun v s1 zz=>?_);obtain⟨x,H1,I1,r1,q1⟩:=zz;obtain⟨c,rfl,q1⟩:=q1;cases r1;refine wpAny_truthy_bool ?_;cases c with
 | true=>exact hb pins s1 σ H1 Q I1 q1
 | false=>exact⟨.bl false,H1,I1,rfl,q1⟩
theorem v8(ha:PE X a ta)(hb:PE X (.BoolOp .Or (b::rest) pos) tb):PE X (.BoolOp .Or (a::b::rest) pos) (pW ta tb):=by
 intro pins s σ H Q I h;refine BoolOp_or (qB (ha pins s σ H _ I h) fun v s1 zz=>?_);obtain⟨x,H1,I1,r1,q1⟩:=zz;obtain⟨c,rfl,q1⟩:=q1;cases r1;refine wpAny_truthy_bool ?_;cases c with
 | false=>exact hb pins s1 σ H1 Q I1 q1
 | true=>exact⟨.bl true,H1,I1,rfl,q1⟩
theorem u7(ha:PE X a ta):PE X (.UnaryOp .Not a pos) (M9 ta):=by intro pins s σ H Q I h;refine UnaryOp_ (qB (ha pins s σ H _ I h) fun v s1 zz=>?_);obtain⟨x,H1,I1,r1,q1⟩:=zz;obtain⟨c,rfl,q1⟩:=q1;cases r1;exact not_of (wpAny_truthy_bool ⟨.bl (!c),H1,I1,rfl,q1⟩)
noncomputable def wj(t:TT)(ta tb:TE):TE:=fun σ H Q=>t σ H fun c H1=>if c=true then ta σ H1 Q else tb σ H1 Q
theorem F2{c:Expr}(hc:PT X c tA)(ha:PE X a ta)(hb:PE X b tb):PE X (.IfExp c a b pos) (wj tA ta tb):=by
 intro pins s σ H Q I h;refine wpAny_IfExp (qB (hc pins s σ H _ I h) fun d s1 zz=>?_);obtain⟨H1,I1,q1⟩:=zz;cases d with
 | true=>exact ha pins s1 σ H1 Q I1 q1
 | false=>exact hb pins s1 σ H1 Q I1 q1
end
def yx(K:Frag)(H:Hp)(a:Addr)(xs:List V):Prop:=
 Rd H a (.lst xs)\/
  ∃(o:Obj) (its:Array Value) (n:Nat),K.lookup a=some o/\o.cls=.type "list" /\ o.dict=none/\o.data=.seq its n/\its.size<=sizeLine/\Vals xs its.toList
def SI(K:Frag)(H:Hp)(a:Addr)(xs:List V):Prop:=
 Rd H a (.tup xs)\/
  ∃(o:Obj) (its:Array Value) (n:Nat),K.lookup a=some o/\o.cls=.type "tuple" /\ o.data=.seq its n/\its.size<=sizeLine/\Vals xs its.toList
noncomputable def OV:Value->Option V
 | .none=>some .non
 | .bool b=>some (.bl b)
 | .int i _=>some (.int i)
 | .str x _=>some (.str x)
 | .bytes b _=>some (.Nv b)
 | .float b _=>some (.flt b)
 | .ref a=>some (.ref a)
 | .type n=>some (.ty n)
 | _=>none
theorem RelV.abs{x:V}{u:Value}(r:RelV x u):OV u=some x:=by
 cases x with
 | non=>cases r;rfl
 | bl _=>cases r;rfl
 | int _=>obtain⟨t,rfl⟩:=r;rfl
 | str _=>obtain⟨t,rfl⟩:=r;rfl
 | Nv _=>obtain⟨t,rfl⟩:=r;rfl
 | flt _=>obtain⟨t,rfl⟩:=r;rfl
 | ref _=>cases r;rfl
 | ty _=>cases r;rfl
theorem RelV.inj{x y:V}{u:Value}(r:RelV x u)(q:RelV y u):x=y:=Option.some.inj (r.abs.symm.trans q.abs)
theorem Vals.inj:∀{xs ys:List V}{us:List Value},Vals xs us->Vals ys us->xs=ys
 | _,_,_,.nil,.nil=>rfl
 | _,_,_,.cons r t,.cons r' t'=>by rw[r.inj r',Vals.inj t t']
section
variable{X:Cx}{pins:List (Addr×Obj)}{σ:St}{H:Hp}{s:Shared}{a:Addr}{xs ys:List V}
theorem yx.of{K:Frag}(h:H a=some (.lst xs)):yx K H a xs:=.inl (.inl h)
theorem Inv.list(I:Inv X pins σ H s)(h:yx X.K H a xs):∃its:List Value,Vals xs its/\PlainL s.heap a its.toArray/\xs.length<=sizeLine:=by
 rcases h with h | ⟨o,its,n,hk,hc,hd,hs,hz,r⟩
 · obtain⟨z,its,n,r,e⟩:=h.ok I.hok;exact⟨its,r,⟨_,n,e,rfl,rfl,rfl⟩,z⟩
 · refine⟨its.toList,r,⟨o,n,I.Jx a o hk,hc,hd,by simpa using hs⟩,?_⟩;have e:=r.length;simp only[Array.length_toList]at e;omega
theorem Inv.tuple(I:Inv X pins σ H s)(h:SI X.K H a xs):∃its:List Value,Vals xs its/\IsTup s.heap a its.toArray/\xs.length<=sizeLine:=by
 rcases h with h | ⟨o,its,n,hk,hc,hs,hz,r⟩
 · obtain⟨z,its,r,p⟩:=h.ok I.hok;exact⟨its,r,p,z⟩
 · refine⟨its.toList,r,⟨o,I.Jx a o hk,hc,n,by simpa using hs⟩,?_⟩;have e:=r.length;simp only[Array.length_toList]at e;omega
theorem Inv.wz(I:Inv X pins σ H s)(h:yx X.K H a xs)(h':yx X.K H a ys):xs=ys:=by
 obtain⟨its,r,⟨o,n,e,_,_,d⟩,_⟩:=I.list h;obtain⟨its',r',⟨o',n',e',_,_,d'⟩,_⟩:=I.list h';rw[e]at e';cases e';rw[d]at d';injection d' with d1 _
 have:its=its':=by simpa using congrArg Array.toList d1
 subst this;exact r.inj r'
theorem Inv.Kv(I:Inv X pins σ H s)(h:SI X.K H a xs)(h':SI X.K H a ys):xs=ys:=by
 obtain⟨its,r,⟨o,e,_,n,d⟩,_⟩:=I.tuple h;obtain⟨its',r',⟨o',e',_,n',d'⟩,_⟩:=I.tuple h';rw[e]at e';cases e';rw[d]at d';injection d' with d1 _
 have:its=its':=by simpa using congrArg Array.toList d1
 subst this;exact r.inj r'
end
noncomputable abbrev Cx.wish(X:Cx)(E:Value->Shared->Prop):Cx:={ X with xe:=E }
abbrev Cx.Iv(X:Cx):Cx:=X.wish fun _ _=>False
theorem Cx.Ok.wish{X:Cx}(ok:X.Ok)(E:Value->Shared->Prop):(X.wish E).Ok:=
 ⟨ok.mod,ok.kind,ok.glob,ok.blt,ok.above,ok.inj,ok.has,ok.cab,ok.hd,ok.frames,ok.stk,ok.Ek,ok.bs,ok.yw,ok.Hv,ok.Gv,ok.Wx,ok.Hw⟩
theorem Cx.Ok.Nq{X:Cx}{E:Value->Shared->Prop}(ok:(X.wish E).Ok):X.Ok:=
 ⟨ok.mod,ok.kind,ok.glob,ok.blt,ok.above,ok.inj,ok.has,ok.cab,ok.hd,ok.frames,ok.stk,ok.Ek,ok.bs,ok.yw,ok.Hv,ok.Gv,ok.Wx,ok.Hw⟩
section
variable{X:Cx}{pins:List (Addr×Obj)}{σ:St}{H:Hp}{s:Shared}{E:Value->Shared->Prop}
theorem Inv.wish(I:Inv X pins σ H s)(E:Value->Shared->Prop):Inv (X.wish E) pins σ H s:=⟨I.ok.wish E,I.os,I.bare,I.base,I.loc,I.cell,I.free,I.ux,I.pin,I.hok,I.len⟩
theorem Inv.Nq(I:Inv (X.wish E) pins σ H s):Inv X pins σ H s:=⟨I.ok.Nq,I.os,I.bare,I.base,I.loc,I.cell,I.free,I.ux,I.pin,I.hok,I.len⟩
theorem SP.Nq{D:HF}{f:Flow}{s':Shared}(h:SP (X.wish E) pins D f s'):SP X pins D f s':=by
 cases f with
 | next=>obtain⟨σ',H',I,q⟩:=h;exact⟨σ',H',I.Nq,q⟩
 | brk=>obtain⟨σ',H',I,q⟩:=h;exact⟨σ',H',I.Nq,q⟩
 | cont=>obtain⟨σ',H',I,q⟩:=h;exact⟨σ',H',I.Nq,q⟩
 | ret u=>obtain⟨v,σ',H',I,r,q⟩:=h;exact⟨v,σ',H',I.Nq,r,q⟩
theorem rz.Iv{st:List Stmt}{t:TS}(h:rz X.Iv st t):rz X st t:=fun pins s σ H D I hw=>wpAny_mono (h pins s σ H D (I.wish _) hw) (fun _ _ q=>q.Nq) fun _ _ z=>False.elim z
end
section
variable{X:Cx}{st:Stmt}{rest:List Stmt}{t u:TS}{e:Expr}{te:TE}{pos:Pos}
noncomputable def L9:TS:=fun D σ H=>D.nx σ H
noncomputable def sW(t u:TS):TS:=fun D σ H=>t { D with nx:=u D } σ H
theorem j6:rz X [] L9:=fun _ _ σ H _ I h=>wpAny_execs_nil ⟨σ,H,I,h⟩
theorem JP(h1:PS X st t)(h2:rz X rest u):rz X (st::rest) (sW t u):=by
 intro pins s σ H D I h;refine wpAny_execs_cons (qB (h1 pins s σ H { D with nx:=u D } I h) fun f s1 q=>?_);cases f with
 | next=>obtain⟨σ',H',I',q⟩:=q;exact h2 pins s1 σ' H' D I' q
 | ret v=>exact q
 | brk=>exact q
 | cont=>exact q
theorem VL(h1:PS X st t):rz X [st] t:=by
 intro pins s σ H D I h;refine wpAny_execs_cons (qB (h1 pins s σ H D I h) fun f s1 q=>?_);cases f with
 | next=>exact wpAny_execs_nil q
 | ret v=>exact q
 | brk=>exact q
 | cont=>exact q
theorem Inv.quiet{pins:List (Addr×Obj)}{σ:St}{H:Hp}{s:Shared}(I:Inv X pins σ H s):interactive X.env=false:=by simp[interactive,I.ok.kind]
noncomputable def K9(te:TE):TS:=fun D σ H=>te σ H fun _ H1=>D.nx σ H1
theorem fT(he:PE X e te)(hs:swapsWith e none pos.line X.env=pure false:=by rfl):PS X (.Expr e pos) (K9 te):=by intro pins s σ H D I h;exact wpAny_Expr_any (qB (he pins s σ H _ I h) fun v s1 ⟨x,H1,I1,r1,q1⟩=>⟨σ,H1,I1,q1⟩) I.quiet hs
noncomputable def rW(te:TE):TS:=fun D σ H=>te σ H D.rt
theorem D6(he:PE X e te):PS X (.Return (some e) pos) (rW te):=by intro pins s σ H D I h;exact wpAny_Return_some (qB (he pins s σ H _ I h) fun v s1 ⟨x,H1,I1,r1,q1⟩=>⟨x,σ,H1,I1,r1,q1⟩)
noncomputable def mW(c:TT)(t u:TS):TS:=fun D σ H=>c σ H fun b H1=>if b=true then t D σ H1 else u D σ H1
theorem lV{c:Expr}{a b:List Stmt}{tc:TT}(hc:PT X c tc)(ha:rz X a t)(hb:rz X b u):PS X (.If c a b pos) (mW tc t u):=by
 intro pins s σ H D I h;refine wpAny_If (qB (hc pins s σ H _ I h) fun d s1 zz=>?_);obtain⟨H1,I1,q1⟩:=zz;cases d with
 | true=>exact ha pins s1 σ H1 D I1 q1
 | false=>exact hb pins s1 σ H1 D I1 q1
end
abbrev TG:=V->St->Hp->(St->Hp->Prop)->Prop
abbrev XM:=List V->St->Hp->(St->Hp->Prop)->Prop
def PG(X:Cx)(target:Expr)(t:TG):Prop:=
 ∀(pins:List (Addr×Obj))(s:Shared)(σ:St)(H:Hp)(v:V)(u:Value)(Q:St->Hp->Prop),Inv X pins σ H s->RelV v u->t v σ H Q->
  wpAny (model X.prog X.w) X.A (assign target X.env u) (fun _ s'=>∃σ' H',Inv X pins σ' H' s'/\Q σ' H') X.xe s
def zV(X:Cx)(ts:List Expr)(t:XM):Prop:=
 ∀(pins:List (Addr×Obj))(s:Shared)(σ:St)(H:Hp)(vs:List V)(us:List Value)(Q:St->Hp->Prop),Inv X pins σ H s->Vals vs us->t vs σ H Q->
  wpAny (model X.prog X.w) X.A (assignInOrder ((assignEach ts X.env).map (·.2)) us) (fun _ s'=>∃σ' H',Inv X pins σ' H' s'/\Q σ' H') X.xe s
abbrev YM:=V->V->V->Hp->(Hp->Prop)->Prop
def WQ(X:Cx)(t:YM):Prop:=
 ∀(pins:List (Addr×Obj))(s:Shared)(σ:St)(H:Hp)(o i v:V)(ov iv u:Value)(Q:Hp->Prop),Inv X pins σ H s->RelV o ov->RelV i iv->RelV v u->t o i v H Q->
  wpAny (model X.prog X.w) X.A (setItem ov iv u) (fun _ s'=>∃H',Inv X pins σ H' s'/\Q H') X.xe s
section
variable{X:Cx}{pos:Pos}
noncomputable def jK(i:Nat):TG:=fun v σ H Q=>Q (σ.set i (some v)) H
theorem UP{i:Nat}{x:Str}(hN:X.N.Nodup)(hi:X.N[i]?=some x)(hx:NM X.env.scope x)(hf:X.fn x=true\/X.env.scope.names.lookup x=some .local:=by first | exact .inl rfl | exact .inr rfl | assumption):PG X (.Name x pos) (jK i):=by intro pins s σ H v u Q I r h;exact wpAny_assign_Name (tL I hN hi hx r (fun s' I'=>⟨_,H,I',h⟩) hf)
noncomputable def SV:XM:=fun vs σ H Q=>vs=[]/\Q σ H
noncomputable def J8(t:TG)(u:XM):XM:=fun vs σ H Q=>∃v r,vs=v::r/\t v σ H fun σ' H'=>u r σ' H' Q
theorem X5:zV X [] SV:=by intro pins s σ H vs us Q I r h;obtain⟨e,h⟩:=h;subst e;cases r;exact assignInOrder_nil ⟨σ,H,I,h⟩
theorem GS{e:Expr}{es:List Expr}{t:TG}{u:XM}(h1:PG X e t)(h2:zV X es u)
 (hs:(assignEach (e::es) X.env).map (·.2)=assign e X.env::(assignEach es X.env).map (·.2):=by rfl):zV X (e::es) (J8 t u):=by
 intro pins s σ H vs us Q I r h;obtain⟨v,vr,e1,h⟩:=h;subst e1;cases r with
 | cons r rr=>rw[hs];refine assignInOrder_cons (qB (h1 pins s σ H _ _ _ I r h) fun _ s1 zz=>?_);obtain⟨σ1,H1,I1,q1⟩:=zz;exact h2 pins s1 σ1 H1 _ _ Q I1 rr q1
def UV(K:Frag)(n:Nat)(t:XM):TG:=fun v σ H Q=>∃a xs,v=.ref a/\SI K H a xs/\xs.length=n/\t xs σ H Q
theorem C7{es:List Expr}{k:Nat}{t:XM}{n:Nat}(hc:X.calm=true)(h:zV X es t)
 (hn:(assignEach es X.env).length=n:=by rfl) (hst:(assignEach es X.env).findIdx? (·.1)=none:=by rfl):PG X (.Tuple es k pos) (UV X.K n t):=by
 intro pins s σ H v u Q I r hw;obtain⟨a,xs,e1,hq,hl,hw⟩:=hw;subst e1;cases r;obtain⟨its,rv,ht,hz⟩:=I.tuple hq;refine assign_Tuple_tuple (I.ok.hd hc) ht (by simp[hn,<- hl,rv.length]) hst fun h' hx=>?_
 have I1:Inv X pins σ H { s with heap:=h' }:=I.kept (t':=s.toks) fun b o e=>hx b o (Nat.ne_of_lt (Heap.lt_size e)) e
 exact h pins _ σ H xs _ Q I1 (by simpa using rv) hw
noncomputable def TV(to ti:TE)(t:YM):TG:=fun v σ H Q=>to σ H fun o H1=>ti σ H1 fun i H2=>t o i v H2 fun H3=>Q σ H3
theorem B7{o i:Expr}{to ti:TE}{t:YM}(ho:PE X o to)(hi:PE X i ti)(hs:WQ X t)
 (ha:∀v,assign (.Subscript o i pos) X.env v=(do
  let ov <- holding [v] (eval o X.env)
  let iv <- holding [v,ov] (eval i X.env)
  standAt pos
  holding [v,ov,iv] (setItem ov iv v)
  release [v,ov,iv] []):=by intro _;rfl):PG X (.Subscript o i pos) (TV to ti t):=by
 intro pins s σ H v u Q I r h;rw[ha];refine wpAny_bind (wpAny_holding (qB (ho pins s σ H _ I h) fun ov s1 zz=>?_));obtain⟨x,H1,I1,r1,q1⟩:=zz;refine wpAny_bind (wpAny_holding (qB (hi pins s1 σ H1 _ I1 q1) fun iv s2 zz=>?_));obtain⟨y,H2,I2,r2,q2⟩:=zz;refine wpAny_bind (wpAny_standAt (wpAny_bind (wpAny_holding (qB (hs pins s2 σ H2 x y v ov iv u _ I2 r1 r2 r q2) fun _ s3 zz=>?_))));obtain⟨H3,I3,q3⟩:=zz;exact wpAny_release ⟨σ,H3,I3,q3⟩
noncomputable def JK(te:TE)(g:TG):TS:=fun D σ H=>te σ H fun x H1=>g x σ H1 D.nx
theorem KU{tg e:Expr}{te:TE}{g:TG}(he:PE X e te)(hg:PG X tg g)(hs:swapsWithSole [tg] e pos.line X.env=pure false:=by rfl)(hw:swappedStores [tg] e X.env=pure none:=by rfl)
 (h1:(assignEach [tg] X.env).map (·.2)=[assign tg X.env]:=by rfl):PS X (.Assign [tg] e pos) (JK te g):=by
 intro pins s σ H D I h;refine wpAny_Assign_stores (qB (he pins s σ H _ I h) fun v s1 zz=>?_) hs hw;obtain⟨x,H1,I1,r1,q1⟩:=zz;rw[h1];exact qB (hg pins s1 σ H1 x v _ I1 r1 q1) fun _ s2 q=>q
theorem MU{i:Nat}{x:Str}{e:Expr}{te:TE}{pos':Pos}(hN:X.N.Nodup)(hi:X.N[i]?=some x)(hx:NM X.env.scope x)(he:PE X e te)(hs:swapsWith e (some (.Name x pos')) pos.line X.env=pure false:=by rfl)(hf:X.fn x=true\/X.env.scope.names.lookup x=some .local:=by first | exact .inl rfl | exact .inr rfl | assumption) :
 PS X (.Assign [.Name x pos'] e pos) (JK te (jK i)):=by
 intro pins s σ H D I h;refine wpAny_Assign_Name (qB (he pins s σ H _ I h) fun v s1 zz=>?_) hs;obtain⟨y,H1,I1,r1,q1⟩:=zz;exact tL I1 hN hi hx r1 (fun s2 I2=>⟨_,H1,I2,q1⟩) hf
def u9(c:TT)(tb:TS):TS:=fun D σ H=>∃W:Nat->St->Hp->Prop,(∃m,W m σ H)/\∀m σ H,W m σ H->
 c σ H fun b H1=>if b=true then ∃N:St->Hp->Prop,(∀σ' H',N σ' H'->∃m',m'<m/\W m' σ' H')/\tb { D with nx:=N,ct:=N,bk:=D.nx } σ H1 else D.nx σ H1
theorem o0{c:Expr}{body:List Stmt}{tc:TT}{tb:TS}(hp:PassesOwn (model X.prog X.w) X.A X.env X.xe)(hc:PT X c tc)(hb:rz X body tb):PS X (.While c body [] pos) (u9 tc tb):=by
 intro pins s σ H D I h;obtain⟨W,⟨m0,w0⟩,turn⟩:=h;refine wpAny_While (codeAny_whileLoop (fun n s'=>∃σ' H',Inv X pins σ' H' s'/\W n σ' H') ?_ m0 ⟨σ,H,I,w0⟩);rintro n s1 ⟨σ1,H1,I1,w1⟩;refine wpAny_passesOwn hp (qB (hc pins s1 σ1 H1 _ I1 (turn n σ1 H1 w1)) fun b s2 zz=>?_);obtain⟨H2,I2,q2⟩:=zz;cases b with
 | true=>
  obtain⟨N,hN,q2⟩:=q2;rw[if_pos rfl];refine wpAny_passesOwn hp (qB (hb pins s2 σ1 H2 _ I2 q2) fun f s3 q3=>?_);cases f with
  | next=>obtain⟨σ3,H3,I3,n3⟩:=q3;obtain⟨m',hm,w3⟩:=hN σ3 H3 n3;exact⟨m',hm,σ3,H3,I3,w3⟩
  | cont=>obtain⟨σ3,H3,I3,n3⟩:=q3;obtain⟨m',hm,w3⟩:=hN σ3 H3 n3;exact⟨m',hm,σ3,H3,I3,w3⟩
  | brk=>exact q3
  | ret v=>exact q3
 | false=>rw[if_neg Rc];exact wpAny_execs_nil ⟨σ1,H2,I2,q2⟩
end
structure It where
 go:Nat->Hp->Prop
 gk:Nat->Hp->V->Hp->Prop
 stop:Nat->Hp->Prop
def vE(X:Cx)(pins:List (Addr×Obj))(H:Hp)(b:Addr):Prop:=
 H b=none/\b≠X.env.locals/\b∉X.fs/\(b∈X.ex\/X.s₀.heap.objs.size<=b)/\(∀x c,X.env.cells.lookup x=some c->c≠b)/\∀p∈X.pn++pins,p.1≠b
theorem Inv.Qv{X:Cx}{pins:List (Addr×Obj)}{σ:St}{H H':Hp}{s:Shared}{b:Addr}(I:Inv X pins σ H s)(hb:s.heap.objs.size<=b)(hn:H' b=none):vE X pins H' b:=by
 refine⟨hn,Nat.ne_of_gt (Nat.lt_of_lt_of_le I.lt hb),I.Ph hb,.inr (Nat.le_trans I.sz hb),fun x c e z=>?_,fun p hp z=>?_⟩
 · obtain⟨v,q⟩:=I.cell x c e;exact absurd (Nat.lt_of_lt_of_le q.lt (by rw[z];exact hb)) (Nat.lt_irrefl _)
 · exact absurd (Nat.lt_of_lt_of_le (Heap.lt_size (I.pin p hp).1) (by rw[z];exact hb)) (Nat.lt_irrefl _)
structure MH(P:Program)(w:World)(K:Frag)(tg:Expr)(J:It)(fp:List Addr)(it:Addr)(tn:Nat->Heap->Prop):Prop where
 mem:it∈fp
 obj:∀i h,tn i h->∀b∈fp,∃o,h.get? b=some o/\∀v,o.data≠.cell v
 keep:∀i h h',tn i h->(∀b∈fp,∀o,h.get? b=some o->h'.get? b=some o)->tn i h'
 item:∀(X:Cx),X.prog=P->X.w=w->X.K=K->X.calm=true->∀(i:Nat)(pins:List (Addr×Obj))(s:Shared)(σ:St)(H:Hp)(E:Value->Shared->Prop),Inv X pins σ H s->(∀b∈fp,vE X pins H b)->tn i s.heap->J.go i H->
  wpAny (model P w) X.A (pyNext (.ref it)) (fun r s1=>∃u,r=some u/\
   wpAny (model P w) X.A (letOwnedTupleGo tg (.ref it) u) (fun _ s2=>∃x H',Inv X pins σ H' s2/\RelV x u/\J.gk i H x H'/\tn (i+1) s2.heap/\∀b∈fp,H' b=none) E s1) E s
 done:∀(X:Cx),X.prog=P->X.w=w->X.K=K->X.calm=true->∀(i:Nat)(pins:List (Addr×Obj))(s:Shared)(σ:St)(H:Hp)(E:Value->Shared->Prop),Inv X pins σ H s->(∀b∈fp,vE X pins H b)->tn i s.heap->J.stop i H->
  wpAny (model P w) X.A (pyNext (.ref it)) (fun r s1=>r=none/\Inv X pins σ H s1) E s
 self:∀(A:Around)(i:Nat)(s:Shared)(Q:Value->Shared->Prop)(E:Value->Shared->Prop),tn i s.heap->Q (.ref it) s->wpAny (model P w) A (pyIter (.ref it)) Q E s
abbrev TI:=St->Hp->(It->Hp->Prop)->Prop
def V9(X:Cx)(pins:List (Addr×Obj))(σ:St)(tg:Expr)(R:It->Hp->Prop)(itv:Value)(s2:Shared):Prop:=
 ∃(it:Addr)(fp:List Addr)(tn:Nat->Heap->Prop)(J:It)(H':Hp),itv=.ref it/\Inv X pins σ H' s2/\MH X.prog X.w X.K tg J fp it tn/\tn 0 s2.heap/\(∀b∈fp,vE X pins H' b)/\R J H'
def PI(X:Cx)(tg iter:Expr)(wi:TI):Prop:=
 ∀(pins:List (Addr×Obj))(s:Shared)(σ:St)(H:Hp)(R:It->Hp->Prop),Inv X pins σ H s->wi σ H R->
  wpAny (model X.prog X.w) X.A (eval iter X.env) (fun v s1=>wpAny (model X.prog X.w) X.A (pyIter v) (V9 X pins σ tg R) X.xe s1) X.xe s
theorem zQ{M:Model}{A:Around}{E:Value->Shared->Prop}{s:Shared}{tg:Expr}{it:Addr}{u:Value}{o:Obj}{n:String}{vs:Array Value}{Q:Unit->Shared->Prop}(ho:s.heap.get? it=some o)(hc:o.cls=.type n)(hd:o.data=.fields vs)
 (hn:["enumerate", "zip", "dict_itemiterator", "dict_reverseitemiterator", "odict_iterator", "itertools.zip_longest", "itertools.pairwise"].contains n=false) (hQ:Q () s):wpAny M A (letOwnedTupleGo tg (.ref it) u) Q E s:=by
 unfold letOwnedTupleGo;cases tg<;>first
  | exact wpAny_pure hQ
  | (cases u<;>first
   | exact wpAny_pure hQ
   | (refine wpAny_bind (wpAny_load ho ?_);rw[hc,hd];show wpAny M A (if(["enumerate", "zip", "dict_itemiterator", "dict_reverseitemiterator", "odict_iterator", "itertools.zip_longest", "itertools.pairwise"].contains n&&vs[0]?==some (rawInt _))=true then _ else _) Q E s;rw[if_neg (by intro h;rw[hn,Bool.false_and]at h;cases h)];exact wpAny_pure hQ))
def T9(K:Frag)(a:Addr):It:=
 ⟨fun i H=>∃xs x,yx K H a xs/\xs[i]?=some x,fun i H x H'=>H'=H/\∀xs,yx K H a xs->xs[i]?=some x,fun i H=>∃xs,yx K H a xs/\xs.length<=i⟩
noncomputable def IV(lo:Int)(n:Nat):It:=⟨fun i _=>i<n,fun i H x H'=>H'=H/\x=.int (lo+i),fun i _=>n<=i⟩
theorem qZ{P:Program}{w:World}{K:Frag}{tg:Expr}(a it:Addr):MH P w K tg (T9 K a) [it] it (fun i h=>h.IsListIter it a i) where
 mem:=by simp
 obj:=fun i h st b hb=>by
  have e:b=it:=by simpa using hb
  subst e;obtain⟨o,e,c,d⟩:=st;exact⟨o,e,fun v z=>by rw[d]at z;cases z⟩
 keep:=fun i h h' st k=>st.at fun o e=>k it (by simp) o e
 item:=by
  intro X hP hw hK hc i pins s σ H E I hf st hg;subst hP hw hK;obtain⟨xs,x,hq,hx⟩:=hg;obtain⟨its,rv,p,hz⟩:=I.list hq;obtain⟨u,hu,ru⟩:=rv.get hx;obtain⟨f0,f1,f2,f3,f4,f5⟩:=hf it (by simp);refine wpAny_pyNext_list_item st p.isList (x:=u) (by simpa using hu) fun h' st' sb=>?_
  have I1:Inv X pins σ H { s with heap:=h' }:=I.turned (t':=s.toks) (fun b o hb e=>(sb.2 b hb).trans e) f0 f1 f3 f4 f5;obtain⟨o,e,c,d⟩:=id st';exact⟨u,rfl,zQ (s:={ s with heap:=h' }) e c d (by decide) ⟨x,H,I1,ru,⟨rfl,fun ys hy=>by rw[I.wz hy hq];exact hx⟩,st',fun b hb=>(hf b hb).1⟩⟩
 done:=by intro X hP hw hK hc i pins s σ H E I hf st hg;subst hP hw hK;obtain⟨xs,hq,hx⟩:=hg;obtain⟨its,rv,p,hz⟩:=I.list hq;obtain⟨f0,f1,f2,f3,f4,f5⟩:=hf it (by simp);have hl:=rv.length;exact wpAny_pyNext_list_end (I.ok.hd hc) st p.isList (by simp;omega) fun h' eb=>⟨rfl,I.turned (t':=s.toks) (fun b o hb e=>eb b o hb e) f0 f1 f3 f4 f5⟩
 self:=fun _ _ _ _ _ st h=>wpAny_pyIter_listiter st h
theorem aY{P:Program}{w:World}{K:Frag}{tg:Expr}(it:Addr)(lo:Int)(n:Nat):MH P w K tg (IV lo n) [it] it (fun i h=>IsRangeIter h it (lo+(i:Nat)*1) ((n:Int)-(i:Nat)) 1) where
 mem:=by simp
 obj:=fun i h st b hb=>by
  have e:b=it:=by simpa using hb
  subst e;exact⟨_,st,fun v z=>by
   have z':Data.fields _=Data.cell v:=z;cases z'⟩
 keep:=fun i h h' st k=>k it (by simp) _ st
 item:=by
  intro X hP hw hK hc i pins s σ H E I hf st hg;subst hP hw hK;obtain⟨f0,f1,f2,f3,f4,f5⟩:=hf it (by simp);have W:=Walks.range (prog:=X.prog) (w:=X.w) (I.ok.hd hc) it lo 1 n;refine W.item i s _ _ hg st fun v h' tk hv st' kk=>?_
  obtain⟨t,rfl⟩:=hv;have I1:Inv X pins σ H { s with heap:=h',toks:=tk }:=I.turned (fun b o hb e=>kk b o (by simpa using hb) e) f0 f1 f3 f4 f5;refine⟨_,rfl,zQ (s:={ s with heap:=h',toks:=tk }) (n := "range_iterator") st' rfl rfl (by decide) ⟨.int (lo+i),H,I1,⟨t,?_⟩,⟨rfl,rfl⟩,st',fun b hb=>(hf b hb).1⟩⟩;rw[Int.mul_one]
 done:=by intro X hP hw hK hc i pins s σ H E I hf st hg;subst hP hw hK;obtain⟨f0,f1,f2,f3,f4,f5⟩:=hf it (by simp);exact wpAny_pyNext_range_end (I.ok.hd hc) st (by have:n<=i:=hg;omega) fun h' eb=>⟨rfl,I.turned (t':=s.toks) (fun b o hb e=>eb b o hb e) f0 f1 f3 f4 f5⟩
 self:=fun _ _ _ _ _ st h=>wpAny_pyIter_rangeiter st h
section
variable{X:Cx}{tg:Expr}
def N8(K:Frag)(tl:TE):TI:=fun σ H R=>tl σ H fun x H1=>∃a,x=.ref a/\(∃xs,yx K H1 a xs)/\R (T9 K a) H1
theorem Y5{l:Expr}{tl:TE}(hl:PE X l tl):PI X tg l (N8 X.K tl):=by
 intro pins s σ H R I h;refine qB (hl pins s σ H _ I h) fun v s1 zz=>?_
 obtain⟨x,H1,I1,r1,q1⟩:=zz;obtain⟨a,e,⟨xs,hq⟩,q⟩:=q1;subst e;cases r1;obtain⟨its,rv,p,hz⟩:=I1.list hq;refine wpAny_pyIter_list p.isList ?_;refine⟨s1.heap.objs.size,[s1.heap.objs.size],_,_,H1,rfl,I1.kept (t':=s1.toks) fun b o e=>Heap.get?_push_of_some _ e,qZ a _,⟨_,Heap.get?_push_size _ rfl,rfl,rfl⟩,fun b hb=>?_,q⟩;have e:b=s1.heap.objs.size:=by simpa using hb
 subst e;exact I1.Qv (Uc _) (I1.hok.fresh (Uc _))
theorem G0{pins:List (Addr×Obj)}{σ:St}{H:Hp}{s:Shared}{R:It->Hp->Prop}{E:Value->Shared->Prop}{lo hi:Int}{t u v:Tok}{tk:Nat}(I:Inv X pins σ H s)(h1:-(2^62)<=lo)(h2:lo<2^62)(h3:-(2^62)<=hi)(h4:hi<2^62)
 (q:R (IV lo (hi-lo).toNat) H):wpAny (model X.prog X.w) X.A (pyIter (.ref s.heap.objs.size)) (V9 X pins σ tg R) E { s with heap:=s.heap.push { cls:=.type "range",data:=.fields #[.int lo t,.int hi u,.int 1 v] },toks:=tk }:=by
 refine wpAny_pyIter_range (IsRange.new ..) (small_one h1 h2 h3 h4) ?_;have I1:Inv X pins σ H { s with heap:=s.heap.push { cls:=.type "range",data:=.fields #[.int lo t,.int hi u,.int 1 v] },toks:=tk }:=I.kept fun b o e=>Heap.get?_push_of_some _ e
 refine⟨(s.heap.push { cls:=.type "range",data:=.fields #[.int lo t,.int hi u,.int 1 v] }).objs.size,[(s.heap.push { cls:=.type "range",data:=.fields #[.int lo t,.int hi u,.int 1 v] }).objs.size],_,_,H,rfl,
  I1.kept (t':=tk) fun b o e=>Heap.get?_push_of_some _ e,aY _ lo (hi-lo).toNat,?_,fun b hb=>?_,q⟩
 · have e1:lo+((0:Nat):Int)*1=lo:=by simp
   have e2:(((hi-lo).toNat:Nat):Int)-((0:Nat):Int)=Builtin.Range.rangeSize lo hi 1:=by rw[rangeSize_one];split<;>omega
   show IsRangeIter _ _ (lo+((0:Nat):Int)*1) ((((hi-lo).toNat:Nat):Int)-((0:Nat):Int)) 1;rw[e1,e2];exact Heap.get?_push_size _ rfl
 · have e:b=(s.heap.push { cls:=.type "range",data:=.fields #[.int lo t,.int hi u,.int 1 v] }).objs.size:=by simpa using hb
   subst e;exact I1.Qv (Uc _) (I1.hok.fresh (Uc _))
def O8(ta:TA):TI:=fun σ H R=>ta σ H fun vs H1=>∃j:Int,vs=[.int j]/\-(2^62)<=j/\j<2^62/\R (IV 0 j.toNat) H1
theorem HZ {a:Expr} {ta:TA} {p pos:Pos} (hg:Gl X "range") (hm:X.mg "range" =none) (ha:PA X [a] ta) (hs:starEach [a] X.env=[(false,eval a X.env)]:=by rfl):PI X tg (.Call (.Name "range" p) [a] [] pos) (O8 ta):=by
 intro pins s σ H R I h;refine Call_ (PJ I hg hm boot_range (PyProof.Rows.callWith_type1 (qB (ha pos pins s σ H _ I h) fun us s1 zz=>?_) hs rfl));obtain⟨vs,H1,I1,r1,q1⟩:=zz;obtain⟨j,e,q1,q2,q⟩:=q1;subst e;cases r1 with
 | cons r rr=>cases rr;obtain⟨t,rfl⟩:=r;exact call_range_1 (G0 I1 (by omega) (by omega) q1 q2 (by simpa using q))
def lW(wi:TI)(g:TG)(tb:TS):TS:=fun D σ H=>wi σ H fun J H1=>∃W:Nat->Nat->St->Hp->Prop,(∃m,W 0 m σ H1)/\∀i m σ H,W i m σ H->
 (J.stop i H/\D.nx σ H)\/(J.go i H/\∃N:St->Hp->Prop,(∀σ' H',N σ' H'->∃m',m'<m/\W (i+1) m' σ' H')/\∀x H',J.gk i H x H'->g x σ H' fun σ2 H2=>tb { D with nx:=N,ct:=N,bk:=D.nx } σ2 H2)
noncomputable def TJ(fp:List Addr)(h:Heap):List (Addr×Obj):=fp.filterMap fun b=>(h.get? b).map fun o=>(b,o)
theorem aL{fp:List Addr}{h:Heap}{b:Addr}{o:Obj}(hb:b∈fp)(e:h.get? b=some o):(b,o)∈TJ fp h:=mem_filterMap.mpr ⟨b,hb,by rw[e];rfl⟩
theorem AY{fp:List Addr}{h:Heap}{p:Addr×Obj}(hp:p∈TJ fp h):p.1∈fp/\h.get? p.1=some p.2:=by
 obtain⟨b,hb,e⟩:=mem_filterMap.mp hp;cases q:h.get? b with
 | none=>rw[q]at e;cases e
 | some o=>rw[q]at e;have e':(b,o)=p:=Option.some.inj e;subst e';exact⟨hb,q⟩
theorem Inv.pinned{pins:List (Addr×Obj)}{σ:St}{H:Hp}{s:Shared}{fp:List Addr}(I:Inv X pins σ H s)(hf:∀b∈fp,vE X pins H b)(ho:∀b∈fp,∃o,s.heap.get? b=some o/\∀v,o.data≠.cell v):Inv X (pins++TJ fp s.heap) σ H s:=
 I.Bv fun p hp=>(mem_append.mp hp).elim (fun z=>I.pin p (mem_append_right _ z)) fun z=>by obtain⟨hb,e⟩:=AY z;obtain⟨f0,f1,f2,_⟩:=hf p.1 hb;obtain⟨o,e',d⟩:=ho p.1 hb;rw[e]at e';cases e';exact⟨e,f0,f1,f2,d⟩
theorem Inv.Ux{pins pl:List (Addr×Obj)}{σ:St}{H:Hp}{s:Shared}(I:Inv X (pins++pl) σ H s):Inv X pins σ H s:=I.Bv fun p hp=>I.pin p (mem_append_right _ (mem_append_left _ hp))
theorem LU{iter:Expr}{body:List Stmt}{wi:TI}{g:TG}{tb:TS}{pos:Pos}(hp:PassesOwn (model X.prog X.w) X.A X.env X.xe)(hc:X.calm=true)(hi:PI X tg iter wi)(hg:PG X tg g)(hb:rz X body tb)
 (hs:∀x,foldedSetIterable iter X.env x=pure x:=by intro _;rfl):PS X (.For tg iter body [] pos) (lW wi g tb):=by
 intro pins s σ H D I h;refine wpAny_For (qB (hi pins s σ H _ I h) fun v s1 h1=>qB h1 fun itv s2 h2=>?_) hs;obtain⟨it,fp,tn,J,H2,e,I2,T,st2,f2,W,⟨m0,w0⟩,turn⟩:=h2;subst e;have stat:∀{H':Hp},(∀b∈fp,H' b=none)->∀b∈fp,vE X pins H' b:=fun hn b hb=>⟨hn b hb,(f2 b hb).2⟩
 refine codeAny_forLoop_any (fun n s'=>∃i σ' H',Inv X pins σ' H' s'/\tn i s'.heap/\(∀b∈fp,H' b=none)/\W i n σ' H') ?_ m0 ⟨0,σ,H2,I2,st2,fun b hb=>(f2 b hb).1,w0⟩;rintro n s3 ⟨i,σ3,H3,I3,st3,Nt,w3⟩;rcases turn i n σ3 H3 w3 with⟨stop,qn⟩ | ⟨go,N,hN,step⟩
 · refine wpAny_passesOwn hp (qB (T.done X rfl rfl rfl hc i pins s3 σ3 H3 X.xe I3 (stat Nt) st3 stop) fun r s4 zz=>?_);obtain⟨hr,I4⟩:=zz;subst hr;exact wpAny_execs_nil ⟨σ3,H3,I4,qn⟩
 · refine wpAny_passesOwn hp (qB (T.item X rfl rfl rfl hc i pins s3 σ3 H3 X.xe I3 (stat Nt) st3 go) fun r s4 zz=>?_);obtain⟨u,hr,h4⟩:=zz;subst hr;refine wpAny_passesOwn hp (qB h4 fun _ s5 zz=>?_);obtain⟨x,H5,I5,r5,y5,Wh,vf⟩:=zz;have Cr:=I5.pinned (stat vf) (T.obj _ _ Wh);refine wpAny_passesOwn hp (qB (hg _ s5 σ3 H5 x u _ Cr r5 (step x H5 y5)) fun _ s6 zz=>?_);obtain⟨σ6,H6,I6,q6⟩:=zz;refine wpAny_passesOwn hp (qB (hb _ s6 σ6 H6 _ I6 q6) fun f s7 q7=>?_);have again:∀{σ7:St}{H7:Hp},Inv X (pins++TJ fp s5.heap) σ7 H7 s7->N σ7 H7->∃m,m<n/\∃i σ' H',Inv X pins σ' H' s7/\tn i s7.heap/\(∀b∈fp,H' b=none)/\W i m σ' H':=fun {σ7 H7} I7 n7=>by obtain⟨m',hm,w7⟩:=hN σ7 H7 n7;refine⟨m',hm,i+1,σ7,H7,I7.Ux,T.keep _ _ _ Wh fun b hb o e=>(I7.pin (b,o) (mem_append_right _ (mem_append_right _ (aL hb e)))).1,fun b hb=>?_,w7⟩;obtain⟨o,e,d⟩:=T.obj _ _ Wh b hb;exact(I7.pin (b,o) (mem_append_right _ (mem_append_right _ (aL hb e)))).2.1
   cases f with
   | next=>obtain⟨σ7,H7,I7,n7⟩:=q7;exact again I7 n7
   | cont=>obtain⟨σ7,H7,I7,n7⟩:=q7;exact again I7 n7
   | brk=>obtain⟨σ7,H7,I7,q7⟩:=q7;exact⟨σ7,H7,I7.Ux,q7⟩
   | ret v=>obtain⟨x7,σ7,H7,I7,r7,q7⟩:=q7;exact⟨x7,σ7,H7,I7.Ux,r7,q7⟩
end
abbrev R2:=V->V->Hp->VK->Prop
def Vq(X:Cx)(f:Value->Value->Sem Value)(r:R2):Prop:=
 ∀(pins:List (Addr×Obj))(s:Shared)(σ:St)(H:Hp)(x y:V)(v u:Value)(Q:VK),Inv X pins σ H s->RelV x v->RelV y u->r x y H Q->
  wpAny (model X.prog X.w) X.A (f v u) (EP X pins σ Q) X.xe s
def NV(X:Cx)(f:Value->Sem Value)(r:V->Hp->VK->Prop):Prop:=
 ∀(pins:List (Addr×Obj))(s:Shared)(σ:St)(H:Hp)(x:V)(v:Value)(Q:VK),Inv X pins σ H s->RelV x v->r x H Q->
  wpAny (model X.prog X.w) X.A (f v) (EP X pins σ Q) X.xe s
def Oq(X:Cx)(f:Value)(r:List V->Hp->VK->Prop):Prop:=
 ∀(pins:List (Addr×Obj))(s:Shared)(σ:St)(H:Hp)(xs:List V)(us:List Value)(Q:VK),Inv X pins σ H s->Vals xs us->r xs H Q->
  wpAny (model X.prog X.w) X.A (call f us) (EP X pins σ Q) X.xe s
noncomputable def qR(r:R2)(ta tb:TE):TE:=fun σ H Q=>ta σ H fun x H1=>tb σ H1 fun y H2=>r x y H2 Q
noncomputable def Bj(r:V->Hp->VK->Prop)(ta:TE):TE:=fun σ H Q=>ta σ H fun x H1=>r x H1 Q
noncomputable def rI(C:Int->Int->Prop)(g:Int->Int->V):R2:=fun x y H Q=>∃i j,x=.int i/\y=.int j/\C i j/\Q (g i j) H
noncomputable def pK(g:Int->Int->V):R2:=fun x y H Q=>∃i j,x=.int i/\y=.int j/\Q (g i j) H
noncomputable def rU(g:Int->V):V->Hp->VK->Prop:=fun x H Q=>∃i,x=.int i/\Q (g i) H
section
variable{X:Cx}{a b c:Expr}{ta tb tc:TE}{pos:Pos}
theorem bN(ha:PE X a ta)(hb:PE X b tb){pins:List (Addr×Obj)}{s:Shared}{σ:St}{H:Hp}{R:V->V->Hp->Prop}(I:Inv X pins σ H s)
 (h:ta σ H fun x H1=>tb σ H1 fun y H2=>R x y H2) {Q:Value->Shared->Prop} {f:Value->Value->Sem Value}
 (hf:∀v u s2 x y H2,Inv X pins σ H2 s2->RelV x v->RelV y u->R x y H2->wpAny (model X.prog X.w) X.A (f v u) Q X.xe s2) :
 wpAny (model X.prog X.w) X.A (eval a X.env) (fun v s₁=>wpAny (model X.prog X.w) X.A (eval b X.env) (fun u s₂=>wpAny (model X.prog X.w) X.A (f v u) Q X.xe s₂) X.xe s₁) X.xe s:=by
 refine qB (ha pins s σ H _ I h) fun v s1 zz=>?_
 obtain⟨x,H1,I1,r1,q1⟩:=zz;refine qB (hb pins s1 σ H1 _ I1 q1) fun u s2 zz=>?_
 obtain⟨y,H2,I2,r2,q2⟩:=zz;exact hf v u s2 x y H2 I2 r1 r2 q2
theorem jV{op:Operator}{r:R2}(ho:Vq X (binaryOp op) r)(ha:PE X a ta)(hb:PE X b tb):PE X (.BinOp a op b pos) (qR r ta tb):=by intro pins s σ H Q I h;exact wpAny_BinOp (bN ha hb I h fun v u s2 x y H2 I2 rx ry q=>ho pins s2 σ H2 x y v u Q I2 rx ry q)
theorem w8{op:UnaryOp}{r:V->Hp->VK->Prop}(ho:NV X (unaryOp op) r)(ha:PE X a ta):PE X (.UnaryOp op a pos) (Bj r ta):=by intro pins s σ H Q I h;exact UnaryOp_ (qB (ha pins s σ H _ I h) fun v s1 ⟨x,H1,I1,r1,q1⟩=>ho pins s1 σ H1 x v Q I1 r1 q1)
theorem RQ{f:Value->Value->Sem Value}{C:Int->Int->Prop}{g:Int->Int->Int}
 (rule:∀(i j:Int)(t u:Tok)(s:Shared)(Q:Value->Shared->Prop)(E:Value->Shared->Prop),C i j->Q (.int (g i j) s.toks) { s with toks:=s.toks+1 }->wpAny (model X.prog X.w) X.A (f (.int i t) (.int j u)) Q E s) :
 Vq X f (rI C fun i j=>.int (g i j)):=by
 intro pins s σ H x y v u Q I rx ry h;obtain⟨i,j,rfl,rfl,hc,q⟩:=h;obtain⟨t,rfl⟩:=rx;obtain⟨t',rfl⟩:=ry;exact rule i j t t' s _ _ hc ⟨.int (g i j),H,I.tok _,⟨_,rfl⟩,q⟩
theorem iN{f:Value->Value->Sem Value}{g:Int->Int->Int}
 (rule:∀(i j:Int)(t u:Tok)(s:Shared)(Q:Value->Shared->Prop)(E:Value->Shared->Prop),Q (.int (g i j) s.toks) { s with toks:=s.toks+1 }->wpAny (model X.prog X.w) X.A (f (.int i t) (.int j u)) Q E s) :
 Vq X f (pK fun i j=>.int (g i j)):=by
 intro pins s σ H x y v u Q I rx ry h;obtain⟨i,j,rfl,rfl,q⟩:=h;obtain⟨t,rfl⟩:=rx;obtain⟨t',rfl⟩:=ry;exact rule i j t t' s _ _ ⟨.int (g i j),H,I.tok _,⟨_,rfl⟩,q⟩
theorem HK{f:Value->Value->Sem Value}{g:Int->Int->Bool}
 (rule:∀(i j:Int)(t u:Tok)(s:Shared)(Q:Value->Shared->Prop)(E:Value->Shared->Prop),Q (.bool (g i j)) s->wpAny (model X.prog X.w) X.A (f (.int i t) (.int j u)) Q E s) :
 Vq X f (pK fun i j=>.bl (g i j)):=by
 intro pins s σ H x y v u Q I rx ry h;obtain⟨i,j,rfl,rfl,q⟩:=h;obtain⟨t,rfl⟩:=rx;obtain⟨t',rfl⟩:=ry;exact rule i j t t' s _ _ ⟨.bl (g i j),H,I,rfl,q⟩
noncomputable def QI(i j:Int):Prop:=0<j/\j<1073741824
noncomputable def FF(i j:Int):Prop:=0<=j/\j<=1000000/\i.natAbs<2^64
noncomputable def Xz(i j:Int):Prop:=(-(2^64)<i/\i<2^64)\/(-(2^64)<j/\j<2^64)
theorem Xz.ok{i j:Int}(h:Xz i j):IntMulOk i j:=by
 rcases h with⟨h1,h2⟩ | ⟨h1,h2⟩
 · exact .of_left (intBits_le_64 h1 h2)
 · exact .of_right (intBits_le_64 h1 h2)
theorem bY(k:Nat):(0:Int)<=2^k:=by rw[two_pow_cast];exact Int.natCast_nonneg _
theorem T6:Vq X (binaryOp .Add) (pK fun i j=>.int (i+j)):=iN fun _ _ _ _ _ _ _ q=>add_int q
theorem i7:Vq X (binaryOp .Sub) (pK fun i j=>.int (i-j)):=iN fun _ _ _ _ _ _ _ q=>sub_int q
theorem X6:Vq X (binaryOp .Mult) (rI Xz fun i j=>.int (i*j)):=RQ fun _ _ _ _ _ _ _ hc q=>mul_int q hc.ok
theorem O5:Vq X (binaryOp .FloorDiv) (rI QI fun i j=>.int (i/j)):=RQ fun i j _ _ _ _ _ hc q=>by have h1:(0:Int)<j:=hc.1;have h2:j<1073741824:=hc.2;exact floordiv_int (by omega) (by rw[Int.fdiv_eq_ediv_of_nonneg i (by omega)];exact q) (.inl (PyProof.noPylong_small (by omega)))
theorem W6:Vq X (binaryOp .Mod) (rI (fun _ j=>0<j) fun i j=>.int (i%j)):=RQ fun i j _ _ _ _ _ hc q=>by have h1:(0:Int)<j:=hc;exact mod_int' (by omega) (by rw[Int.fmod_eq_emod_of_nonneg i (by omega)];exact q)
theorem Y6:Vq X (binaryOp .Pow) (rI FF fun i j=>.int (i^j.toNat)):=RQ fun _ _ _ _ _ _ _ hc q=>pow_int_small hc.1 hc.2.1 hc.2.2 q
theorem b7:Vq X (binaryOp .LShift) (rI FF fun i j=>.int (i*2^j.toNat)):=RQ fun _ _ _ _ _ _ _ hc q=>lshift_int_small hc.1 hc.2.1 hc.2.2 q
theorem f7:Vq X (binaryOp .RShift) (rI (fun _ j=>0<=j) fun i j=>.int (i/2^j.toNat)):=RQ fun i j _ _ _ _ _ hc q=>rshift_int hc (by rw[Int.fdiv_eq_ediv_of_nonneg i (bY _)];exact q)
theorem U6:Vq X (binaryOp .BitAnd) (pK fun i j=>.int (Builtin.bitAnd i j)):=iN fun _ _ _ _ _ _ _ q=>and_int q
theorem Cj{f:Value->Sem Value}{g:Int->Int}
 (rule:∀(i:Int)(t:Tok)(s:Shared)(Q:Value->Shared->Prop)(E:Value->Shared->Prop),Q (.int (g i) s.toks) { s with toks:=s.toks+1 }->wpAny (model X.prog X.w) X.A (f (.int i t)) Q E s) :
 NV X f (rU fun i=>.int (g i)):=by
 intro pins s σ H x v Q I rx h;obtain⟨i,rfl,q⟩:=h;obtain⟨t,rfl⟩:=rx;exact rule i t s _ _ ⟨.int (g i),H,I.tok _,⟨_,rfl⟩,q⟩
theorem y9:NV X (unaryOp .USub) (rU fun i=>.int (-i)):=Cj fun _ _ _ _ _ q=>neg_int q
end
noncomputable def WH:V->V->Bool
 | .non,.non=>true | .non,.int _=>true | .int _,.non=>true | .non,.bl _=>true | .bl _,.non=>true | .non,.str _=>true | .str _,.non=>true
 | .int _,.int _=>true | .bl _,.bl _=>true | .str _,.str _=>true | .Nv _,.Nv _=>true
 | .int _,.str _=>true | .str _,.int _=>true | .bl _,.str _=>true | .str _,.bl _=>true
 | _,_=>false
def mj:R2:=fun x y H Q=>WH x y=true/\Q (.bl (decide (x=y))) H
def nj:R2:=fun x y H Q=>WH x y=true/\Q (.bl (!decide (x=y))) H
theorem yT{i j:Int}:decide (V.int i=V.int j)=(i==j):=by rw[Bool.eq_iff_iff];simp
theorem BU{i j:Bool}:decide (V.bl i=V.bl j)=(i==j):=by rw[Bool.eq_iff_iff];simp
theorem HL{i j:Str}:decide (V.str i=V.str j)=(i==j):=by rw[Bool.eq_iff_iff];simp
theorem xT{i j:Array UInt8}:decide (V.Nv i=V.Nv j)=(i.toList==j.toList):=by rw[Bool.eq_iff_iff];cases i;cases j;simp
section
variable{X:Cx}{a b c:Expr}{ta tb tc:TE}{pos:Pos}
theorem WB{pins:List (Addr×Obj)}{σ:St}{H:Hp}{s:Shared}{Q:VK}{k k':Bool}(I:Inv X pins σ H s)(q:Q (.bl k) H)(e:k=k'):EP X pins σ Q (.bool k') s:=by subst e;exact⟨.bl k,H,I,rfl,q⟩
theorem Y8:Vq X (compareOp .Eq) mj:=by
 intro pins s σ H x y v u Q I rx ry h;obtain⟨hs,q⟩:=h;cases x with
 | non=>
  cases rx;cases y with
  | non=>cases ry;exact PySem.EqNone.eq_none_none (WB I q (by simp))
  | bl j=>cases ry;exact PySem.EqNone.eq_none_bool (WB I q (by simp))
  | int j=>obtain⟨t',rfl⟩:=ry;exact PySem.EqNone.eq_none_int (WB I q (by simp))
  | str j=>obtain⟨t',rfl⟩:=ry;exact PySem.EqNone.eq_none_str (WB I q (by simp))
  | _=>exact absurd (show false=true from hs) Rc
 | bl i=>
  cases rx;cases y with
  | non=>cases ry;exact PySem.EqNone.eq_bool_none (WB I q (by simp))
  | bl j=>cases ry;exact eq_bool (WB I q BU)
  | str j=>obtain⟨t',rfl⟩:=ry;exact PySem.EqMixed.eq_bool_str (WB I q (by simp))
  | _=>exact absurd (show false=true from hs) Rc
 | int i=>
  obtain⟨t,rfl⟩:=rx;cases y with
  | non=>cases ry;exact PySem.EqNone.eq_int_none (WB I q (by simp))
  | int j=>obtain⟨t',rfl⟩:=ry;exact eq_int (WB I q yT)
  | str j=>obtain⟨t',rfl⟩:=ry;exact PySem.EqMixed.eq_int_str (WB I q (by simp))
  | _=>exact absurd (show false=true from hs) Rc
 | str i=>
  obtain⟨t,rfl⟩:=rx;cases y with
  | non=>cases ry;exact PySem.EqNone.eq_str_none (WB I q (by simp))
  | bl j=>cases ry;exact PySem.EqMixed.eq_str_bool (WB I q (by simp))
  | int j=>obtain⟨t',rfl⟩:=ry;exact PySem.EqMixed.eq_str_int (WB I q (by simp))
  | str j=>obtain⟨t',rfl⟩:=ry;exact eq_str (WB I q HL)
  | _=>exact absurd (show false=true from hs) Rc
 | Nv i=>
  obtain⟨t,rfl⟩:=rx;cases y with
  | Nv j=>obtain⟨t',rfl⟩:=ry;exact PySem.W.eq_bytes (WB I q xT)
  | _=>exact absurd (show false=true from hs) Rc
 | _=>cases y<;>exact absurd (show false=true from hs) Rc
theorem j8:Vq X (compareOp .NotEq) nj:=by
 intro pins s σ H x y v u Q I rx ry h;obtain⟨hs,q⟩:=h;cases x with
 | non=>
  cases rx;cases y with
  | non=>cases ry;exact PySem.EqNone.ne_none_none (WB I q (by simp))
  | bl j=>cases ry;exact PySem.EqNone.ne_none_bool (WB I q (by simp))
  | int j=>obtain⟨t',rfl⟩:=ry;exact PySem.EqNone.ne_none_int (WB I q (by simp))
  | str j=>obtain⟨t',rfl⟩:=ry;exact PySem.EqNone.ne_none_str (WB I q (by simp))
  | _=>exact absurd (show false=true from hs) Rc
 | bl i=>
  cases rx;cases y with
  | non=>cases ry;exact PySem.EqNone.ne_bool_none (WB I q (by simp))
  | bl j=>cases ry;exact ne_bool (WB I q (congrArg not BU))
  | str j=>obtain⟨t',rfl⟩:=ry;exact PySem.EqMixed.ne_bool_str (WB I q (by simp))
  | _=>exact absurd (show false=true from hs) Rc
 | int i=>
  obtain⟨t,rfl⟩:=rx;cases y with
  | non=>cases ry;exact PySem.EqNone.ne_int_none (WB I q (by simp))
  | int j=>obtain⟨t',rfl⟩:=ry;exact ne_int (WB I q (congrArg not yT))
  | str j=>obtain⟨t',rfl⟩:=ry;exact PySem.EqMixed.ne_int_str (WB I q (by simp))
  | _=>exact absurd (show false=true from hs) Rc
 | str i=>
  obtain⟨t,rfl⟩:=rx;cases y with
  | non=>cases ry;exact PySem.EqNone.ne_str_none (WB I q (by simp))
  | bl j=>cases ry;exact PySem.EqMixed.ne_str_bool (WB I q (by simp))
  | int j=>obtain⟨t',rfl⟩:=ry;exact PySem.EqMixed.ne_str_int (WB I q (by simp))
  | str j=>obtain⟨t',rfl⟩:=ry;exact ne_str (WB I q (congrArg not HL))
  | _=>exact absurd (show false=true from hs) Rc
 | Nv i=>
  obtain⟨t,rfl⟩:=rx;cases y with
  | Nv j=>obtain⟨t',rfl⟩:=ry;exact PySem.W.ne_bytes (WB I q (congrArg not xT))
  | _=>exact absurd (show false=true from hs) Rc
 | _=>cases y<;>exact absurd (show false=true from hs) Rc
theorem g9:Vq X (compareOp .Lt) (pK fun i j=>.bl (decide (i<j))):=HK fun _ _ _ _ _ _ _ q=>lt_int q
theorem f9:Vq X (compareOp .LtE) (pK fun i j=>.bl (decide (i<=j))):=HK fun _ _ _ _ _ _ _ q=>le_int q
theorem b9:Vq X (compareOp .Gt) (pK fun i j=>.bl (decide (j<i))):=HK fun _ _ _ _ _ _ _ q=>gt_int q
theorem Z8:Vq X (compareOp .GtE) (pK fun i j=>.bl (decide (j<=i))):=HK fun _ _ _ _ _ _ _ q=>ge_int q
theorem EZ:Vq X (compareOp .In) (fun x y H Q=>∃i j,x=.str i/\y=.str j/\Q (.bl (!(Builtin.Str.occurrences j i 0 j.length 1).isEmpty)) H):=by intro pins s σ H x y v u Q I rx ry h;obtain⟨i,j,rfl,rfl,q⟩:=h;obtain⟨t,rfl⟩:=rx;obtain⟨t',rfl⟩:=ry;exact in_str (WB I q rfl)
theorem V6:Vq X (compareOp .Is) (fun x y H Q=>y=.non/\Q (.bl (decide (x=.non))) H):=by
 intro pins s σ H x y v u Q I rx ry h;obtain⟨rfl,q⟩:=h;cases ry;refine is_none_gen (WB I q ?_);cases x<;>first
  | (cases rx;rfl)
  | (obtain⟨t,rfl⟩:=rx;rfl)
theorem eU(b:Expr){op:CmpOp}(h:op≠.In:=by decide)(h2:op≠.NotIn:=by decide):behindInMarks op b=false:=by
 have e1:(op==CmpOp.In)=false:=by cases op<;>first | rfl | exact absurd rfl h
 have e2:(op==CmpOp.NotIn)=false:=by cases op<;>first | rfl | exact absurd rfl h2
 cases b<;>simp[behindInMarks,e1,e2]
theorem Q5{op:CmpOp}{r:R2}(ho:Vq X (compareOp op) r)(ha:PE X a ta)(hb:PE X b tb)(hm:behindInMarks op b=false):PE X (.Compare a [op] [b] pos) (qR r ta tb):=by intro pins s σ H Q I h;exact wpAny_Compare1 (bN ha hb I h fun v u s2 x y H2 I2 rx ry q=>ho pins s2 σ H2 x y v u Q I2 rx ry q) hm
noncomputable def rV(t:TE):TT:=fun σ H Q=>t σ H fun x H'=>∃k,x=.bl k/\Q k H'
theorem n6{op:CmpOp}{r:R2}(ho:Vq X (compareOp op) r)(ha:PE X a ta)(hb:PE X b tb)(hm:behindInMarks op b=false):PT X (.Compare a [op] [b] pos) (rV (qR r ta tb)):=by
 intro pins s σ H Q I h;refine wpAny_isTrue_Compare1 (qB (ha pins s σ H _ I h) fun v s1 ⟨x,H1,I1,r1,q1⟩=>qB (hb pins s1 σ H1 _ I1 q1) fun u s2 ⟨y,H2,I2,r2,q2⟩=>
  qB (ho pins s2 σ H2 x y v u _ I2 r1 r2 q2) fun c s3 ⟨z,H3,I3,r3,k,e,q3⟩=>?_) hm
 subst e;cases r3;exact wpAny_truthy_bool ⟨H3,I3,q3⟩
noncomputable def vQ(r r':R2)(ta tb tc:TE):TE:=fun σ H Q=>ta σ H fun x H1=>tb σ H1 fun y H2=>r x y H2 fun z H3=>∃k,z=.bl k/\
 (if k=true then tc σ H3 fun w' H4=>r' y w' H4 Q else Q (.bl false) H3)
theorem B2{op op':CmpOp}{r r':R2}(ho:Vq X (compareOp op) r)(ho':Vq X (compareOp op') r')(ha:PE X a ta)(hb:PE X b tb)(hc:PE X c tc)
 (hm:lastMarks [op,op'] [b,c]=false:=by with_unfolding_all rfl):PE X (.Compare a [op,op'] [b,c] pos) (vQ r r' ta tb tc):=by
 intro pins s σ H Q I h;refine Compare_chain (qB (ha pins s σ H _ I h) fun v s1 ⟨x,H1,I1,r1,q1⟩=>chain_link (qB (hb pins s1 σ H1 _ I1 q1) fun u s2 ⟨y,H2,I2,r2,q2⟩=>
  qB (ho pins s2 σ H2 x y v u _ I2 r1 r2 q2) fun d s3 ⟨z,H3,I3,r3,k,e,q3⟩=>?_)) hm
 subst e;cases r3;refine wpAny_truthy_bool ?_;cases k with
 | false=>exact ite_ff ⟨.bl false,H3,I3,rfl,q3⟩
 | true=>exact ite_tt (chain_last (qB (hc pins s3 σ H3 _ I3 q3) fun w' s4 ⟨z',H4,I4,r4,q4⟩=>ho' pins s4 σ H4 y z' u w' Q I4 r2 r4 q4))
theorem D0{op op':CmpOp}{r r':R2}(ho:Vq X (compareOp op) r)(ho':Vq X (compareOp op') r')(ha:PE X a ta)(hb:PE X b tb)(hc:PE X c tc)
 (hm:lastMarks [op,op'] [b,c]=false:=by with_unfolding_all rfl):PT X (.Compare a [op,op'] [b,c] pos) (rV (vQ r r' ta tb tc)):=by
 intro pins s σ H Q I h;refine isTrue_chain (qB (ha pins s σ H _ I h) fun v s1 ⟨x,H1,I1,r1,q1⟩=>test_link (qB (hb pins s1 σ H1 _ I1 q1) fun u s2 ⟨y,H2,I2,r2,q2⟩=>
  qB (ho pins s2 σ H2 x y v u _ I2 r1 r2 q2) fun d s3 ⟨z,H3,I3,r3,k,e,q3⟩=>?_)) hm
 subst e;cases r3;refine wpAny_truthy_bool ?_;cases k with
 | false=>obtain⟨k',e',q'⟩:=q3;cases e';exact ite_ff ⟨H3,I3,q'⟩
 | true=>refine ite_tt (test_last (qB (hc pins s3 σ H3 _ I3 q3) fun w' s4 ⟨z',H4,I4,r4,q4⟩=>qB (ho' pins s4 σ H4 y z' u w' _ I4 r2 r4 q4) fun d' s5 zz=>?_));obtain⟨z2,H5,I5,r5,k2,e2,q5⟩:=zz;subst e2;cases r5;exact wpAny_truthy_bool ⟨H5,I5,q5⟩
theorem uH:(sizeLine:Nat)<2^63:=by rw[sizeLine_eq];decide
theorem lY:Vq X (binaryOp .Add) (fun x y H Q=>∃i j,x=.str i/\y=.str j/\i.length+j.length<=sizeLine/\Q (.str (i++j)) H):=by intro pins s σ H x y v u Q I rx ry h;obtain⟨i,j,rfl,rfl,hz,q⟩:=h;obtain⟨t,rfl⟩:=rx;obtain⟨t',rfl⟩:=ry;exact add_str (fun t' tk=>⟨.str (i++j),H,I.tok _,⟨_,rfl⟩,q⟩) hz
theorem DF{x:V}{us:List Value}(r:Vals [x] us):∃u,us=[u]/\RelV x u:=by
 cases r with
 | cons r1 r2=>cases r2;exact⟨_,rfl,r1⟩
theorem tV{x y:V}{us:List Value}(r:Vals [x,y] us):∃u w',us=[u,w']/\RelV x u/\RelV y w':=by
 cases r with
 | cons r1 r2=>
  cases r2 with
  | cons r3 r4=>cases r4;exact⟨_,_,rfl,r1,r3⟩
theorem VY (hc:X.calm=true):Oq X (.builtin "min") (fun xs H Q=>∃i j,xs=[.int i,.int j]/\Q (.int (if j<i then j else i)) H):=by
 intro pins s σ H xs us Q I r h;obtain⟨i,j,rfl,q⟩:=h;obtain⟨u,w',rfl,⟨t,rfl⟩,⟨t',rfl⟩⟩:=tV r;refine min_two_ints (I.ok.hd hc) fun h' tk k=>⟨_,H,I.kept k,?_,q⟩
 by_cases hj:j<i
 · rw[if_pos hj,if_pos hj];exact⟨_,rfl⟩
 · rw[if_neg hj,if_neg hj];exact⟨_,rfl⟩
theorem UY:Oq X (.type "int") (fun xs H Q=>(∃i,xs=[.int i]/\Q (.int i) H)\/∃k,xs=[.bl k]/\Q (.int (if k then 1 else 0)) H):=by
 intro pins s σ H xs us Q I r h;rcases h with⟨i,rfl,q⟩ | ⟨k,rfl,q⟩
 · obtain⟨u,rfl,t,rfl⟩:=DF r;exact call_int_int ⟨.int i,H,I,⟨_,rfl⟩,q⟩
 · obtain⟨u,rfl,r1⟩:=DF r;cases r1;exact call_int_bool ⟨.int (if k then 1 else 0),H,I.tok _,⟨_,rfl⟩,q⟩
theorem qX:Oq X (.type "str") (fun xs H Q=>∃i,xs=[.int i]/\i.natAbs.log2<1920/\Q (.str (toString i)) H):=by intro pins s σ H xs us Q I r h;obtain⟨i,rfl,hz,q⟩:=h;obtain⟨u,rfl,t,rfl⟩:=DF r;exact PySem.P.str_of_int hz ⟨.str _,H,I.tok _,⟨_,rfl⟩,q⟩
end
section
variable{prog:Program}{w:World}{A:Around}{E:Value->Shared->Prop}{s:Shared}{K:Frag}{x dx C f:Addr}{mA:Str->Option Value}{name:Str}{v:Value}
end
section
variable{P:Program}{w:World}{H H':Hp}{h h':Heap}{a C dx:Addr}{fs fs':List (Str×V)}
end
noncomputable def Jz(K:Frag)(C:Addr)(f:Str):Prop:=findIn K (.ref C) f=some none
theorem Jz.taker{K:Frag}{C:Addr}{f:Str}(n:Jz K C f):PySem.W.takerIn K C f=some none:=by unfold PySem.W.takerIn;rw[show findIn K (.ref C) f=some none from n];rfl
section
variable{X:Cx}{pins:List (Addr×Obj)}{σ:St}{H:Hp}{s:Shared}{a C dx:Addr}{fs:List (Str×V)}{f:Str}{v:V}{A:Around}{E:Value->Shared->Prop}
theorem Inv.made(I:Inv X pins σ H s):Inv X pins σ (AB (AB H s.heap.objs.size (.own (s.heap.objs.size+1))) (s.heap.objs.size+1) (.ins C s.heap.objs.size []))
 { s with heap:=(s.heap.push PySem.W.emptyDict).push (PySem.W.instObj C s.heap.objs.size) }:=by
 have e1:(s.heap.push PySem.W.emptyDict).get? s.heap.objs.size=some PySem.W.emptyDict:=Heap.get?_push_size s.heap rfl;have e2:((s.heap.push PySem.W.emptyDict).push (PySem.W.instObj C s.heap.objs.size)).get? (s.heap.objs.size+1)=some (PySem.W.instObj C s.heap.objs.size):=by have:=Heap.get?_push_size (s.heap.push PySem.W.emptyDict) (o:=PySem.W.instObj C s.heap.objs.size) rfl;rwa[Heap.size_push]at this
 have e3:(s.heap.push PySem.W.emptyDict).Ns s.heap.objs.size (fun _=>none):=⟨PySem.W.emptyDict,#[],_,e1,rfl,(fun e he=>absurd he (by simp)),fun _=>rfl⟩;have I1:=I.laid (a:=s.heap.objs.size) (o:=.own (s.heap.objs.size+1)) (h':=s.heap.push PySem.W.emptyDict) (t':=s.toks) (fun b u q=>Heap.get?_push_of_some _ q) (Uc _) ⟨_,e1⟩;refine I1.laid (a:=s.heap.objs.size+1) (o:=.ins C s.heap.objs.size []) (t':=s.toks) (fun b u q=>Heap.get?_push_of_some _ q) (Nat.le_of_eq (Heap.size_push _ _)) ?_;have ne:s.heap.objs.size≠s.heap.objs.size+1:=Nat.ne_of_lt (Nat.lt_succ_self _);refine⟨by rw[lB ne,MC],Nat.zero_le _,ne,e2,fun _=>none,(Heap.Ns1.of_empty e3).at fun o q=>Heap.get?_push_of_some _ q,fun _=>True.intro,fun y hy=>absurd rfl hy⟩
theorem v3{prog:Program}{w:World}{env:Env}{e:Expr}{f:Str}{pos:Pos}{s:Shared}{Q:Value->Shared->Prop}(hb:attributeBase e f env (eval e env)=eval e env)
 (h:wpAny (model prog w) A (eval e env) (fun o s₁=>wpAny (model prog w) A (getAttr o f true) Q E s₁) E s):wpAny (model prog w) A (eval (.Attribute e f pos) env) Q E s:=
 Attribute_any_ h (by rw[arm_eval_Attribute,hb])
end
section
variable{X:Cx}{o e value:Expr}{f:Str}{pos pos' tpos:Pos}{ta tv:TE}
end
section
variable{X:Cx}{pins:List (Addr×Obj)}{σ:St}{H:Hp}{s:Shared}{A:Around}{E:Value->Shared->Prop}{Q:Value->Shared->Prop}{c:Value}{b:Bool}
end
structure Gq(k:Nat)(A:Around):Prop where
 hd:A.handled=none
 dp:A.depth+3*k+5<recursionLimit
 un:A.units+16*k+200<cLine
theorem Gq.mono{j k:Nat}{A:Around}(r:Gq k A)(h:j<=k):Gq j A:=⟨r.hd,by have:=r.dp;omega,by have:=r.un;omega⟩
theorem Gq.deeper{k:Nat}{A:Around}(r:Gq (k+1) A)(env:Env):Gq k (A.deeper env):=
 ⟨r.hd,by have:=r.dp;show A.depth+1+3*k+5<_;omega,by have:=r.un;show A.units+3+16*k+200<_;omega⟩
theorem fY {A:Around} {C:Addr} {us:List Value} {kw:List (Str×Value)}:(A.under (.builtin "type.__call__" ⟨.ref C::us,kw⟩)).depth=A.depth+1:=by first | rfl | simp[Around.under,Code.weight,Code.isCreation,Code.isGuard,Code.isCaller,Code.frames,Code.isFrame,guardIds]
theorem gY {A:Around} {C:Addr} {us:List Value} {kw:List (Str×Value)}:(A.under (.builtin "type.__call__" ⟨.ref C::us,kw⟩)).units=A.units+1:=by first | rfl | simp[Around.under,Code.cUnits,Code.frames,Code.isFrame]
theorem Gq.make {k:Nat} {A:Around} (r:Gq (k+1) A) (C:Addr) (us:List Value) (kw:List (Str×Value)):Gq k (A.under (.builtin "type.__call__" ⟨.ref C::us,kw⟩)):=
 ⟨r.hd,by have:=r.dp;rw[fY];omega,by have:=r.un;rw[gY];omega⟩
theorem Gq.depth{k:Nat}{A:Around}(r:Gq k A):A.depth<recursionLimit:=by have:=r.dp;omega
theorem Gq.units{k:Nat}{A:Around}(r:Gq k A):A.units+64<cLine:=by have:=r.un;omega
noncomputable def rN:TA:=fun _ H Q=>Q [] H
noncomputable def qV(ta:TE)(tr:TA):TA:=fun σ H Q=>ta σ H fun x H1=>tr σ H1 fun xs H2=>Q (x::xs) H2
section
variable{X:Cx}{e:Expr}{es:List Expr}{te:TE}{t:TA}{pos:Pos}
theorem MD:PA X [] rN:=fun _ _ _ _ H Q I h=>Calls.spliced_nil ⟨[],H,I,.nil,h⟩
theorem RC(ha:PE X e te)(hr:PA X es t)(hs:starEach (e::es) X.env=(false,eval e X.env)::starEach es X.env:=by rfl):PA X (e::es) (qV te t):=by intro pos pins s σ H Q I h;rw[hs];show wpAny _ _ (spliced ((false,eval e X.env)::backTo pos (starEach es X.env))) _ _ s;refine Calls.spliced_cons (qB (ha pins s σ H _ I h) fun u s1 zz=>?_);obtain⟨x,H1,I1,r1,q1⟩:=zz;exact qB (hr pos pins s1 σ H1 _ I1 q1) fun us s2 ⟨xs,H2,I2,r2,q2⟩=>⟨x::xs,H2,I2,.cons r1 r2,q2⟩
def uW(t:TA):TE:=fun σ H Q=>t σ H fun xs H1=>xs.length<=sizeLine/\∀p,H1 p=none->Q (.ref p) (AB H1 p (.tup xs))
def pR(t:TA):TE:=fun σ H Q=>t σ H fun xs H1=>xs.length<=sizeLine/\∀p,H1 p=none->Q (.ref p) (AB H1 p (.lst xs))
theorem z7{x1}(h:PA X es t):PE X (.Tuple es x1 pos) (uW t):=by intro pins s σ H Q I hq;refine wpAny_Tuple_spliced (qB (h pos pins s σ H _ I hq) fun us s1 ⟨xs,H1,I1,r,z,q⟩=>⟨by rw[<- r.length];exact z,?_⟩);have hf:H1 s1.heap.objs.size=none:=I1.hok.fresh (Uc _);refine⟨.ref s1.heap.objs.size,AB H1 s1.heap.objs.size (.tup xs),I1.laid (t':=s1.toks) (fun b u e=>Heap.get?_push_of_some _ e) (Uc _) ?_,rfl,q _ hf⟩;exact⟨z,us,r,⟨_,Heap.get?_push_size _ rfl,rfl,_,rfl⟩⟩
theorem kQ(h:PA X es t):PE X (.List es pos) (pR t):=by intro pins s σ H Q I hq;refine wpAny_List_spliced (qB (h pos pins s σ H _ I hq) fun us s1 ⟨xs,H1,I1,r,z,q⟩=>⟨by rw[<- r.length];exact z,?_⟩);have hf:H1 s1.heap.objs.size=none:=I1.hok.fresh (Uc _);refine⟨.ref s1.heap.objs.size,AB H1 s1.heap.objs.size (.lst xs),I1.laid (t':=s1.toks) (fun b u e=>Heap.get?_push_of_some _ e) (Uc _) ?_,rfl,q _ hf⟩;exact⟨z,us,0,r,Heap.get?_push_size _ rfl⟩
end
abbrev Sp:=List V->Hp->VK->XK->Prop
abbrev JG:=List Env->Hp->Shared->XK->Value->Shared->Prop
structure Yz(P:Program)(w:World)(K:Frag)(mg:Str->Option Value)(base:Heap)(A:Around)(outer:List Env)(s:Shared)(H:Hp):Prop where
 frames:A.frames=some outer
 mod:Mod K mg base
 bs:∀b o,base.get? b=some o->s.heap.get? b=some o/\H b=none
 yw:base.objs.size<=s.heap.objs.size
 Wx:s.heap.FunFrames base outer
 Hw:∀b∈KG outer,H b=none
 hok:Zx P w H s.heap
 bare:AllBare s.gens
def CE(outer:List Env)(P:Program)(w:World)(H:Hp)(s:Shared)(Q:VK)(u:Value)(s':Shared):Prop:=
 ∃v H',s'.os=s.os/\AllBare s'.gens/\Un (KG outer) [] H H' s.heap s'.heap/\Zx P w H' s'.heap/\RelV v u/\Q v H'
def CR(CX:JG)(outer:List Env)(P:Program)(w:World)(H:Hp)(s:Shared)(Q:VK)(E:XK)(r:Result)(s':Shared):Prop:=
 match r with
 | .ok (.ret u)=>CE outer P w H s Q u s'
 | .ok _=>False
 | .error e=>CX outer H s E e s'
structure Uq(P:Program)(w:World)(K:Frag)(mg:Str->Option Value)(base:Heap)(CX:JG)(k:Nat)(f:Addr)(fd:FuncData)(ps:List Str)(sp:Sp):Prop where
 len:∀vs H Q E,sp vs H Q E->vs.length=ps.length
 run:∀(A:Around)(outer:List Env)(s:Shared)(H:Hp)(args:Args)(us:List Value)(vs:List V)(Q:VK)(E:XK),Gq k A->Yz P w K mg base A outer s H->BindsTo s fd args (ps.zip us)->Vals vs us->sp vs H Q E->
  codeAny (model P w) A (.call (.ref f) args) (CR CX outer P w H s Q E) s
theorem Uq.mono{P:Program}{w:World}{K:Frag}{mg:Str->Option Value}{base:Heap}{CX:JG}{j k:Nat}{f:Addr}{fd:FuncData}{ps:List Str}{sp:Sp}(F:Uq P w K mg base CX j f fd ps sp)(h:j<=k) :
 Uq P w K mg base CX k f fd ps sp:=⟨F.len,fun A outer s H args us vs Q E hr=>F.run A outer s H args us vs Q E (hr.mono h)⟩
theorem Yz.make{P:Program}{w:World}{K:Frag}{mg:Str->Option Value}{base:Heap}{A:Around}{outer:List Env}{s:Shared}{H:Hp}(e:Yz P w K mg base A outer s H)(C:Addr)(us:List Value)(kw:List (Str×Value)) :
 Yz P w K mg base (A.under (.builtin "type.__call__" ⟨.ref C::us,kw⟩)) outer s H:=⟨by first | exact e.frames | (simpa[Around.under,Code.envs,Code.isFrame,pushEnvs]using e.frames),e.mod,e.bs,e.yw,e.Wx,e.Hw,e.hok,e.bare⟩
section
variable{X:Cx}{pins:List (Addr×Obj)}{σ:St}{H:Hp}{s s':Shared}
theorem Inv.env0(I:Inv X pins σ H s):Yz X.prog X.w X.K X.mg X.base X.A X.stack s H:=
 ⟨I.ok.frames,I.ok.mod,I.bs,Nat.le_trans I.ok.yw I.sz,I.stack,I.Lz,I.hok,I.bare⟩
theorem Inv.after{Q:VK}{u:Value}(I:Inv X pins σ H s)(h:CE X.stack X.prog X.w H s Q u s'):EP X pins σ Q u s':=by obtain⟨v,H',os,bare,un,hok,r,q⟩:=h;obtain⟨hh,g,d,t,os'⟩:=s';obtain rfl:os'=s.os:=os;exact⟨v,H',I.call (h':=hh) (g':=g) (d':=d) (t':=t) (ch:=[]) un hok bare (fun b z=>absurd z (by simp)),r,q⟩
end
noncomputable def FM(sp:Sp)(uz:List V)(E:XK)(t:TA):TE:=fun σ H Q=>t σ H fun vs H1=>sp (vs++uz) H1 Q E
noncomputable def Binds(K:Frag)(fd:FuncData)(ps:List Str)(ds:List Value):Prop:=
 ∀(s:Shared)(us:List Value),K.In s.heap->(us++ds).length=ps.length->BindsTo s fd ⟨us,[]⟩ (ps.zip (us++ds))
theorem Binds.all{K:Frag}{fd:FuncData}{ps:List Str}(h:∀us:List Value,us.length=ps.length->bindArgs fd ⟨us,[]⟩=pure (ps.zip us)):Binds K fd ps []:=fun s us _ hl=>by rw[Wc]at hl ⊢;exact .of_eq (h us hl)
def wI(CX:JG)(X:Cx)(E:XK):Prop:=∀(pins:List (Addr×Obj))(σ:St)(H:Hp)(s:Shared)(e:Value)(s':Shared),Inv X pins σ H s->CX X.stack H s E e s'->X.xe e s'
section
variable{X:Cx}{CX:JG}{k:Nat}{f C:Addr}{fd:FuncData}{ps:List Str}{sp:Sp}{uz:List V}{ds:List Value}{E:XK}{x m:Str}{p pos apos:Pos}{e o:Expr}{es:List Expr}{ta:TE}{t:TA}
theorem QU{pins:List (Addr×Obj)}{σ:St}{H:Hp}{s:Shared}{Q:VK}{us:List Value}{vs:List V}(F:Uq X.prog X.w X.K X.mg X.base CX k f fd ps sp)(hr:Gq k X.A)(hb:Binds X.K fd ps ds)(hd:Vals uz ds)(hx:wI CX X E)
 (I:Inv X pins σ H s) (r:Vals vs us) (h:sp (vs++uz) H Q E):wpAny (model X.prog X.w) X.A (call (.ref f) us) (EP X pins σ Q) X.xe s:=by
 have r2:Vals (vs++uz) (us++ds):=r.append hd;have hl:(us++ds).length=ps.length:=by rw[<- r2.length];exact F.len _ _ _ _ h
 refine wpAny_call (codeAny_mono (F.run X.A X.stack s H ⟨us,[]⟩ (us++ds) (vs++uz) Q E hr I.env0 (hb s us I.Jx hl) r2 h) fun r s' hq=>?_);cases r with
 | error e=>exact hx pins σ H s e s' I hq
 | ok fl=>
  cases fl with
  | ret u=>exact I.after hq
  | next=>exact False.elim hq
  | brk=>exact False.elim hq
  | cont=>exact False.elim hq
theorem P5(F:Uq X.prog X.w X.K X.mg X.base CX k f fd ps sp)(hr:Gq k X.A)(hg:Gl X x)(hm:X.mg x=some (.ref f))(hk:keepIn X.K (.ref f)=true)(hb:Binds X.K fd ps ds)(hd:Vals uz ds)(hx:wI CX X E)
 (ha:PA X (e::es) t) (hdb:(x==("__debug__" :Str))=false:=by decide) (he:starEach (e::es) X.env=(false,eval e X.env)::starEach es X.env:=by rfl) (hpl:(backTo pos (starEach es X.env)).any (·.1)=false:=by rfl) :
 PE X (.Call (.Name x p) (e::es) [] pos) (FM sp uz E t):=by
 intro pins s σ H Q I h;refine wpAny_Call_Name_kw (DG I hg hm ?_ hdb);refine PySem.W.callWith_K (h₀:=X.base) I.ok.mod.Pk hk (qB (ha pos pins s σ H _ I h) fun us s1 ⟨vs,H1,I1,r,q⟩=>⟨I1.Jx,?_⟩) he hpl;exact QU F hr hb hd hx I1 r q
theorem A2(F:Uq X.prog X.w X.K X.mg X.base CX k f fd ps sp)(hr:Gq k X.A)(hg:Gl X x)(hm:X.mg x=some (.ref f))(hk:keepIn X.K (.ref f)=true)(hb:Binds X.K fd ps ds)(hd:Vals uz ds)(hx:wI CX X E)
 (hdb:(x==("__debug__" :Str))=false:=by decide):PE X (.Call (.Name x p) [] [] pos) (FM sp uz E rN):=by
 intro pins s σ H Q I h;refine wpAny_Call_Name_kw (DG I hg hm ?_ hdb);exact PySem.W.callWith_K0 I.Jx hk (QU (us:=[]) F hr hb hd hx I .nil h)
end
section
variable{X:Cx}{CX:JG}{k:Nat}{f C:Addr}{fd:FuncData}{ps ks:List Str}{sp:Sp}{E:XK}{x m:Str}{p pos apos kpos:Pos}{e o:Expr}{es:List Expr}{kws:List Keyword}{te ta:TE}{t tk:TA}{nm:Option Str}
variable{g:List Value->List Value->List Value}{gV:List V->List V->List V}
end
structure rB(N P:List Str)(sc:Scope):Prop where
 kind:sc.kind=.function
 co:sc.isCoroutine=false
 gen:sc.isGenerator=false
 nd:N.Nodup
 pre:N.take P.length=P
 par:∀x∈P,sc.names.lookup x=some .local\/sc.names.lookup x=some .cell
 Ww:∀y∈sc.names,y.2≠.free
theorem vS{kindOf:Str->Option NameKind}{x:Str}:∀{binds:List (Str×Value)}{m:Str->Option Value},(∀v,(x,v)∉binds)->bindL kindOf binds m x=m x
 | [],_,_=>rfl
 | (n,v)::r,m,h=>by
  unfold bindL;rw[vS fun w hw=>h w (mem_cons_of_mem _ hw)];split
  · have:x≠n:=by rintro rfl;exact h v mem_cons_self
    simp[this]
  · rfl
theorem tS{kindOf:Str->Option NameKind}{x:Str}:∀{binds:List (Str×Value)}{m:Str->Option Value},(∀v,(x,v)∉binds)->bindC kindOf binds m x=m x
 | [],_,_=>rfl
 | (n,v)::r,m,h=>by
  unfold bindC;rw[tS fun w hw=>h w (mem_cons_of_mem _ hw)];split
  · rfl
  · have:x≠n:=by rintro rfl;exact h v mem_cons_self
    simp[this]
theorem uS{kindOf:Str->Option NameKind}{x:Str}{v:Value}:∀{P:List Str}{vs:List Value}{i:Nat}{m:Str->Option Value},P.Nodup->P[i]?=some x->vs[i]?=some v->kindOf x=some .local->
 bindL kindOf (P.zip vs) m x=some v
 | [],_,_,_,_,h,_,_=>by simp at h
 | _::_,[],_,_,_,_,h,_=>by simp at h
 | p::P,w::vs,0,m,nd,h1,h2,hk=>by simp at h1 h2;subst h1;subst h2;show bindL kindOf ((p,w)::P.zip vs) m p=_;unfold bindL;rw[vS fun v hv=>(nodup_cons.mp nd).1 (of_mem_zip hv).1,if_pos hk];simp
 | p::P,w::vs,i+1,m,nd,h1,h2,hk=>by show bindL kindOf ((p,w)::P.zip vs) m x=_;unfold bindL;exact uS (i:=i) (nodup_cons.mp nd).2 (by simpa using h1) (by simpa using h2) hk
theorem sS{kindOf:Str->Option NameKind}{x:Str}{v:Value}:∀{P:List Str}{vs:List Value}{i:Nat}{m:Str->Option Value},P.Nodup->P[i]?=some x->vs[i]?=some v->kindOf x≠some .local->
 bindC kindOf (P.zip vs) m x=some v
 | [],_,_,_,_,h,_,_=>by simp at h
 | _::_,[],_,_,_,_,h,_=>by simp at h
 | p::P,w::vs,0,m,nd,h1,h2,hk=>by simp at h1 h2;subst h1;subst h2;show bindC kindOf ((p,w)::P.zip vs) m p=_;unfold bindC;rw[tS fun v hv=>(nodup_cons.mp nd).1 (of_mem_zip hv).1,if_neg hk];simp
 | p::P,w::vs,i+1,m,nd,h1,h2,hk=>by show bindC kindOf ((p,w)::P.zip vs) m x=_;unfold bindC;exact sS (i:=i) (nodup_cons.mp nd).2 (by simpa using h1) (by simpa using h2) hk
noncomputable def eF(N:List Str)(vs:List V):St:=vs.map some++List.replicate (N.length-vs.length) none
noncomputable def kD(CX:JG)(P:Program)(w:World)(K:Frag)(mg:Str->Option Value)(base:Heap)(N:List Str)(qual:Str)(scope:Scope)(f:Addr)(cd:Value)(A:Around)(outer:List Env)(s:Shared)(H:Hp)(E:XK):Cx where
 prog:=P
 w:=w
 K:=K
 mg:=mg
 base:=base
 A:=A.deeper (envOfC qual scope s.heap.objs.size f cd)
 N:=N
 s₀:=s
 H₀:=H
 env:=envOfC qual scope s.heap.objs.size f cd
 outer:=outer
 stack:=envOfC qual scope s.heap.objs.size f cd::outer
 ex:=[]
 calm:=true
 fn:=fun _=>true
 pn:=[]
 xe:=fun e s'=>wpAny (model P w) (A.deeper (envOfC qual scope s.heap.objs.size f cd)) (leaving (envOfC qual scope s.heap.objs.size f cd) e) (fun _ s''=>CX outer H s E e s'') (fun e' s''=>CX outer H s E e' s'') s'
theorem YS{sc:Scope}{n:Nat}{x:Str}(h:sc.names.lookup x=some .cell):∃c,(cellsFrom n sc.names []).lookup x=some c:=by have q:=PySem.W.cellsFrom_some sc.names n [] (.inl h);exact Option.isSome_iff_exists.mp q
theorem EY{CX:JG}{P:Program}{w:World}{K:Frag}{mg:Str->Option Value}{base:Heap}{N ps:List Str}{qual:Str}{scope:Scope}{f:Addr}{cd:Value}{A:Around}{outer:List Env}{s s1:Shared}{H:Hp}{E:XK}{us:List Value}{vs:List V}
 (S:rB N ps scope) (hd:A.handled=none) (e0:Yz P w K mg base A outer s H) (hl:vs.length=ps.length) (r:Vals vs us)
 (x:InCallC s s.heap.objs.size (bindL (envOfC qual scope s.heap.objs.size f cd).kindOf (ps.zip us) fun _=>none) (cellsFrom (s.heap.objs.size+1) scope.names []) (bindC (envOfC qual scope s.heap.objs.size f cd).kindOf (ps.zip us) fun _=>none) s1) :
 Inv (kD CX P w K mg base N qual scope f cd A outer s H E) [] (eF N vs) H s1:=by
 have hpl:ps.length<=N.length:=by have:=congrArg List.length S.pre;rw[length_take]at this;omega
 obtain⟨h1,tk,rfl,hk⟩:=x.done;have Vk:∀b:Addr,b∉(kD CX P w K mg base N qual scope f cd A outer s H E).ex:=fun b z=>absurd (show b∈([]:List Addr)from z) (by simp)
 refine⟨⟨e0.mod,S.kind,rfl,rfl,Uc _,fun y z c h1 h2=>?_,fun y hy=>?_,fun y c _ h=>?_,fun _=>hd,Around.frames_deeper e0.frames,.inr ⟨rfl,rfl⟩,fun b z=>absurd z (Vk b),e0.bs,e0.yw,fun b _ _=>Vk b,fun b z=>absurd z (Vk b),e0.Wx,e0.Hw⟩,
  rfl,e0.bare,Un.kept hk,⟨_,x.toInCall.ns,fun i y v h1 h2 h3=>?_⟩,fun y c h=>⟨_,x.cell y c h⟩,e0.hok.fresh (Uc _),fun y c h=>?_,fun p hp=>absurd (show p∈([]:List (Addr×Obj))from hp) (by simp),e0.hok.kept hk,?_⟩
 · exact name_of_addr x.apart (PySem.mem_of_lookup h1) (PySem.mem_of_lookup h2)
 · have hy:scope.names.lookup y=some .cell\/scope.names.lookup y=some .free:=hy;rcases hy with hy | hy
   · exact YS hy
   · exact absurd rfl (S.Ww _ (PySem.mem_of_lookup hy))
 · exact Nat.le_of_lt (x.above y c (PySem.mem_of_lookup h))
 · have hi:i<vs.length:=by
    unfold eF at h2;by_cases hi:i<vs.length
    · exact hi
    · rw[Vc (by simpa using hi)]at h2;rw[getElem?_replicate]at h2;split at h2<;>cases h2
   have ha:vs[i]?=some v:=by
    unfold eF at h2;rw[Qc (by simpa using hi),getElem?_map]at h2;cases e:vs[i]? with
    | none=>rw[e]at h2;cases h2
    | some a=>rw[e]at h2;cases h2;rfl
   obtain⟨u,hu,rv⟩:=r.get ha;have hp:ps[i]?=some y:=by rw[<- S.pre,getElem?_take_of_lt (by omega)];exact h1
   have jr:ps.Nodup:=by rw[<- S.pre];exact S.nd.sublist (take_sublist _ _)
   refine⟨u,rv,?_⟩;rcases S.par y (mem_of_getElem? hp)with k | k
   · exact .inl ⟨k,uS jr hp hu k⟩
   · obtain⟨c,e⟩:=YS (n:=s.heap.objs.size+1) k;refine .inr ⟨.inl k,c,e,?_⟩;have q:=x.cell y c e;rw[sS jr hp hu (by show scope.names.lookup y≠_;rw[k];decide)]at q;exact q
 · exact e0.hok.fresh (Nat.le_of_lt (x.above y c (PySem.mem_of_lookup h)))
 · unfold eF;show _=N.length;rw[length_append,length_map,length_replicate];omega
theorem UU{CX:JG}{P:Program}{w:World}{K:Frag}{mg:Str->Option Value}{base:Heap}{k:Nat}{f:Addr}{name qual:Str}{params:Arguments}{body:List Stmt}{scope:Scope}{dV kV doc pm cdv ct oc:Value}{an od:Option Addr}
 {osl:Array (Option Value)} {N ps:List Str} {sp:Sp} (lk:K.lookup f=some ⟨oc,od,.func (fnOf name qual params body scope dV kV doc pm an cdv ct),osl⟩) (hcd:PySem.W.codeIn K cdv qual=true) (S:rB N ps scope)
 (len:∀vs H Q E,sp vs H Q E->vs.length=ps.length)
 (hbody:∀(A:Around)(outer:List Env)(s:Shared)(H:Hp)(vs:List V)(Q:VK)(E:XK),Gq k (A.deeper (envOfC qual scope s.heap.objs.size f cdv))->sp vs H Q E->
  ∃t,rz (kD CX P w K mg base N qual scope f cdv A outer s H E) body t/\t { nx:=fun _ H'=>Q .non H',rt:=Q } (eF N vs) H) :
 Uq P w K mg base CX (k+1) f (fnOf name qual params body scope dV kV doc pm an cdv ct) ps sp:=by
 refine⟨len,fun A outer s H args us vs Q E hr e0 hb r hsp=>?_⟩;have hl:=len _ _ _ _ hsp;have KX:K.In s.heap:=e0.mod.Pk.keeps fun b o e=>(e0.bs b o e).1
 have lim:s.heap.NoLimit:=e0.mod.nolimit.keeps fun b o e=>(e0.bs b o e).1
 have hkind:∀y∈ps.zip us,scope.names.lookup y.1=some .local\/(scope.names.lookup y.1=some .cell/\((cellsFrom (s.heap.objs.size+1) scope.names []).lookup y.1).isSome=true):=fun zz hy=>by
  obtain⟨n,v⟩:=zz;rcases S.par n (of_mem_zip hy).1 with q | q
  · exact .inl q
  · exact .inr ⟨q,PySem.W.cellsFrom_some _ _ _ (.inl q)⟩
 refine codeAny_call_function hr.depth (KX _ _ lk) rfl S.co S.gen rfl (PySem.W.codeRec_of KX hcd) (hb _ _ _ _ ?_);refine wpAny_newFunctionEnv_cells S.kind hkind fun env he s1 x=>?_
 subst he;refine⟨lim.keeps x.toInCall.keep,codeAny_func ?_⟩;obtain⟨t,ht,hq⟩:=hbody A outer s H vs Q E (hr.deeper _) hsp;have I:Inv (kD CX P w K mg base N qual scope f cdv A outer s H E) [] (eF N vs) H s1:=EY S hr.hd e0 hl r x;refine wpAny_mono (ht [] s1 (eF N vs) H _ I hq) (fun fl s' hs=>?_) fun e s' hs=>hs
 have fin:∀{σ':St}{H':Hp}{v:V}{u:Value},Inv (kD CX P w K mg base N qual scope f cdv A outer s H E) [] σ' H' s'->RelV v u->Q v H'->CE outer P w H s Q u s':=
  fun {σ' H' v u} J rv q=>⟨v,H',J.os,J.bare,J.base,J.hok,rv,q⟩
 cases fl with
 | ret u=>obtain⟨v,σ',H',J,rv,q⟩:=hs;exact fin J rv q
 | next=>obtain⟨σ',H',J,q⟩:=hs;exact fin (v:=V.non) (u:=Value.none) J rfl q
 | brk=>obtain⟨_,_,_,q⟩:=hs;exact False.elim q
 | cont=>obtain⟨_,_,_,q⟩:=hs;exact False.elim q
section
variable{X:Cx}{x:Str}{p pos:Pos}{e:Expr}{es:List Expr}{t:TA}{id T:String}{r:List V->Hp->VK->Prop}
noncomputable def cj(r:List V->Hp->VK->Prop)(t:TA):TE:=fun σ H Q=>t σ H fun vs H1=>r vs H1 Q
theorem BL (hc:Oq X (.builtin id) r) (hg:Gl X x) (hm:X.mg x=none) (hv:bootBuiltins x=some (.builtin id)) (ha:PA X (e::es) t) (hn:x ≠ "__name__" :=by decide) (hdb:(x==("__debug__" :Str))=false:=by decide)
 (he:starEach (e::es) X.env=(false,eval e X.env)::starEach es X.env:=by rfl) (hpl:(backTo pos (starEach es X.env)).any (·.1)=false:=by rfl):PE X (.Call (.Name x p) (e::es) [] pos) (cj r t):=by
 intro pins s σ H Q I h;refine wpAny_Call_Name_kw (PJ I hg hm hv ?_ hn hdb);exact PyProof.Rows.callWith_builtin1 (qB (ha pos pins s σ H _ I h) fun us s1 ⟨vs,H1,I1,r1,q1⟩=>hc pins s1 σ H1 vs us Q I1 r1 q1) he hpl
theorem FZ (hc:Oq X (.type T) r) (hg:Gl X x) (hm:X.mg x=none) (hv:bootBuiltins x=some (.type T)) (ha:PA X (e::es) t) (hn:x ≠ "__name__" :=by decide) (hdb:(x==("__debug__" :Str))=false:=by decide)
 (he:starEach (e::es) X.env=(false,eval e X.env)::starEach es X.env:=by rfl) (hpl:(backTo pos (starEach es X.env)).any (·.1)=false:=by rfl):PE X (.Call (.Name x p) (e::es) [] pos) (cj r t):=by
 intro pins s σ H Q I h;refine wpAny_Call_Name_kw (PJ I hg hm hv ?_ hn hdb);exact PyProof.Rows.callWith_type1 (qB (ha pos pins s σ H _ I h) fun us s1 ⟨vs,H1,I1,r1,q1⟩=>hc pins s1 σ H1 vs us Q I1 r1 q1) he hpl
end
end L2
namespace HT
section
open PySem.SeqAt
open PySem.AutoSeq1 (wpAny_loadPart')
open PySem.MeetsSeq PySem.MeetsSeq2 PySem.MeetsSeq3
end
section
variable{prog:Program}{w:World}{A:Around}{E:Value->Shared->Prop}{s:Shared}
noncomputable def Rx(n d:Nat):Option Int->Nat
 | none=>d
 | some v=>if v<0 then(v+(n:Int)).toNat else min v.toNat n
theorem Sx(n d k:Nat):Rx n d (some (k:Int))=min k n:=by show(if(k:Int)<0 then((k:Int)+(n:Int)).toNat else min (k:Int).toNat n)=min k n;rw[if_neg (by omega),Int.toNat_natCast]
end
end HT
namespace L2
abbrev TO:=St->Hp->(Option Int->Hp->Prop)->Prop
def PO(X:Cx)(e:Option Expr)(t:TO):Prop:=
 ∀(pins:List (Addr×Obj))(s:Shared)(σ:St)(H:Hp)(Q:Option Int->Hp->Prop),Inv X pins σ H s->t σ H Q->
  wpAny (model X.prog X.w) X.A (evalPart e X.env) (fun u s'=>∃o H',Inv X pins σ H' s'/\IsPart u o/\Q o H') X.xe s
noncomputable def Y4:TO:=fun _ H Q=>Q none H
noncomputable def N9(t:TE):TO:=fun σ H Q=>t σ H fun x H1=>∃i,x=.int i/\Q (some i) H1
theorem cY{ns:List Int}:∀{us:List Value},Vals (ns.map V.int) us->IntsAre us ns:=by
 induction ns with
 | nil=>intro us r;rw[yc]at r;cases r;exact .nil
 | cons n ns ih=>
  intro us r;rw[uc]at r;cases r with
  | cons r1 r2=>obtain⟨t,e⟩:=r1;subst e;exact .cons n t (ih r2)
section
variable{X:Cx}{e:Expr}{te:TE}{lo hi:Option Expr}{tl th:TO}{pos p2:Pos}
theorem b6:PO X none Y4:=by intro pins s σ H Q I h;rw[evalPart_none];exact wpAny_pure ⟨none,H,I,.none,h⟩
theorem f6(h:PE X e te):PO X (some e) (N9 te):=by
 intro pins s σ H Q I hw;rw[evalPart_some];refine qB (h pins s σ H _ I hw) fun u s1 zz=>?_
 obtain⟨x,H1,I1,r1,q1⟩:=zz;obtain⟨i,rfl,q⟩:=q1;obtain⟨t,rfl⟩:=r1;exact⟨some i,H1,I1,.int i t,q⟩
def W9(X:Cx)(r:V->Option Int->Option Int->Hp->VK->Prop):Prop:=
 ∀(pins:List (Addr×Obj))(s:Shared)(σ:St)(H:Hp)(x:V)(v vl vu:Value)(lo hi:Option Int)(sl:Addr)(Q:VK),Inv X pins σ H s->RelV x v->s.heap.IsSliceOf sl vl vu .none->IsPart vl lo->IsPart vu hi->r x lo hi H Q->
  ∃T id,typeLookup (.type T) "__getitem__" =pure (some (.builtin id))/\s.TypeIs v T/\wpAny (model X.prog X.w) X.A (getItem v (.ref sl)) (EP X pins σ Q) X.xe s
noncomputable def Aj(r:V->Option Int->Option Int->Hp->VK->Prop)(te:TE)(tl th:TO):TE:=fun σ H Q=>te σ H fun x H1=>tl σ H1 fun l H2=>th σ H2 fun u H3=>r x l u H3 Q
theorem YZ{r:V->Option Int->Option Int->Hp->VK->Prop}(hr:W9 X r)(he:PE X e te)(hl:PO X lo tl)(hu:PO X hi th):PE X (.Subscript e (.Slice lo hi none p2) pos) (Aj r te tl th):=by
 intro pins s σ H Q I h;refine Subscript_ (qB (he pins s σ H _ I h) fun v s1 zz=>?_);obtain⟨x,H1,I1,r1,q1⟩:=zz;refine wpAny_Slice (qB (hl pins s1 σ H1 _ I1 q1) fun vl s2 ⟨l,H2,I2,pl,q2⟩=>qB (hu pins s2 σ H2 _ I2 q2) fun vu s3 zz=>?_);obtain⟨u,H3,I3,pu,q3⟩:=zz;rw[evalPart_none];refine wpAny_pure ?_;have I4:Inv X pins σ H3 { s3 with heap:=s3.heap.push { cls:=.type "slice",data:=.fields #[vl,vu,.none] } }:=I3.kept (t':=s3.toks) fun b ob q=>Heap.get?_push_of_some _ q
 obtain⟨T,id,hT,ht,hg⟩:=hr pins { s3 with heap:=s3.heap.push { cls:=.type "slice",data:=.fields #[vl,vu,.none] } } σ H3 x v vl vu l u s3.heap.objs.size Q I4 r1 (Heap.IsSliceOf.new ..) pl pu q3;show wpAny (model X.prog X.w) X.A (subscriptTail e (.Slice lo hi none p2) v (.ref s3.heap.objs.size)) (EP X pins σ Q) X.xe { s3 with heap:=s3.heap.push { cls:=.type "slice",data:=.fields #[vl,vu,.none] } };exact tail_any (ops:=[.ref s3.heap.objs.size,v]) ht hT hg (by with_unfolding_all rfl)
def OH(xs:List V)(lo hi:Option Int):List V:=(xs.drop (HT.Rx xs.length 0 lo)).take (HT.Rx xs.length xs.length hi-HT.Rx xs.length 0 lo)
theorem IX(xs:List V)(lo hi:Option Int):(OH xs lo hi).length<=xs.length:=by unfold OH;rw[length_take,length_drop];omega
end
noncomputable def JH(n:Nat)(i:Int):Option Nat:=if 0<=i then(if i<n then some i.toNat else none)else if -(n:Int)<=i then some (i+n).toNat else none
def qz{α:Type}(xs:List α)(i:Int):Option α:=(JH xs.length i).bind fun j=>xs[j]?
theorem IT{n:Nat}{i:Int}{j:Nat}(h:JH n i=some j):seqIndex? i n=some j/\j<n/\-(n:Int)<=i/\i<n:=by
 unfold JH at h;by_cases h0:0<=i
 · rw[if_pos h0]at h;by_cases h1:i<n
   · rw[if_pos h1]at h;have e:i.toNat=j:=Option.some.inj h;exact⟨by rw[seqIndex_of h0 h1,e],by omega,by omega,h1⟩
   · rw[if_neg h1]at h;cases h
 · rw[if_neg h0]at h;by_cases h1:-(n:Int)<=i
   · rw[if_pos h1]at h;have e:(i+n).toNat=j:=Option.some.inj h;exact⟨by rw[seqIndex_neg (by omega) h1,e],by omega,h1,by omega⟩
   · rw[if_neg h1]at h;cases h
theorem WP{α:Type}{xs:List α}{i:Int}{v:α}(h:qz xs i=some v):∃j,seqIndex? i xs.length=some j/\xs[j]?=some v/\j<xs.length/\-(xs.length:Int)<=i/\i<xs.length:=by
 unfold qz at h;cases e:JH xs.length i with
 | none=>rw[e]at h;cases h
 | some j=>rw[e]at h;obtain⟨h1,h2,h3,h4⟩:=IT e;exact⟨j,h1,h,h2,h3,h4⟩
theorem sF{α:Type}{xs:List α}{j:Nat}{v:α}(h:xs[j]?=some v):qz xs (j:Int)=some v:=by
 have hj:j<xs.length:=(Kc h).1;have e:JH xs.length (j:Int)=some j:=by unfold JH;rw[if_pos (by omega),if_pos (by omega)];simp
 unfold qz;rw[e];exact h
noncomputable def qT(b:Expr):Prop:=∀o i,subscripted b false o i=operate [o,i] (getItem o i)
def qw(X:Cx)(r:R2):Prop:=
 ∀(value slice:Expr)(pins:List (Addr×Obj))(s:Shared)(σ:St)(H:Hp)(x y:V)(v u:Value)(Q:VK),Inv X pins σ H s->RelV x v->RelV y u->r x y H Q->
  subscripted slice false v u=operate [v,u] (getItem v u)->wpAny (model X.prog X.w) X.A (subscriptTail value slice v u) (EP X pins σ Q) X.xe s
def NQ(X:Cx)(id:String)(r:V->List V->Hp->VK->Prop):Prop:=
 ∀(pins:List (Addr×Obj))(s:Shared)(σ:St)(H:Hp)(x:V)(xs:List V)(v:Value)(us:List Value)(Q:VK),Inv X pins σ H s->RelV x v->Vals xs us->r x xs H Q->
  wpAny (model X.prog X.w) X.A (call (.builtin id) (v::us)) (EP X pins σ Q) X.xe s
section
variable{X:Cx}{a b:Expr}{ta tb:TE}{pos:Pos}
theorem qw.or{r r':R2}(h:qw X r)(h':qw X r'):qw X (fun x y H Q=>r x y H Q\/r' x y H Q):=by
 intro value slice pins s σ H x y v u Q I rx ry q hs;rcases q with q | q
 · exact h value slice pins s σ H x y v u Q I rx ry q hs
 · exact h' value slice pins s σ H x y v u Q I rx ry q hs
theorem t8{r:R2}(hr:qw X r)(ha:PE X a ta)(hb:PE X b tb)(hs:qT b):PE X (.Subscript a b pos) (qR r ta tb):=by intro pins s σ H Q I h;exact Subscript_ (bN ha hb I h fun v u s2 x y H2 I2 rx ry q=>hr a b pins s2 σ H2 x y v u Q I2 rx ry q (hs _ _))
def lR(K:Frag):R2:=fun x y H Q=>∃p xs i v,x=.ref p/\y=.int i/\yx K H p xs/\qz xs i=some v/\Q v H
def nR(K:Frag):R2:=fun x y H Q=>∃p xs i v,x=.ref p/\y=.int i/\SI K H p xs/\qz xs i=some v/\Q v H
def mR:R2:=fun x y H Q=>∃z i c,x=.str z/\y=.int i/\z.length<=sizeLine/\qz z.cps.toList i=some c/\Q (.str ⟨#[c]⟩) H
theorem Cw:qw X (lR X.K):=by
 intro value slice pins s σ H x y v u Q I rx ry h hs;obtain⟨p,xs,i,z,rfl,rfl,hq,he,q⟩:=h;cases rx;obtain⟨t,rfl⟩:=ry;obtain⟨its,r,pl,hz⟩:=I.list hq;obtain⟨j,h1,h2,h3,h4,h5⟩:=WP he;obtain⟨w,ew,Dw⟩:=r.get h2;have hl:=r.length;have hn:=uH;have fin:EP X pins σ Q w s:=⟨z,H,I,Dw,q⟩;by_cases h0:0<=i
 · have hj:i.toNat=j:=by rw[seqIndex_of h0 h5]at h1;exact Option.some.inj h1
   exact item_listR pl.isList h0 (by omega) (by rw[hj];simpa using ew) fin hs
 · have hj:(i+(its.toArray.size:Int)).toNat=j:=by rw[seqIndex_neg (by omega) h4]at h1;rw[size_toArray,<- hl];exact Option.some.inj h1
   exact subscriptTail_builtinR (x:=w) pl.isList.typeIs slot_list_getitem.lookup
    (wpAny_getItem_list_neg (Q:=fun r s'=>r=w/\EP X pins σ Q r s') pl.isList (by omega) (by rw[size_toArray]<;>omega) (by omega) (by rw[hj];simpa using ew) ⟨rfl,fin⟩) hs
theorem Rw:qw X (nR X.K):=by
 intro value slice pins s σ H x y v u Q I rx ry h hs;obtain⟨p,xs,i,z,rfl,rfl,hq,he,q⟩:=h;cases rx;obtain⟨t,rfl⟩:=ry;obtain⟨its,r,pl,hz⟩:=I.tuple hq;obtain⟨j,h1,h2,h3,h4,h5⟩:=WP he;obtain⟨w,ew,Dw⟩:=r.get h2;have hl:=r.length;have hn:=uH;have fin:EP X pins σ Q w s:=⟨z,H,I,Dw,q⟩;exact subscriptTail_builtinR (x:=w) pl.typeIs slot_tuple_getitem.lookup
  (getItem_tuple (j:=j) (Q:=fun r s'=>r=w/\EP X pins σ Q r s') pl (by omega) (by omega) (by rw[size_toArray,<- hl];exact h1) (by simpa using ew) ⟨rfl,fin⟩) hs
theorem U7:qw X mR:=by
 intro value slice pins s σ H x y v u Q I rx ry h hs;obtain⟨z,i,c,rfl,rfl,hz,he,q⟩:=h;obtain⟨t,rfl⟩:=rx;obtain⟨t',rfl⟩:=ry;obtain⟨j,h1,h2,h3,h4,h5⟩:=WP he;have hl:z.cps.toList.length=z.length:=by simp[Str.length]
 rw[hl]at h1 h4 h5;have hn:=uH;exact tail_any (typeIs_str s z t) slot_str_getitem.lookup (getItem_str (c:=c) (by
  have e1:decide (i < -(2^63:Int))=false:=decide_eq_false (by omega);have e2:decide (i >=2^63)=false:=decide_eq_false (by omega);rw[e1,e2,Bool.or_false]) (by rw[h1];simpa using h2) ⟨.str ⟨#[c]⟩,H,I.tok _,⟨_,rfl⟩,q⟩) hs
def aj(K:Frag):R2:=fun x y H Q=>lR K x y H Q\/nR K x y H Q\/mR x y H Q
theorem T7:qw X (aj X.K):=Cw.or (Rw.or U7)
theorem iY (its:List Value) (n j:Nat) (u:Value):Obj.mapSeq (·.setIfInBounds j u) { cls:=.type "list",data:=.seq its.toArray n }={ cls:=.type "list",data:=.seq (its.set j u).toArray n }:=by simp[Obj.mapSeq]
theorem Inv.lst{pins:List (Addr×Obj)}{σ:St}{H:Hp}{s:Shared}{p:Addr}{xs:List V}(I:Inv X pins σ H s)(h:H p=some (.lst xs)) :
 ∃(its:List Value) (n:Nat),Vals xs its/\s.heap.get? p=some { cls:=.type "list",data:=.seq its.toArray n }/\xs.length<=sizeLine:=by
 obtain⟨z,its,n,r,e⟩:=I.hok p _ h;exact⟨its,n,r,e,z⟩
theorem Inv.Uw{pins:List (Addr×Obj)}{σ:St}{H:Hp}{s:Shared}{p:Addr}{xs ys:List V}{its its':List Value}{n n':Nat}{f:Obj->Obj}(I:Inv X pins σ H s)(h:H p=some (.lst xs))
 (ho:s.heap.get? p=some { cls:=.type "list",data:=.seq its.toArray n }) (hf:f { cls:=.type "list",data:=.seq its.toArray n }={ cls:=.type "list",data:=.seq its'.toArray n' }) (r:Vals ys its') (hz:ys.length<=sizeLine) (t:Nat) :
 Inv X pins σ (AB H p (.lst ys)) { s with heap:=s.heap.update p f,toks:=t }:=by
 have e:(s.heap.update p f).get? p=some { cls:=.type "list",data:=.seq its'.toArray n' }:=by rw[Heap.get?_update_self f ho (by rw[hf]<;>rfl),hf]
 refine I.write (x:=p) (e:=p) (by rw[h];trivial) (.inl rfl) (fun b u hb q=>(Heap.get?_update_other _ _ (Ne.symm hb)).trans q) ⟨_,e⟩ ?_;exact⟨hz,its',n',r,e⟩
def y8:V->V->V->Hp->(Hp->Prop)->Prop:=fun o i v H Q=>∃p xs k j,o=.ref p/\i=.int k/\H p=some (.lst xs)/\JH xs.length k=some j/\Q (AB H p (.lst (xs.set j v)))
theorem R0:WQ X y8:=by
 intro pins s σ H o i v ov iv u Q I ro ri rv h;obtain⟨p,xs,k,j,rfl,rfl,hp,hj,q⟩:=h;cases ro;obtain⟨t,rfl⟩:=ri;obtain⟨its,n,r,ho,hz⟩:=I.lst hp;obtain⟨h1,h2,h3,h4⟩:=IT hj;have hl:=r.length;have hn:=uH;have I':Inv X pins σ (AB H p (.lst (xs.set j v))) { s with heap:=s.heap.update p (Obj.mapSeq (·.setIfInBounds j u)) }:=
  I.Uw hp ho (iY its n j u) (r.set rv j) (by rw[length_set];exact hz) s.toks
 by_cases h0:0<=k
 · have hk:k.toNat=j:=by rw[seqIndex_of h0 h4]at h1;exact Option.some.inj h1
   exact PySem.W.ki_setAt ho h0 (by omega) (by rw[size_toArray,<- hl];exact h4) (by rw[hk];exact⟨_,I',q⟩)
 · have hk:(k+(its.toArray.size:Int)).toNat=j:=by rw[seqIndex_neg (by omega) h3]at h1;rw[size_toArray,<- hl];exact Option.some.inj h1
   exact PySem.W.ki_setBack ho (by omega) (by rw[size_toArray,<- hl];exact h3) (by omega) (by rw[hk];exact⟨_,I',q⟩)
theorem FX(lo hi:Option Int)(n:Nat):(sliceBounds lo hi none n).1=((HT.Rx n 0 lo:Nat):Int)/\(sliceBounds lo hi none n).2.1=((HT.Rx n n hi:Nat):Int)/\(sliceBounds lo hi none n).2.2=1:=by
 refine⟨?_,?_,rfl⟩
 · cases lo with
   | none=>simp[sliceBounds,HT.Rx]
   | some i=>
    simp only[sliceBounds,HT.Rx,Option.getD_none,show(1:Int)>0 by decide,if_true];by_cases h:i<0
    · simp only[h,if_true]<;>omega
    · simp only[h,if_false]<;>omega
 · cases hi with
   | none=>simp[sliceBounds,HT.Rx]
   | some i=>
    simp only[sliceBounds,HT.Rx,Option.getD_none,show(1:Int)>0 by decide,if_true];by_cases h:i<0
    · simp only[h,if_true]<;>omega
    · simp only[h,if_false]<;>omega
theorem fX(its:List Value)(lo hi:Option Int):slicePick its.toArray lo hi none=((its.drop (HT.Rx its.length 0 lo)).take (HT.Rx its.length its.length hi-HT.Rx its.length 0 lo)).toArray:=by obtain⟨h1,h2,h3⟩:=FX lo hi its.toArray.size;unfold slicePick;rw[h1,h2,h3];simp only[sliceRange_one,pick_run,size_toArray]<;>rfl
def fW(K:Frag):V->Option Int->Option Int->Hp->VK->Prop:=fun x lo hi H Q=>∃a xs,x=.ref a/\yx K H a xs/\∀p,H p=none->Q (.ref p) (AB H p (.lst (OH xs lo hi)))
theorem Q4:W9 X (fW X.K):=by intro pins s σ H x v vl vu lo hi sl Q I rx hs pl pu h;obtain⟨a,xs,rfl,hx,q⟩:=h;cases rx;obtain⟨its,r,ht,hz⟩:=I.list hx;have hlen:=r.length;refine⟨"list",_,slot_list_getitem.lookup,ht.isList.typeIs,?_⟩;refine wpAny_getItem_list_slice ht.isList hs pl pu .none (by simp) ?_ (by rw[size_toArray]<;>omega);rw[fX,<- hlen];refine⟨.ref s.heap.objs.size,_,I.laid (t':=s.toks) (o:=.lst (OH xs lo hi)) (fun b ob q=>Heap.get?_push_of_some _ q) (Uc _) ?_,rfl,q _ (I.hok.fresh (Uc _))⟩;exact⟨Nat.le_trans (IX xs lo hi) hz,_,0,(r.drop (HT.Rx xs.length 0 lo)).take (HT.Rx xs.length xs.length hi-HT.Rx xs.length 0 lo),Heap.get?_push_size _ rfl⟩
noncomputable def AF:V->Bool
 | .non=>true
 | .bl _=>true
 | .int _=>true
 | .str _=>true
 | _=>false
noncomputable def lK:V->V->Bool
 | .non,.non=>true
 | .bl a,.bl b=>a==b
 | .bl a,.int b=>(if a then 1 else 0)==b
 | .int a,.bl b=>a==(if b then 1 else 0)
 | .int a,.int b=>a==b
 | .str a,.str b=>a==b
 | _,_=>false
theorem G7{A:Around}{s:Shared}{y x:V}{u v:Value}(ry:RelV y u)(rx:RelV x v)(fy:AF y=true)(fx:AF x=true):SeqAt.EqAt A s u v (lK y x):=by
 cases y with
 | non=>
  cases ry;cases x with
  | non=>cases rx;exact SeqAt.EqAt.same _
  | bl b=>cases rx;exact SeqAt.EqAt.none_bool b
  | int b=>obtain⟨t,rfl⟩:=rx;exact SeqAt.EqAt.none_int b t
  | str b=>obtain⟨t,rfl⟩:=rx;exact SeqAt.EqAt.none_str b t
  | _=>exact absurd (show false=true from fx) Rc
 | bl a=>
  cases ry;cases x with
  | non=>cases rx;exact SeqAt.EqAt.bool_none a
  | bl b=>cases rx;exact SeqAt.EqAt.bool_bool a b
  | int b=>obtain⟨t,rfl⟩:=rx;exact SeqAt.EqAt.bool_int a b t
  | str b=>obtain⟨t,rfl⟩:=rx;exact SeqAt.EqAt.bool_str a b t
  | _=>exact absurd (show false=true from fx) Rc
 | int a=>
  obtain⟨t',rfl⟩:=ry;cases x with
  | non=>cases rx;exact SeqAt.EqAt.int_none a t'
  | bl b=>cases rx;exact SeqAt.EqAt.int_bool a t' b
  | int b=>obtain⟨t,rfl⟩:=rx;exact SeqAt.EqAt.int_int a t' b t
  | str b=>obtain⟨t,rfl⟩:=rx;exact SeqAt.EqAt.int_str a t' b t
  | _=>exact absurd (show false=true from fx) Rc
 | str a=>
  obtain⟨t',rfl⟩:=ry;cases x with
  | non=>cases rx;exact SeqAt.EqAt.str_none a t'
  | bl b=>cases rx;exact SeqAt.EqAt.str_bool a t' b
  | int b=>obtain⟨t,rfl⟩:=rx;exact SeqAt.EqAt.str_int a t' b t
  | str b=>obtain⟨t,rfl⟩:=rx;exact SeqAt.EqAt.str_str a t' b t
  | _=>exact absurd (show false=true from fx) Rc
 | _=>exact absurd (show false=true from fy) Rc
def NG(x:V)(u:Value):Bool:=match u with
 | .none=>lK .non x
 | .bool b=>lK (.bl b) x
 | .int i _=>lK (.int i) x
 | .str z _=>lK (.str z) x
 | _=>false
theorem nU{x y:V}{u:Value}(r:RelV y u)(f:AF y=true):NG x u=lK y x:=by
 cases y with
 | non=>cases r;rfl
 | bl b=>cases r;rfl
 | int i=>obtain⟨t,rfl⟩:=r;rfl
 | str z=>obtain⟨t,rfl⟩:=r;rfl
 | _=>exact absurd (show false=true from f) Rc
theorem LJ{x:V}:∀{xs:List V}{us:List Value},Vals xs us->xs.all AF=true->us.any (NG x)=xs.any fun y=>lK y x
 | _,_,.nil,_=>rfl
 | y::xs,u::us,.cons r t,f=>by rw[all_cons,Bool.and_eq_true]at f;rw[any_cons,any_cons,nU r f.1,LJ t f.2]
theorem HJ{A:Around}{s:Shared}{x:V}{v:Value}(rx:RelV x v)(fx:AF x=true):∀{xs:List V}{us:List Value},Vals xs us->xs.all AF=true->∀u∈us,SeqAt.EqAt A s u v (NG x u)
 | _,_,.nil,_=>fun u hu=>by cases hu
 | y::xs,u::us,.cons r t,f=>fun u' hu=>by
  rw[all_cons,Bool.and_eq_true]at f;rcases mem_cons.mp hu with rfl | hu
  · rw[nU r f.1];exact G7 r rx f.1 fx
  · exact HJ rx fx t f.2 u' hu
def PQ(x:V)(xs:List V):Bool:=xs.any fun y=>lK y x
def eW(K:Frag)(neg:Bool):R2:=fun x y H Q=>∃p xs,y=.ref p/\(yx K H p xs\/SI K H p xs)/\AF x=true/\xs.all AF=true/\Q (.bl (if neg then !PQ x xs else PQ x xs)) H
theorem DZ:Vq X (compareOp .In) (eW X.K false):=by
 intro pins s σ H x y v u Q I rx ry h;obtain⟨p,xs,rfl,hq,fx,fs,q⟩:=h;cases ry;rcases hq with hq | hq
 · obtain⟨its,r,pl,hz⟩:=I.list hq;refine SeqAt.in_listAt (NG x) pl.isList (fun w hw=>HJ rx fx r fs w (by simpa using hw)) ⟨.bl _,H,I,rfl,?_⟩;rw[show its.toArray.any (NG x)=its.any (NG x) by simp,LJ r fs];exact q
 · obtain⟨its,r,pl,hz⟩:=I.tuple hq;refine SeqAt.in_tupleAt (NG x) pl (fun w hw=>HJ rx fx r fs w (by simpa using hw)) ⟨.bl _,H,I,rfl,?_⟩;rw[show its.toArray.any (NG x)=its.any (NG x) by simp,LJ r fs];exact q
theorem jX:Vq X (compareOp .NotIn) (eW X.K true):=by
 intro pins s σ H x y v u Q I rx ry h;obtain⟨p,xs,rfl,hq,fx,fs,q⟩:=h;cases ry;rcases hq with hq | hq
 · obtain⟨its,r,pl,hz⟩:=I.list hq;refine SeqAt.notIn_listAt (NG x) pl.isList (fun w hw=>HJ rx fx r fs w (by simpa using hw)) ⟨.bl _,H,I,rfl,?_⟩;rw[show its.toArray.any (NG x)=its.any (NG x) by simp,LJ r fs];exact q
 · obtain⟨its,r,pl,hz⟩:=I.tuple hq;refine SeqAt.notIn_tupleAt (NG x) pl (fun w hw=>HJ rx fx r fs w (by simpa using hw)) ⟨.bl _,H,I,rfl,?_⟩;rw[show its.toArray.any (NG x)=its.any (NG x) by simp,LJ r fs];exact q
theorem oX:Oq X (.builtin "len") (fun xs H Q=>∃p ys,xs=[.ref p]/\(yx X.K H p ys\/SI X.K H p ys)/\Q (.int ys.length) H):=by
 intro pins s σ H xs us Q I r h;obtain⟨p,ys,rfl,hq,q⟩:=h;obtain⟨u,rfl,rx⟩:=DF r;cases rx;have hn:=uH;rcases hq with hq | hq
 · obtain⟨its,r',pl,hz⟩:=I.list hq;have hlen:=r'.length;exact Calls.call_len_list pl.isList (by simp only[size_toArray]<;>omega) ⟨.int ys.length,H,I.tok _,⟨s.toks+1,by rw[size_toArray,hlen]⟩,q⟩
 · obtain⟨its,r',pl,hz⟩:=I.tuple hq;have hlen:=r'.length;exact len_tuple pl (by simp only[size_toArray]<;>omega) ⟨.int ys.length,H,I.tok _,⟨s.toks+1,by rw[size_toArray,hlen]⟩,q⟩
theorem pX:Oq X (.builtin "len") (fun xs H Q=>∃z,xs=[.str z]/\z.length<=sizeLine/\Q (.int z.length) H):=by intro pins s σ H xs us Q I r h;obtain⟨z,rfl,hz,q⟩:=h;obtain⟨u,rfl,t,rfl⟩:=DF r;have hn:=uH;exact len_str (by omega) ⟨.int z.length,H,I.tok _,⟨_,rfl⟩,q⟩
theorem Oq.or{f:Value}{r r':List V->Hp->VK->Prop}(h:Oq X f r)(h':Oq X f r'):Oq X f (fun xs H Q=>r xs H Q\/r' xs H Q):=by
 intro pins s σ H xs us Q I rs q;rcases q with q | q
 · exact h pins s σ H xs us Q I rs q
 · exact h' pins s σ H xs us Q I rs q
def EV(K:Frag)(T:String)(x:V)(H:Hp):Prop:=match x with
 | .str _=>T = "str"
 | .int _=>T = "int"
 | .ref p=>(T = "list" /\ ∃xs,yx K H p xs)\/(T = "tuple" /\ ∃o,K.lookup p=some o/\o.cls=.type "tuple" /\ o.dict=none)\/
  (T = "dict" /\ ((∃kvs,H p=some (.dK kvs))\/∃kvs,H p=some (.dT kvs)))\/(T = "set" /\ ∃S n,H p=some (.set S n))
 | _=>False
theorem CU{pins:List (Addr×Obj)}{σ:St}{H:Hp}{s:Shared}{T:String}{x:V}{v:Value}(I:Inv X pins σ H s)(r:RelV x v)(ty:EV X.K T x H) :
 s.TypeIs v T/\∀a,v=.ref a->∃ob,s.heap.get? a=some ob/\ob.dict=none:=by
 cases x with
 | str z=>obtain⟨t,rfl⟩:=r;cases (show T = "str" from ty);exact⟨typeIs_str s z t,fun _ e=>nomatch e⟩
 | int i=>obtain⟨t,rfl⟩:=r;cases (show T = "int" from ty);exact⟨typeIs_int s i t,fun _ e=>nomatch e⟩
 | ref p=>
  cases r;rcases ty with⟨rfl,xs,hq⟩ | ⟨rfl,o,hk,hc,hd⟩ | ⟨rfl,hk⟩ | ⟨rfl,S,n,hk⟩
  · obtain⟨its,_,pl,_⟩:=I.list hq;refine⟨pl.isList.typeIs,fun a e=>?_⟩;cases e;obtain⟨o,n,e,c,hd,_⟩:=pl;exact⟨o,e,hd⟩
  · refine⟨⟨o,I.Jx p o hk,hc⟩,fun a e=>?_⟩;cases e;exact⟨o,I.Jx _ o hk,hd⟩
  · have z:∃o,s.heap.get? p=some o/\o.ExactDict:=by
     rcases hk with⟨kvs,hk⟩ | ⟨kvs,hk⟩
     · obtain⟨_,_,_,_,o,_,_,e,ex,_⟩:=I.hok p _ hk;exact⟨o,e,ex⟩
     · obtain⟨_,_,_,_,o,_,_,e,ex,_⟩:=I.hok p _ hk;exact⟨o,e,ex⟩
    obtain⟨o,e,ex⟩:=z;refine⟨⟨o,e,ex.1⟩,fun a e2=>?_⟩;cases e2;exact⟨o,e,ex.2.1⟩
  · obtain⟨o,_,_,_,e,ex,_⟩:=I.hok p _ hk;refine⟨⟨o,e,ex.1⟩,fun a e2=>?_⟩;cases e2;exact⟨o,e,ex.2.1⟩
 | _=>exact False.elim ty
def kW(K:Frag)(T:String)(r:V->List V->Hp->VK->Prop)(to:TE):TE:=fun σ H Q=>to σ H fun x H1=>EV K T x H1/\r x [] H1 Q
def qj(K:Frag)(T:String)(r:V->List V->Hp->VK->Prop)(to:TE)(t:TA):TE:=fun σ H Q=>to σ H fun x H1=>EV K T x H1/\t σ H1 fun xs H2=>r x xs H2 Q
variable{o e:Expr}{es:List Expr}{to:TE}{t:TA}{name:Str}{apos cpos:Pos}{T id:String}{r:V->List V->Hp->VK->Prop}
theorem o7 (pa:PlainAttrs T) (slot:Slot T name id) (hty:typeOf (.builtin id)=pure (.type "method_descriptor")) (hm:NQ X id r) (ho:PE X o to)
 (hbase:attributeBase o name X.env (eval o X.env)=eval o X.env:=by rfl) (hline:(apos.endLine==cpos.line)=true:=by rfl):PE X (.Call (.Attribute o name apos) [] [] cpos) (kW X.K T r to):=by
 intro pins s σ H Q I h;refine wpAny_Call_method0_late hbase hline (qB (ho pins s σ H _ I h) fun v s1 zz=>?_);obtain⟨x,H1,I1,r1,ty,q1⟩:=zz;obtain⟨h1,h2⟩:=CU I1 r1 ty;exact⟨T,id,pa,slot,hty,h1,h2,Calls.callWith_builtin rfl (PySem.evalArgs_none (hm pins s1 σ H1 x [] v [] Q I1 r1 .nil q1))⟩
theorem eK (pa:PlainAttrs T) (slot:Slot T name id) (hty:typeOf (.builtin id)=pure (.type "method_descriptor")) (hm:NQ X id r) (ho:PE X o to) (ha:PA X (e::es) t)
 (hbase:attributeBase o name X.env (eval o X.env)=eval o X.env:=by rfl)
 (hfew:((backTo cpos (starEach (e::es) X.env)).all (fun x=>!x.1)&&(backToKw cpos (keywordEach [] X.env)).all (fun x=>x.1.isSome)
  && decide ((e::es).length+([]:List Keyword).length+(if([]:List Keyword).isEmpty then 0 else 1)<30))=true:=by rfl)
 (hline:(apos.endLine==cpos.line)=true:=by rfl) (hs:starEach (e::es) X.env=(false,eval e X.env)::starEach es X.env:=by rfl) (hplain:(backTo cpos (starEach es X.env)).any (·.1)=false:=by rfl) :
 PE X (.Call (.Attribute o name apos) (e::es) [] cpos) (qj X.K T r to t):=by
 intro pins s σ H Q I h;refine wpAny_Call_method_late hbase hfew hline rfl (qB (ho pins s σ H _ I h) fun v s1 zz=>?_);obtain⟨x,H1,I1,r1,ty,q1⟩:=zz;obtain⟨h1,h2⟩:=CU I1 r1 ty;refine⟨T,id,pa,slot,hty,h1,h2,?_⟩;have hA:=ha cpos pins s1 σ H1 _ I1 q1;rw[hs]at hA ⊢;refine Calls.callWith_builtin (by show(false || (backTo cpos (starEach es X.env)).any (·.1))=false;rw[hplain]<;>rfl) (Calls.evalArgs_plain ?_);exact qB hA fun us s2 ⟨vs,H2,I2,r2,q2⟩=>hm pins s2 σ H2 x vs v us Q I2 r1 r2 q2
end
def U9(X:Cx)(id:String)(r:V->List V->Hp->VK->Prop):Prop:=
 ∀(pins:List (Addr×Obj))(s:Shared)(σ:St)(H:Hp)(x:V)(xs:List V)(v:Value)(us:List Value)(Q:VK),Inv X pins σ H s->RelV x v->Vals xs us->r x xs H Q->
  wpAny (model X.prog X.w) X.A (call (.builtin id) (v::us)) (EP X pins σ Q) X.xe s
theorem Vals.one:∀{x:V}{us:List Value},Vals [x] us->∃u,us=[u]/\RelV x u
 | _,_,.cons r .nil=>⟨_,rfl,r⟩
theorem Vals.two:∀{x y:V}{us:List Value},Vals [x,y] us->∃u v,us=[u,v]/\RelV x u/\RelV y v
 | _,_,_,.cons r (.cons q .nil)=>⟨_,_,rfl,r,q⟩
theorem Vals.zero:∀{us:List Value},Vals [] us->us=[]
 | _,.nil=>rfl
theorem Vals.dropLast{xs:List V}{us:List Value}(h:Vals xs us):Vals xs.dropLast us.dropLast:=by
 induction h with
 | nil=>exact .nil
 | cons r t ih=>
  cases t with
  | nil=>exact .nil
  | cons q t'=>exact .cons r ih
theorem Vals.rep{xs:List V}{us:List Value}(h:Vals xs us):∀k:Nat,Vals (List.replicate k xs).flatten (List.replicate k us).flatten
 | 0=>.nil
 | k+1=>by rw[replicate_succ,replicate_succ,flatten_cons,flatten_cons];exact Vals.append h (Vals.rep h k)
theorem CS(its:List Value):∀(k:Nat)(acc:List Value),
 List.foldl (fun x1 x2=>x1++x2) acc.toArray (List.replicate k its.toArray)=(acc++(List.replicate k its).flatten).toArray
 | 0,acc=>by simp
 | k+1,acc=>by
  have e:acc.toArray++its.toArray=(acc++its).toArray:=by simp
  have e2:(acc++its)++(List.replicate k its).flatten=acc++(List.replicate (k+1) its).flatten:=by rw[replicate_succ,flatten_cons,append_assoc]
  rw[<- e2,<- CS its k (acc++its),<- e,replicate_succ,foldl_cons]
section
variable{X:Cx}{pins:List (Addr×Obj)}{σ:St}{H:Hp}{s:Shared}{l b:Addr}{xs ys zs:List V}
theorem Inv.Qk{its its':List Value}{n:Nat}{f:Array Value->Array Value}{t':Nat}(I:Inv X pins σ H s)(hH:H l=some (.lst xs))
 (e:s.heap.get? l=some { cls:=.type "list",data:=.seq its.toArray n }) (hf:f its.toArray=its'.toArray) (hv:Vals ys its') (hz:ys.length<=sizeLine) :
 Inv X pins σ (AB H l (.lst ys)) { s with heap:=s.heap.update l (Obj.mapSeq f),toks:=t' }:=by
 have q:=PySem.IsL.update e f;rw[hf]at q;refine I.write (x:=l) (e:=l) (by rw[hH];exact trivial) (.inl rfl) (fun b' u hb hu=>(Heap.get?_update_other s.heap (Obj.mapSeq f) (Ne.symm hb)).trans hu) ⟨_,q⟩ ?_;exact⟨hz,its',_,hv,q⟩
theorem Inv.Sw{its:List Value}{t':Nat}(I:Inv X pins σ H s)(hv:Vals ys its)(hz:ys.length<=sizeLine) :
 Inv X pins σ (AB H s.heap.objs.size (.lst ys)) { s with heap:=s.heap.push { cls:=.type "list",data:=.seq its.toArray },toks:=t' }:=
 I.laid (fun _ _ q=>Heap.get?_push_of_some _ q) (Uc _) ⟨hz,its,0,hv,Heap.get?_push_size _ rfl⟩
theorem Inv.fresh(I:Inv X pins σ H s):H s.heap.objs.size=none:=I.hok.fresh (Uc _)
theorem Inv.Tw (I:Inv X pins σ H s) (hH:H l=some (.lst xs)):xs.length<=sizeLine/\∃(its:List Value) (n:Nat),Vals xs its/\xs.length=its.length/\s.heap.get? l=some { cls:=.type "list",data:=.seq its.toArray n }:=by obtain⟨z,its,n,r,e⟩:=I.hok l _ hH;exact⟨z,its,n,r,r.length,e⟩
theorem U1{n:Nat}(h:n<=sizeLine):Builtin.List.listTooLong n=false:=by unfold Builtin.List.listTooLong;exact decide_eq_false (by omega)
end
section
variable{X:Cx}
def B6:V->List V->Hp->VK->Prop:=fun x vs H Q=>∃l xs y,x=.ref l/\vs=[y]/\H l=some (.lst xs)/\xs.length<sizeLine/\Q .non (AB H l (.lst (xs++[y])))
theorem eS:U9 X "list.append" B6:=by intro pins s σ H x vs v us Q I rx rv h;obtain⟨l,xs,y,rfl,rfl,hH,hz,q⟩:=h;cases rx;obtain⟨u,rfl,ru⟩:=rv.one;obtain⟨z,its,n,r,hl,e⟩:=I.Tw hH;refine call_meets F.slot_list_append ⟨_,e,rfl⟩ F.entry_list_append (F.args_list_append_2 _ _) (PySem.list_append l its.toArray n u (by rw[size_toArray];omega)) ⟨e,?_⟩;refine⟨.non,_,I.Qk (its':=its++[u]) hH e (by simp) (r.append (.cons ru .nil)) ?_,rfl,q⟩;rw[length_append,length_singleton];omega
def oR:R2:=fun x y H Q=>∃l k xs,x=.ref l/\y=.int k/\H l=some (.lst xs)/\-(2^63)<=k/\k<2^63/\xs.length*k.toNat<=sizeLine/\
 ∀p,H p=none->Q (.ref p) (AB H p (.lst (List.replicate k.toNat xs).flatten))
theorem P2{α:Type}(xs:List α)(k:Nat):(List.replicate k xs).flatten.length=k*xs.length:=by
 induction k with
 | zero=>simp
 | succ k ih=>rw[replicate_succ,flatten_cons,length_append,ih,Nat.succ_mul,Nat.add_comm]
theorem Z6:Vq X (binaryOp .Mult) oR:=by
 intro pins s σ H x y v u Q I rx ry h;obtain⟨l,k,xs,rfl,rfl,hH,h1,h2,hz,q⟩:=h;cases rx;obtain⟨t,rfl⟩:=ry;obtain⟨z,its,n,r,hl,e⟩:=I.Tw hH;have hlen:its.toArray.size*k.toNat<=sizeLine:=by rw[size_toArray,<- hl];exact hz
 have hcap:¬its.toArray.size*k.toNat>(2^63-1)/8:=by
  have:(sizeLine:Nat)<=(2^63-1)/8:=by decide
  omega
 have hfit:¬(!Builtin.List.listFitsIndex k)=true:=by rw[fitsIndex_both h1 h2];exact Rc
 have Lk:¬Builtin.List.listTooLong (its.toArray.size*k.toNat)=true:=by rw[U1 hlen];exact Rc
 have hnew:List.foldl (fun x1 x2=>x1++x2) #[] (List.replicate (if its.toArray.isEmpty=true then 0 else k.toNat) its.toArray)=(List.replicate k.toNat its).flatten.toArray:=by
  have f0:∀m:Nat,List.foldl (fun x1 x2=>x1++x2) #[] (List.replicate m its.toArray)=(List.replicate m its).flatten.toArray:=fun m=>by have:=CS its m [];rw[Ec]at this;exact this
  rw[f0];cases its with
  | nil=>simp
  | cons a r'=>rw[if_neg (by simp)]
 refine wpAny_binaryOp_repeat_ref (T := "list") (U := "int") (by decide) ⟨_,e,rfl⟩ (fun s'=>typeIs_int s' k t) noFill_list_mul F.fills_int_mul F.slot_int_rmul repeat_list F.slot_int_index.lookup
  (call_meets F.slot_int_rmul (typeIs_int s k t) F.entry_int_rmul (F.args_int_rmul_2 _ _) (int___rmul___int_list k t l its.toArray n)
   ⟨e,rfl,⟨_,e,rfl⟩,call_meets F.slot_list_mul ⟨_,e,rfl⟩ F.entry_list_mul (F.args_list_mul_2 _ _) (AutoListH.list___mul___list_int_3 l its.toArray n k t hfit hcap Lk) ⟨e,?_⟩⟩)
 rw[hnew];exact⟨.ref _,_,I.Sw (t':=s.toks) (r.rep k.toNat) (by rw[P2,Nat.mul_comm];exact hz),rfl,q _ I.fresh⟩
end
section
variable{prog:Program}{w:World}{A:Around}{E:Value->Shared->Prop}{s:Shared}
end
section
variable{X:Cx}
end
end L2
namespace Ht
open PySem.W PySem.Calls
theorem WW{P:Params}{h:Heap}:∀(ns:List Int)(vs:List Value),WellAll P h vs (ns.map WData.int)->IntsAre vs ns:=by
 intro ns
 induction ns with
 | nil=>intro vs w;rw[yc]at w;cases w;exact .nil
 | cons n ns ih=>
  intro vs w;rw[uc]at w;cases w with
  | cons a b=>cases a;exact .cons _ _ (ih _ b)
theorem PZ{l:OpenLaw}{n:Nat}(hn:l.most=some n){P:Params}{h:Heap}{args:List WData}{vals:List Value}
 (hpre:l.row.toRowW.claim.pre args=true) (hwl:WellAll P h vals args) :
 ∃a vs ns,vals=[Value.ref a]/\args=[WData.list (ns.map WData.int)]/\h.get? a=some { cls:=.type "list",data:=.seq vs.toArray }/\IntsAre vs ns/\ns.length<=n:=by
 have hsh:WShape.hasAll [] args [.list .int]=true:=(pre_splitW hpre).1;have hc:l.pre.holds [] { args:=args }=true:=(pre_splitW hpre).2;obtain⟨d,r,rfl,h1,h2⟩:=hasAllW_cons hsh;obtain rfl:=hasAllW_nil h2;obtain⟨xs,rfl,h3⟩:=hasW_list h1;obtain⟨ns,rfl⟩:=items_int h3;have hlen:ns.length<=n:=by
  unfold OpenLaw.pre at hc;have h4:(WTm.not (.lt (.lit (.int (n:Int))) (.len (.arg 0)))).holds [] { args:=[.list (ns.map .int)] }=true:=by have h4:=(holds_andW hc).1;rw[hn]at h4;exact h4
  have h5:=condW_of h4 (w_not (w_lt w_lit (w_len_list (w_arg rfl))));rw[length_map]at h5;refine Nat.le_of_not_lt fun q=>?_
  have q':(n:Int)<((ns.length:Nat):Int):=by omega
  first
   | (rw[decide_eq_true q']at h5;exact absurd h5 (by decide))
   | (simp at h5;omega)
 cases hwl with
 | cons w1 w2=>
  cases w2;cases w1 with
  | list ho hall=>exact⟨_,_,ns,rfl,rfl,ho,WW ns _ hall,hlen⟩
theorem IZ(l:OpenLaw)(args:List WData):l.row.toRowW.claim.post args (.bool true) args=true:=
 postW_of (r:=l.row.toRowW) (X:=(true==true))
  (show WShape.has [] (.bool true) .bool=true by first | rfl | decide | simp[WShape.has,WShape.arms,WShape.armsAll])
  (show(WTm.eq .res (.lit (.bool true))).value [] { args:=args,res:=some (.bool true),after:=args }=some (.bool (true==true))from w_eq_bool (w_res rfl) w_lit) rfl
theorem Pz{l:OpenLaw}{n:Nat}{q:Program}{loose:List Str}{XP:(Str->Option Value)->Heap->Prop}{YP:World->Heap->Prop}{d:DefRec}
 (hn:l.most=some n) (hdf:d.params.defaults=[])
 (call:∀(w:World)(s₀ s₁:Shared)(mg mb:Str->Option Value)(fa:Addr)(o:Obj)(pm cd doc:Value)(a:Addr)(vs:List Value)(ns:List Int),
  Ground q loose [] XP w s₀ mg mb s₁.heap->YP w s₁.heap->
  s₁.heap.get? fa=some o->o.data=.func (docDef d.name d.params d.body d.scope pm cd doc)->s₁.heap.CodeRec cd d.name->mg d.name=some (.ref fa)->
  s₁.heap.get? a=some { cls:=.type "list",data:=.seq vs.toArray }->IntsAre vs ns->ns.length<=n->s₁.gens=#[]->
  codeAny (model l.prog w) callerA (.call (.ref fa) ⟨[.ref a],[]⟩) (fun r s'=>r=.ok (.ret (.bool true))/\OldK s₁.heap s'.heap/\s'.os=s₁.os/\AllBare s'.gens) s₁) :
 WalkO q loose XP YP l.row.toRowW d [] (fun f vs=>PySem.call f vs):=by
 intro w s₀ s₁ mg mb G Y fa o pm cd doc dV kV ho hd hcd hD hmg hg args vals as hpre hlay hrd hwl hlo;obtain rfl:dV=.none:=Dflts.none hD hdf;obtain rfl:kV=.none:=Dflts.noKw hD;obtain⟨a,vs,ns,rfl,rfl,hobj,hints,hlen⟩:=PZ hn hpre hwl;refine enter_call (codeAny_mono (call w s₀ s₁ mg mb fa o pm cd doc a vs ns G Y ho (fd_plain hd) hcd hmg hobj hints hlen hg) fun r s' hq=>?_);obtain⟨rfl,h2,h3,h4⟩:=hq;exact⟨.inl ⟨.bool true,.bool true,[],rfl,fun _=>rfl,.bool true,IZ l _,fun _=>⟨List.Pairwise.nil,fun _ hm=>(nomatch hm)⟩⟩,h2,h3,h4⟩
section
variable{prog:Program}{w:World}{A:Around}{E:Value->Shared->Prop}{s:Shared}{K:Frag}
end
end Ht
namespace L2
theorem pS:∀{vs:List Value}{ns:List Int},IntsAre vs ns->Vals (ns.map V.int) vs
 | _,_,.nil=>.nil
 | _,_,.cons n t h=>.cons ⟨t,rfl⟩ (pS h)
noncomputable def VM(H:Hp):Prop:=∀b,H b=none\/∃o xs,H b=some (.Qz o (.lst xs))
theorem B1{P:Program}{w:World}{K:Frag}{mg mb:Str->Option Value}{CX:JG}{k:Nat}{fa a:Addr}{fd:FuncData}{x:Str}{sp:Sp}{s₁:Shared}{vs:List Value}{ns:List Int}
 (KX:K.In s₁.heap) (hns:s₁.heap.Ns mainGlobals mg) (hb:s₁.heap.Ns builtinsNs mb) (hbb:∀x:Str,x ≠ "__name__" ->mb x=bootBuiltins x) (hlim:s₁.heap.NoLimit) (hg:s₁.gens=#[])
 (ha:s₁.heap.get? a=some { cls:=.type "list",data:=.seq vs.toArray }) (hi:IntsAre vs ns) (hl:ns.length<=sizeLine) (hr:Gq k callerA)
 (F:∀base:Heap,K.In base->base.Ns mainGlobals mg->Uq P w K mg base CX k fa fd [x] sp) (hbind:∀(s:Shared)(u:Value),BindsTo s fd ⟨[u],[]⟩ [(x,u)])
 (hsp:∀H:Hp,VM H->yx K H a (ns.map V.int)->sp [.ref a] H (fun v _=>v=.bl true) fun _ _ _=>False)
 (Ih:∀H e s',CX [] H s₁ (fun _ _ _=>False) e s'->False) :
 codeAny (model P w) callerA (.call (.ref fa) ⟨[.ref a],[]⟩) (fun r s'=>r=.ok (.ret (.bool true))/\OldK s₁.heap s'.heap/\s'.os=s₁.os/\AllBare s'.gens) s₁:=by
 have rv:=pS hi;have lenV:=hi.length;have core:∀H:Hp,VM H->yx K H a (ns.map V.int)->Zx P w H s₁.heap->(∀b,H b≠none->b=a)->(H a≠none->K.lookup a=none)->
  codeAny (model P w) callerA (.call (.ref fa) ⟨[.ref a],[]⟩) (fun r s'=>r=.ok (.ret (.bool true))/\OldK s₁.heap s'.heap/\s'.os=s₁.os/\AllBare s'.gens) s₁:=by
  intro H hO hS hok hA hK;have GL:∀{b:Addr}{o:Obj},s₁.heap.get? b=some o->H b=none->(KF s₁.heap H).get? b=some o:=fun e n=>pZ e n
  have Vk:∀{b:Addr}{o:Obj}{es:Array DictEntry}{ep:Nat},s₁.heap.get? b=some o->o.data=.dict es ep->H b=none:=fun {b o es ep} e d=>by
   cases q:H b with
   | none=>rfl
   | some u=>have e':b=a:=hA b (by rw[q];simp);subst e';rw[ha]at e;cases e;have d':Data.seq vs.toArray _=Data.dict es ep:=d;cases d'
  have jh:∀{b:Addr}{m:Str->Option Value},s₁.heap.Ns b m->(KF s₁.heap H).Ns b m:=fun {b m} ⟨o,es,ep,e,d,r⟩=>⟨o,es,ep,GL e (Vk e d),d,r⟩
  have Rt:K.In (KF s₁.heap H):=fun b o e=>GL (KX b o e) (by
   cases q:H b with
   | none=>rfl
   | some u=>
    have e':b=a:=hA b (by rw[q];simp);subst e';rw[hK (by rw[q];simp)]at e;cases e)
  have hM:Mod K mg (KF s₁.heap H):=⟨Rt,jh hns,⟨mb,jh hb,hbb⟩,let ⟨mc,h1,h2⟩:=hlim;⟨mc,jh h1,h2⟩⟩;have e0:Yz P w K mg (KF s₁.heap H) callerA [] s₁ H:=⟨rfl,hM,fun b o e=>K5 e,Nat.le_of_eq (DY _ _),trivial,fun b hb=>absurd (show b∈([]:List Addr)from hb) (by simp),hok,.of_eq hg⟩;refine codeAny_mono ((F _ Rt (jh hns)).run callerA [] s₁ H ⟨[.ref a],[]⟩ [.ref a] [.ref a] _ _ hr e0 (hbind s₁ (.ref a)) (.cons rfl .nil) (hsp H hO hS)) fun r s' h=>?_
  cases r with
  | error e=>exact(Ih H e s' h).elim
  | ok fl=>
   cases fl with
   | next=>exact False.elim h
   | brk=>exact False.elim h
   | cont=>exact False.elim h
   | ret u=>
    obtain⟨v,H',os,bare,un,hok',r',q⟩:=h;have q':v=.bl true:=q;subst q';obtain rfl:u=Value.bool true:=r';refine⟨rfl,OldK.of_keep fun b o e=>?_,os,bare⟩;cases q:H b with
    | none=>exact un.keep b o e q (by intro z;exact absurd (show b∈([]:List Addr)from z) (by simp)) (by simp)
    | some u=>
     rcases hO b with z | ⟨ob,xs,z⟩
     · rw[q]at z;cases z
     · have z2:=un.Px b ob _ z;obtain⟨e1,_⟩:=hok b _ z;obtain⟨e2,_⟩:=hok' b _ z2;rw[e]at e1;cases e1;exact e2
 cases hk:K.lookup a with
 | some o=>have e:=KX a o hk;rw[ha]at e;cases e;refine core (fun _=>none) (fun _=>.inl rfl) (.inr ⟨_,vs.toArray,_,hk,rfl,rfl,rfl,by rw[size_toArray,lenV];exact hl,by simpa using rv⟩) (fun b u z=>by have z':(none:Option HO)=some u:=z;cases z') (fun b z=>absurd rfl z) fun z=>absurd rfl z
 | none=>
  refine core (fun b=>if b=a then some (.Qz { cls:=.type "list",data:=.seq vs.toArray } (.lst (ns.map V.int)))else none) (fun b=>?_) (.inl (.inr ⟨{ cls:=.type "list",data:=.seq vs.toArray },if_pos rfl⟩)) (fun b u z=>?_) (fun b z=>?_) fun _=>hk
  · by_cases hb:b=a
    · exact .inr ⟨_,_,if_pos hb⟩
    · exact .inl (if_neg hb)
  · by_cases hb:b=a
    · have z':=(if_pos hb).symm.trans z;cases z';subst hb;exact⟨ha,by rw[length_map];exact hl,vs,_,rv,ha⟩
    · have z':=(if_neg hb).symm.trans z;cases z'
  · by_cases hb:b=a
    · exact hb
    · exact absurd (if_neg hb) z
theorem j5{l:PySem.W.OpenLaw}{n k:Nat}{q:Program}{loose:List Str}{XP:(Str->Option Value)->Heap->Prop}{YP:World->Heap->Prop}{d:DefRec}{K:Params->Frag}{CX:World->JG}{sp:World->Sp}{x:Str}
 (hn:l.most=some n) (hn2:n<=sizeLine) (hdf:d.params.defaults=[]) (hr:Gq k callerA)
 (hY:∀(w:World)(h:Heap),YP w h->(K w.params).In h)
 (F:∀(w:World)(mg:Str->Option Value)(fa:Addr)(h:Heap),(K w.params).In h->h.Ns mainGlobals mg->mg d.name=some (.ref fa)->
  ∃fd:FuncData,(∀(s:Shared)(u:Value),BindsTo s fd ⟨[u],[]⟩ [(x,u)])/\
   ∀base:Heap,(K w.params).In base->base.Ns mainGlobals mg->Uq l.prog w (K w.params) mg base (CX w) k fa fd [x] (sp w))
 (hsp:∀(w:World)(H:Hp)(a:Addr)(ns:List Int),ns.length<=n->VM H->yx (K w.params) H a (ns.map V.int)->sp w [.ref a] H (fun v _=>v=.bl true) fun _ _ _=>False)
 (Ih:∀(w:World)(H:Hp)(s:Shared)(e:Value)(s':Shared),CX w [] H s (fun _ _ _=>False) e s'->False) :
 PySem.W.WalkO q loose XP YP l.row.toRowW d [] (fun f vs=>PySem.call f vs):=by
 refine Ht.Pz hn hdf fun w s₀ s₁ mg mb fa o pm cd doc a vs ns G Y ho hd hcd hmg hobj hints hlen hg=>?_
 have KX:=hY w _ Y;obtain⟨fd,hb,hF⟩:=F w mg fa _ KX G.T.g hmg;exact B1 KX G.T.g G.T.b G.T.builtins G.T.nolimit hg hobj hints (Nat.le_trans hlen hn2) hr hF hb (fun H hO hS=>hsp w H a ns hlen hO hS) fun H e s'=>Ih w H s₁ e s'
noncomputable def SL(s:Stmt)(j:Nat):Stmt:=match s with
 | .ClassDef _ _ _ body _ _ _ _ _ _ _=>body.getD j (.Pass ⟨0,0,0,0⟩)
 | _=>.Pass ⟨0,0,0,0⟩
noncomputable def BG(s:Stmt):Arguments:=match s with
 | .FunctionDef _ a _ _ _ _ _ _ _ _=>a
 | _=>{ posonlyargs:=[],args:=[],vararg:=none,kwonlyargs:=[],kw_defaults:=[],kwarg:=none,defaults:=[] }
noncomputable def FD(s:Stmt):List Stmt:=match s with
 | .FunctionDef _ _ b _ _ _ _ _ _ _=>b
 | _=>[]
noncomputable def LA(s:Stmt):Scope:=match s with
 | .FunctionDef _ _ _ _ _ _ sc _ _ _=>sc
 | _=>{ kind:=.function,names:=[],isGenerator:=false,isCoroutine:=false }
noncomputable abbrev iF:JG:=fun _ _ _ _ _ _=>False
noncomputable abbrev E0:XK:=fun _ _ _=>False
theorem DQ{X:Cx}:wI iF X E0:=fun _ _ _ _ _ _ _ h=>h.elim
structure Mv(K:Frag)(x qual:Str)(st:Stmt)(f:Addr)(fd:FuncData):Prop where
 ex:∃(oc:Value)(od:Option Addr)(kV doc pm:Value)(an:Option Addr)(cdv ct:Value)(osl:Array (Option Value)),
  fd=fnOf x qual (BG st) (FD st) (LA st) .none kV doc pm an cdv ct/\K.lookup f=some ⟨oc,od,.func fd,osl⟩/\PySem.W.codeIn K cdv qual=true
 kp:keepIn K (.ref f)=true
section
variable{P:Program}{w:World}{K:Frag}{mg:Str->Option Value}{base:Heap}
theorem Mv.ok{x qual:Str}{st:Stmt}{f:Addr}{fd:FuncData}{N ps:List Str}{k:Nat}{sp:Sp}(F:Mv K x qual st f fd)(S:rB N ps (LA st))(len:∀vs H Q E,sp vs H Q E->vs.length=ps.length)
 (hbody:∀(cdv:Value)(A:Around)(outer:List Env)(s:Shared)(H:Hp)(vs:List V)(Q:VK)(E:XK),Gq k (A.deeper (envOfC qual (LA st) s.heap.objs.size f cdv))->sp vs H Q E->
  ∃t,rz (kD iF P w K mg base N qual (LA st) f cdv A outer s H E).Iv (FD st) t/\t { nx:=fun _ H'=>Q .non H',rt:=Q } (eF N vs) H):Uq P w K mg base iF (k+1) f fd ps sp:=by
 obtain⟨oc,od,kV,doc,pm,an,cdv,ct,osl,rfl,lk,hcd⟩:=F.ex;refine UU lk hcd S len fun A outer s H vs Q E hr hsp=>?_
 obtain⟨t,h,q⟩:=hbody cdv A outer s H vs Q E hr hsp;exact⟨t,h.Iv,q⟩
theorem Mv.binds{x qual:Str}{st:Stmt}{f:Addr}{fd:FuncData}{ps:List Str}(F:Mv K x qual st f fd)
 (h:∀(kV doc pm:Value)(an:Option Addr)(cdv ct:Value)(us:List Value),us.length=ps.length->bindArgs (fnOf x qual (BG st) (FD st) (LA st) .none kV doc pm an cdv ct) ⟨us,[]⟩=pure (ps.zip us)):Binds K fd ps []:=by
 obtain⟨oc,od,kV,doc,pm,an,cdv,ct,osl,rfl,lk,hcd⟩:=F.ex;exact .all (h kV doc pm an cdv ct)
theorem pQ{x qual:Str}{st:Stmt}{f:Addr}{oc:Value}{od an:Option Addr}{osl:Array (Option Value)}{kV doc pm cdv ct:Value}(l:K.lookup f=some ⟨oc,od,.func (fnOf x qual (BG st) (FD st) (LA st) .none kV doc pm an cdv ct),osl⟩)
 (c:PySem.W.codeIn K cdv qual=true) (k:keepIn K (.ref f)=true):Mv K x qual st f (fnOf x qual (BG st) (FD st) (LA st) .none kV doc pm an cdv ct):=⟨⟨oc,od,kV,doc,pm,an,cdv,ct,osl,rfl,l,c⟩,k⟩
end
section
variable{X:Cx}
end
theorem yE{A B:Prop}(h:B):if false=true then A else B:=by rw[if_neg Rc];exact h
theorem zE{A B:Prop}(h:A):if true=true then A else B:=by rw[if_pos rfl];exact h
noncomputable def Same(H H':Hp):Prop:=∀b o,H b=some o->H' b=some o
theorem Same.refl(H:Hp):Same H H:=fun _ _ h=>h
theorem Same.trans{H H1 H2:Hp}(a:Same H H1)(b:Same H1 H2):Same H H2:=fun c o h=>b c o (a c o h)
theorem Same.free{H H':Hp}(e:Same H H'){l:Addr}(h:H' l=Option.none):H l=Option.none:=by
 cases q:H l with
 | none=>rfl
 | some o=>rw[e l o q]at h;cases h
open PySem.AutoSeq1 (wpAny_loadPart')
open PySem.SeqAt PySem.MeetsSeq PySem.MeetsSeq2 PySem.MeetsSeq3
theorem GY(l b:Addr)(items items2:Array Value)(n n2:Nat)(dd dd2:Option Addr)(sl sl2:Array (Option Value))(hc0:items.size+items2.size<=sizeLine) :
 Meets (Builtin.«list.__add__» ⟨[.ref l,.ref b],[]⟩) (fun _ R s=>s.heap.get? l=some { cls:=.type "list",dict:=dd,data:=.seq items n,slots:=sl }/\s.heap.get? b=some { cls:=.type "list",dict:=dd2,data:=.seq items2 n2,slots:=sl2 }/\R (.ok (.ret (Value.ref s.heap.objs.size))) { s with heap:=s.heap.push { cls:=Value.type "list",data:=Data.seq (items++items2) },toks:=s.toks }):=
 .of_wp fun prog w A R s h=>by obtain⟨hp,g,d,tk,os⟩:=s;obtain⟨hl,hb,h⟩:=h;have f1:=AutoSeq1.idx_int;have f2:=AutoSeq1.sub_tuple_tuple;have f3:=AutoSeq1.sub_list_list;have f4:=AutoSeq1.sub_tuple_list;have f5:=AutoSeq1.sub_list_tuple;wp_walk using wpAny_loadPart' hl,wpAny_loadPart' hb;exact⟨_,rfl,h⟩
section
variable{X:Cx}
theorem ST:Vq X (binaryOp .Add) (fun x y H Q=>∃l b xs zs,x=.ref l/\y=.ref b/\yx X.K H l xs/\yx X.K H b zs/\xs.length+zs.length<=sizeLine/\∀p,H p=none->Q (.ref p) (AB H p (.lst (xs++zs)))):=by
 intro pins s σ H x y v u Q I rx ry h;obtain⟨l,b,xs,zs,rfl,rfl,hH,hB,hz,q⟩:=h;cases rx;cases ry;obtain⟨its,r,⟨⟨c1,d1,t1,Uh⟩,n,e,k1,k2,k3⟩,z⟩:=I.list hH;obtain⟨its2,r2,⟨⟨c2,d2,t2,sl2⟩,n2,e2,m1,m2,m3⟩,z2⟩:=I.list hB;simp only at k1 k2 k3 m1 m2 m3;subst k1 k2 k3 m1 m2 m3;have hl:=r.length;have hl2:=r2.length;refine concat_meets ⟨_,e,rfl⟩ ⟨_,e2,rfl⟩ noFill_list_add seq_list_add F.slot_list_add F.entry_list_add (F.args_list_add_2 _ _) (GY l b its.toArray its2.toArray n n2 none none Uh sl2 (by rw[size_toArray,size_toArray];omega)) ⟨e,e2,?_⟩;have ea:its.toArray++its2.toArray=(its++its2).toArray:=by simp
 rw[ea];exact⟨.ref _,_,I.Sw (t':=s.toks) (r.append r2) (by rw[length_append];omega),rfl,q _ I.fresh⟩
theorem dY{us:List Value}{ns:List Int}(h:IntsAre us ns):∃xs:Array (Int×Tok),us.toArray=intItems xs/\xs.toList.map (·.1)=ns:=by obtain⟨xs,e⟩:=h.allInts.items;refine⟨xs,e,?_⟩;have e2:=h.numsOf;rw[<- nums_intItems,<- e];exact e2
theorem XY (hc:X.calm=true):Oq X (.builtin "sum") (fun xs H Q=>∃(p:Addr) (ns:List Int),xs=[.ref p]/\yx X.K H p (ns.map V.int)/\Q (.int ns.sum) H):=by
 intro pins s σ H xs us Q I r h;obtain⟨p,ns,rfl,hq,q⟩:=h;obtain⟨u,rfl,rx⟩:=DF r;cases rx;obtain⟨its,r',pl,hz⟩:=I.list hq;obtain⟨ys,e,e2⟩:=dY (cY r');have hl:=pl.isList;rw[e]at hl;refine sum_intListG (I.ok.hd hc) hl fun h' tk t' k=>⟨.int ns.sum,H,I.kept k,⟨t',?_⟩,q⟩
 rw[preSum_eq,take_of_length_le (by simp),e2]
def X9(K:Frag)(H:Hp)(x:V)(t:String):Prop:=match x with
 | .non=>t = "NoneType"
 | .bl _=>t = "bool"
 | .int _=>t = "int"
 | .str _=>t = "str"
 | .ref a=>(t = "list" /\ ∃xs,yx K H a xs)\/(t = "tuple" /\ ∃xs,SI K H a xs)
 | _=>False
theorem zZ {T:String}:Oq X (.builtin "isinstance") (fun xs H Q=>∃x t b,xs=[x,.ty T]/\X9 X.K H x t/\PySem.W.kitOne X.K (.type t) (.type T)=some b/\Q (.bl b) H):=by
 intro pins s σ H xs us Q I r h;obtain⟨x,t,b,rfl,ty,e,q⟩:=h;obtain⟨u,u2,rfl,rx,ry⟩:=tV r;cases ry;have fin:∀tk,EP X pins σ Q (.bool b) { s with toks:=tk }:=fun tk=>⟨.bl b,H,I.tok tk,rfl,q⟩
 cases x with
 | non=>cases (show t = "NoneType" from ty);cases rx;exact PySem.W.kia_one PySem.W.kitx_none I.Jx True.intro e (fun z=>nomatch z) fin
 | bl y=>cases (show t = "bool" from ty);cases rx;exact PySem.W.kia_one PySem.W.kitx_bool I.Jx True.intro e (fun z=>nomatch z) fin
 | int i=>cases (show t = "int" from ty);obtain⟨_,rfl⟩:=rx;exact PySem.W.kia_one PySem.W.kitx_int I.Jx True.intro e (fun z=>nomatch z) fin
 | str y=>cases (show t = "str" from ty);obtain⟨_,rfl⟩:=rx;exact PySem.W.kia_one PySem.W.kitx_str I.Jx True.intro e (fun z=>nomatch z) fin
 | ref a=>
  cases rx;rcases ty with⟨rfl,ys,sq⟩ | ⟨rfl,ys,sq⟩
  · obtain⟨its,_,⟨o,n,h1,h2,_,_⟩,_⟩:=I.list sq;exact PySem.W.kia_one PySem.W.kitx_list I.Jx ⟨o,h1,h2⟩ e (fun z=>nomatch z) fin
  · obtain⟨its,_,⟨o,h1,h2,_⟩,_⟩:=I.tuple sq;exact PySem.W.kia_one PySem.W.kitx_tuple I.Jx ⟨o,h1,h2⟩ e (fun z=>nomatch z) fin
 | Nv _=>exact False.elim ty
 | flt _=>exact False.elim ty
 | ty _=>exact False.elim ty
end
open PySem.AutoSeq1 (wpAny_loadPart')
open PySem.SeqAt PySem.MeetsSeq PySem.MeetsSeq2 PySem.MeetsSeq3
theorem XX(l b:Addr)(items items2:Array Value)(n n2:Nat)(dd dd2:Option Addr)(sl sl2:Array (Option Value))(e:Nat->Bool) :
 Meets (Builtin.«tuple.__ne__» ⟨[.ref l,.ref b],[]⟩)
  (fun A R s=>s.heap.get? l=some { cls:=.type "tuple",dict:=dd,data:=.seq items n,slots:=sl }/\s.heap.get? b=some { cls:=.type "tuple",dict:=dd2,data:=.seq items2 n2,slots:=sl2 }/\
   (∀j (h1:j<items.size) (h2:j<items2.size),EqAt A.in1 s items[j] items2[j] (e j))/\
   R (.ok (.ret (.bool (!((List.range (min items.size items2.size)).all e&&items.size==items2.size))))) s):=
 .of_wp fun prog w A R s h=>by
  obtain⟨hp,g,d,tk,os⟩:=s;obtain⟨hl,hb,he,h⟩:=h;have f2:=AutoSeq1.sub_tuple_tuple;have hZ:(items.toList.zip items2.toList).length=min items.size items2.size:=by simp
  wp_walk using wpAny_loadPart' hl,wpAny_loadPart' hb,wpAny_forIn_list _ (fun rest b s'=>b.1=none/\s'=⟨hp,g,d,tk,os⟩/\∃i,rest=(items.toList.zip items2.toList).drop i/\
   R (.ok (.ret (.bool (!(((List.range (min items.size items2.size)).drop i).all e&&items.size==items2.size))))) ⟨hp,g,d,tk,os⟩) _
  case turn=>
   rintro⟨y,x⟩ rest b s' ⟨hb',rfl,i,hz,hR⟩;have hlt:i<(items.toList.zip items2.toList).length:=by
    rcases Nat.lt_or_ge i (items.toList.zip items2.toList).length with h' | h'
    · exact h'
    · rw[drop_of_length_le h']at hz;cases hz
   have hm:i<min items.size items2.size:=hZ ▸ hlt;have h1:i<items.size:=Nat.lt_of_lt_of_le hm (Nat.min_le_left _ _);have h2:i<items2.size:=Nat.lt_of_lt_of_le hm (Nat.min_le_right _ _);rw[drop_eq_getElem_cons hlt]at hz;injection hz with hyx hrest
   have hy:y=items[i]:=by have:=congrArg Prod.fst hyx;simpa using this
   have hx:x=items2[i]:=by have:=congrArg Prod.snd hyx;simpa using this
   subst hy hx;have hd:(List.range (min items.size items2.size)).drop i=i::(List.range (min items.size items2.size)).drop (i+1):=by simp[drop_eq_getElem_cons,hm]
   rw[hd,all_cons]at hR;refine wpAny_bind (he i h1 h2 prog w _ _ ?_);cases hy:e i with
   | true=>
    rw[hy]at hR
    wp_walk
    exact⟨rfl,rfl,i+1,hrest,by simpa only[Bool.true_and]using hR⟩
   | false=>
    rw[hy]at hR
    wp_walk
    exact⟨_,rfl,by simpa only[Bool.false_and,Bool.not_false]using hR⟩
  case fin=>
   rintro⟨b1,b2⟩ s' ⟨hb',rfl,i,hz,hR⟩;simp only at hb';subst hb';have hge:min items.size items2.size<=i:=by
    rcases Nat.lt_or_ge i (items.toList.zip items2.toList).length with h' | h'
    · rw[drop_eq_getElem_cons h']at hz;cases hz
    · exact hZ ▸ h'
   rw[drop_of_length_le (by simpa using hge)]at hR
   wp_walk
   exact⟨_,rfl,by simpa[Builtin.Tuple.tupleCompareSizes,bne]using hR⟩
  case h=>exact⟨rfl,rfl,0,rfl,by simpa only[drop_zero]using h⟩
theorem PY(l b:Addr)(items items2:Array Value)(n n2:Nat)(dd dd2:Option Addr)(sl sl2:Array (Option Value))(hsz:items.size=items2.size)(e:Nat->Bool)(k:Nat) :
 ∀i:Nat,items.size-i=k->Meets (Builtin.«list.__eq__.loop» ⟨[.ref l,.ref b,rawInt i,rawInt 3],[]⟩)
  (fun A R s=>s.heap.get? l=some { cls:=.type "list",dict:=dd,data:=.seq items n,slots:=sl }/\s.heap.get? b=some { cls:=.type "list",dict:=dd2,data:=.seq items2 n2,slots:=sl2 }/\
   (∀j (h1:j<items.size) (h2:j<items2.size),EqAt A.in1 s items[j] items2[j] (e j))/\
   R (.ok (.ret (.bool (!(((List.range items.size).drop i).all e))))) s):=by
 induction k with
 | zero=>
  intro i hk prog w A R s h;obtain⟨hp,g,d,tk,os⟩:=s;obtain⟨hl,hb,he,h⟩:=h
  wp_walk using wpAny_loadPart' hl,wpAny_loadPart' hb
  have hi1:items[((i:Nat):Int).toNat]?=none:=by simp;omega
  have hi2:items2[((i:Nat):Int).toNat]?=none:=by simp;omega
  have hd:(List.range items.size).drop i=[]:=by simp;omega
  rw[hd]at h;rw[hi1,hi2]
  wp_walk using wpAny_loadPart' hl,wpAny_loadPart' hb
  show R (.ok (.ret (.bool (items.size !=items2.size)))) _;rw[hsz];simpa using h
 | succ k ih=>
  intro i hk prog w A R s h;obtain⟨hp,g,d,tk,os⟩:=s;obtain⟨hl,hb,he,h⟩:=h
  wp_walk using wpAny_loadPart' hl,wpAny_loadPart' hb
  have hlt:i<items.size:=by omega
  have hlt2:i<items2.size:=by omega
  have hi1:items[((i:Nat):Int).toNat]?=some items[i]:=by simp[hlt]
  have hi2:items2[((i:Nat):Int).toNat]?=some items2[i]:=by simp[hlt2]
  have hd:(List.range items.size).drop i=i::(List.range items.size).drop (i+1):=by simp[drop_eq_getElem_cons,hlt]
  have hc:((i:Int)+1)=((i+1:Nat):Int):=by push_cast;rfl
  rw[hd,all_cons]at h;rw[hi1,hi2];refine wpAny_bind (he i hlt hlt2 prog w _ _ ?_);cases hb':e i with
  | true=>
   rw[hb']at h
   wp_walk
   rw[hc];exact⟨plainId_quiet plain_eq_loop _,codeAny_builtin entry_eq_loop (by
    rw[Around.under_plainId plain_eq_loop _];exact ih (i+1) (by omega) prog w A R _ ⟨hl,hb,he,by simpa only[Bool.true_and]using h⟩)⟩
  | false=>
   rw[hb']at h
   wp_walk using wpAny_loadPart' hl,wpAny_loadPart' hb
   rw[hi1,hi2]
   wp_walk
   simpa using h
theorem HY(l b:Addr)(items items2:Array Value)(n n2:Nat)(dd dd2:Option Addr)(sl sl2:Array (Option Value))(hsz:items.size=items2.size)(e:Nat->Bool) :
 Meets (Builtin.«list.__ne__» ⟨[.ref l,.ref b],[]⟩)
  (fun A R s=>s.heap.get? l=some { cls:=.type "list",dict:=dd,data:=.seq items n,slots:=sl }/\s.heap.get? b=some { cls:=.type "list",dict:=dd2,data:=.seq items2 n2,slots:=sl2 }/\
   (∀j (h1:j<items.size) (h2:j<items2.size),EqAt A.in1 s items[j] items2[j] (e j))/\
   R (.ok (.ret (.bool (!((List.range items.size).all e))))) s):=by
 intro prog w A R s h;obtain⟨hp,g,d,tk,os⟩:=s;obtain⟨hl,hb,he,h⟩:=h;have f3:=AutoSeq1.sub_list_list;have hne:¬(items.size !=items2.size)=true:=by simp[hsz]
 wp_walk using wpAny_loadPart' hl,wpAny_loadPart' hb
 exact⟨plainId_quiet plain_eq_loop _,codeAny_builtin entry_eq_loop (by
  rw[Around.under_plainId plain_eq_loop _];exact PY l b items items2 n n2 dd dd2 sl sl2 hsz e _ 0 rfl prog w A R _ ⟨hl,hb,he,by simpa only[drop_zero]using h⟩)⟩
theorem RW(l b:Addr)(items items2:Array Value)(n n2:Nat)(dd dd2:Option Addr)(sl sl2:Array (Option Value))(hc0:(items.size !=items2.size)=true) :
 Meets (Builtin.«list.__ne__» ⟨[.ref l,.ref b],[]⟩)
  (fun _ R s=>s.heap.get? l=some { cls:=.type "list",dict:=dd,data:=.seq items n,slots:=sl }/\s.heap.get? b=some { cls:=.type "list",dict:=dd2,data:=.seq items2 n2,slots:=sl2 }/\
   R (.ok (.ret (.bool true))) s):=
 .of_wp fun prog w A R s h=>by
  obtain⟨hp,g,d,tk,os⟩:=s;obtain⟨hl,hb,h⟩:=h;have f3:=AutoSeq1.sub_list_list
  wp_walk using wpAny_loadPart' hl,wpAny_loadPart' hb
  exact⟨_,rfl,h⟩
section
variable{prog:Program}{w:World}{A:Around}{E:Value->Shared->Prop}{s:Shared}{Q:Value->Shared->Prop}
theorem QY{l b:Addr}{items items2:Array Value}{e:Nat->Bool}(hl:s.heap.IsTuple l items)(hb:s.heap.IsTuple b items2)(hu:A.units<cLine)
 (he:∀j (h1:j<items.size) (h2:j<items2.size),EqAt A.in1 s items[j] items2[j] (e j)) (h:Q (.bool (!((List.range (min items.size items2.size)).all e&&items.size==items2.size))) s):wpAny (model prog w) A (compareOp .NotEq (.ref l) (.ref b)) Q E s:=by
 obtain⟨⟨cls,dd,data,sl⟩,ho,hc,n,hd⟩:=id hl;obtain⟨⟨cls2,dd2,data2,sl2⟩,ho2,hc2,n2,hd2⟩:=id hb;simp only at hc hd hc2 hd2;subst hc hd hc2 hd2;exact richCompare_meets_room (op:=.NotEq) ⟨_,ho,rfl⟩ ⟨_,ho2,rfl⟩ F.slot_tuple_ne F.entry_tuple_ne (F.args_tuple_ne_2 _ _) (XX l b items items2 n n2 dd dd2 sl sl2 e) ⟨ho,ho2,he,⟨(fun x=>nomatch x),h⟩⟩ hu
theorem N1{l b:Addr}{items items2:Array Value}{e:Nat->Bool}(hl:s.heap.IsList l items)(hb:s.heap.IsList b items2)(hsz:items.size=items2.size)(hu:A.units<cLine)
 (he:∀j (h1:j<items.size) (h2:j<items2.size),EqAt A.in1 s items[j] items2[j] (e j)) (h:Q (.bool (!((List.range items.size).all e))) s):wpAny (model prog w) A (compareOp .NotEq (.ref l) (.ref b)) Q E s:=by
 obtain⟨⟨cls,dd,data,sl⟩,ho,hc,n,hd⟩:=id hl;obtain⟨⟨cls2,dd2,data2,sl2⟩,ho2,hc2,n2,hd2⟩:=id hb;simp only at hc hd hc2 hd2;subst hc hd hc2 hd2;exact richCompare_meets_room (op:=.NotEq) ⟨_,ho,rfl⟩ ⟨_,ho2,rfl⟩ F.slot_list_ne F.entry_list_ne (F.args_list_ne_2 _ _) (HY l b items items2 n n2 dd dd2 sl sl2 hsz e) ⟨ho,ho2,he,⟨(fun x=>nomatch x),h⟩⟩ hu
theorem iX{l b:Addr}{items items2:Array Value}(hl:s.heap.IsList l items)(hb:s.heap.IsList b items2)(hsz:(items.size !=items2.size)=true)(hu:A.units<cLine)
 (h:Q (.bool true) s):wpAny (model prog w) A (compareOp .NotEq (.ref l) (.ref b)) Q E s:=by
 obtain⟨⟨cls,dd,data,sl⟩,ho,hc,n,hd⟩:=id hl;obtain⟨⟨cls2,dd2,data2,sl2⟩,ho2,hc2,n2,hd2⟩:=id hb;simp only at hc hd hc2 hd2;subst hc hd hc2 hd2;exact richCompare_meets_room (op:=.NotEq) ⟨_,ho,rfl⟩ ⟨_,ho2,rfl⟩ F.slot_list_ne F.entry_list_ne (F.args_list_ne_2 _ _) (RW l b items items2 n n2 dd dd2 sl sl2 hsz) ⟨ho,ho2,⟨(fun x=>nomatch x),h⟩⟩ hu
end
noncomputable abbrev iJ(C t0:Addr)(dx:Option Addr):Obj:={ cls:=.ref C,dict:=dx,data:=.fields #[.ref t0,.none,.none,.none,.bool false,.none] }
abbrev XO(a C t0:Addr)(dx:Option Addr):HO:=.ext fun h=>h.get? a=some (iJ C t0 dx)
noncomputable abbrev XL(e:Addr)(cls:Value)(dx:Option Addr):HO:=.ext fun h=>∃oe vs,h.get? e=some oe/\(oe.cls=cls/\oe.dict=dx)/\oe.data=.fields vs
noncomputable def xV:Sum Int Str->V
 | .inl i=>.int i
 | .inr z=>.str z
end L2
namespace SM
inductive Dt where
 | non | bl (b:Bool) | int (i:Int) | str (x:Str) | tup (xs:List Dt) | lst (xs:List Dt) | ref (n:Nat) | jz (xs:List Int) | err (x f:Str) (i:Sum Int Str) | thr (x f:Str) (i:Sum Int Str)
inductive Ob where
 | lst (xs:List Dt)
 | ins (x:Str) (fs:List (Str×Dt))
 | dk (kvs:List (gC×Dt))
 | dt (kvs:List (List Int×Dt))
 | df (kvs:List (List Int×Dt))
 | Ck (kvs:List (gC×Dt))
noncomputable abbrev HI:=List Ob
noncomputable abbrev LI:=List (Option Dt)
structure Rg where
 v:List Addr
 z:List Addr
noncomputable def Rg.no(ρ:Rg)(a:Addr):Prop:=a∉ρ.v/\a∉ρ.z
noncomputable def Rg.add(ρ:Rg)(p:Addr):Rg:=⟨ρ.v++[p],ρ.z⟩
noncomputable def Rg.hide(ρ:Rg)(p:Addr):Rg:=⟨ρ.v,p::ρ.z⟩
noncomputable def Rg.nil:Rg:=⟨[],[]⟩
def TupAt(K:Frag)(H:Hp)(ρ:Rg)(a:Addr)(vs:List V):Prop:=
 (ρ.no a/\Rd H a (.tup vs))\/
  ∃(o:Obj) (its:Array Value) (n:Nat),K.lookup a=some o/\o.cls=.type "tuple" /\ o.data=.seq its n/\its.size<=sizeLine/\Vals vs its.toList
def LstAt(K:Frag)(H:Hp)(ρ:Rg)(a:Addr)(vs:List V):Prop:=
 (ρ.no a/\Rd H a (.lst vs))\/
  ∃(o:Obj) (its:Array Value) (n:Nat),K.lookup a=some o/\o.cls=.type "list" /\ o.dict=none/\o.data=.seq its n/\its.size<=sizeLine/\Vals vs its.toList
theorem TupAt.sq{K:Frag}{H:Hp}{ρ:Rg}{a:Addr}{vs:List V}(h:TupAt K H ρ a vs):SI K H a vs:=by
 rcases h with⟨_,h⟩ | h
 · exact .inl h
 · exact .inr h
theorem LstAt.sq{K:Frag}{H:Hp}{ρ:Rg}{a:Addr}{vs:List V}(h:LstAt K H ρ a vs):yx K H a vs:=by
 rcases h with⟨_,h⟩ | h
 · exact .inl h
 · exact .inr h
mutual
noncomputable def lq(K:Frag)(H:Hp)(ρ:Rg):Dt->V->Prop
 | .non,v=>v=.non
 | .bl b,v=>v=.bl b
 | .int i,v=>v=.int i
 | .str x,v=>v=.str x
 | .tup xs,v=>∃a vs,v=.ref a/\TupAt K H ρ a vs/\aq K H ρ xs vs
 | .lst xs,v=>∃a vs,v=.ref a/\LstAt K H ρ a vs/\aq K H ρ xs vs
 | .ref n,v=>∃a,v=.ref a/\ρ.v[n]?=some a
 | .jz xs,v=>∃a,v=.ref a/\ρ.no a/\H a=some (.tup (xs.map V.int))
 | .err x f i,v=>∃a C dx,v=.ref a/\nsIn K mainGlobals x=some (some (.ref C))/\ρ.no a/\H a=some (XL a (.ref C) dx)/\((f = "" /\ dx=none)\/∃b,dx=some b/\ρ.no b/\H b=some (.xd [(f,xV i)]))
 | .thr _ _ _,_=>False
noncomputable def aq(K:Frag)(H:Hp)(ρ:Rg):List Dt->List V->Prop
 | [],vs=>vs=[]
 | x::xs,vs=>∃v r,vs=v::r/\lq K H ρ x v/\aq K H ρ xs r
end
structure Ext(ρ ρ':Rg)(H H':Hp):Prop where
 pre:∃e,ρ'.v=ρ.v++e/\∀a∈e,H a=none
 hid:ρ'.z=ρ.z
 keep:∀a o,H a=some o->a∉ρ.v->H' a=some o
 live:∀a,H' a=none->H a=none
 fz:∀a o u,H a=some (.Qz o u)->H' a=some (.Qz o u)
theorem Ext.refl(ρ:Rg)(H:Hp):Ext ρ ρ H H:=⟨⟨[],by simp,by simp⟩,rfl,fun _ _ h _=>h,fun _ h=>h,fun _ _ _ h=>h⟩
theorem Ext.Wk{ρ ρ':Rg}{H H':Hp}(x:Ext ρ ρ' H H'){a:Addr}{o:HO}(h:H a=some o)(n:a∉ρ.v):a∉ρ'.v:=by
 obtain⟨e,e',hn⟩:=x.pre;rw[e'];intro hm;rcases mem_append.mp hm with hm | hm
 · exact n hm
 · have:=hn a hm;rw[h]at this;cases this
theorem Ext.Rv{ρ ρ':Rg}{H H':Hp}(x:Ext ρ ρ' H H'){a:Addr}{o:HO}(h:H a=some o)(n:ρ.no a):ρ'.no a:=⟨x.Wk h n.1,by rw[x.hid];exact n.2⟩
theorem Ext.trans{ρ ρ1 ρ2:Rg}{H H1 H2:Hp}(x:Ext ρ ρ1 H H1)(y:Ext ρ1 ρ2 H1 H2):Ext ρ ρ2 H H2:=by
 refine⟨?_,y.hid.trans x.hid,fun a o h n=>y.keep a o (x.keep a o h n) (x.Wk h n),fun a h=>x.live a (y.live a h),fun a o u h=>y.fz a o u (x.fz a o u h)⟩;obtain⟨e,q1,h1⟩:=x.pre;obtain⟨e',q2,h2⟩:=y.pre;refine⟨e++e',by rw[q2,q1,append_assoc],fun a ha=>?_⟩;rcases mem_append.mp ha with ha | ha
 · exact h1 a ha
 · exact x.live a (h2 a ha)
theorem Ext.get{ρ ρ':Rg}{H H':Hp}(x:Ext ρ ρ' H H'){n:Nat}{a:Addr}(h:ρ.v[n]?=some a):ρ'.v[n]?=some a:=by obtain⟨e,e',_⟩:=x.pre;have:=(Kc h).1;rw[e',Qc this];exact h
theorem Ext.fresh{ρ:Rg}{H:Hp}{p:Addr}{o:HO}(h:H p=none):Ext ρ ρ H (AB H p o):=by
 refine⟨⟨[],by simp,by simp⟩,rfl,fun a u e _=>?_,fun a e=>?_,fun a o u e=>by rw[lB (XC e h)];exact e⟩
 · rw[lB (XC e h)];exact e
 · by_cases ha:a=p
   · subst ha;exact h
   · rw[lB ha]at e;exact e
theorem Ext.own{ρ:Rg}{H:Hp}{p:Addr}{o:HO}(h:H p=none):Ext ρ (ρ.add p) H (AB H p o):=by refine⟨⟨[p],rfl,fun a ha=>?_⟩,rfl,(Ext.fresh (ρ:=ρ) h).keep,(Ext.fresh (ρ:=ρ) h).live,(Ext.fresh (ρ:=ρ) h).fz⟩;rw[mem_singleton.mp ha];exact h
noncomputable def wV(H:Hp)(a:Addr):Prop:=∀o u,H a≠some (.Qz o u)
theorem SH{H:Hp}{a:Addr}{vs:List V}(h:H a=some (.lst vs)):wV H a:=fun _ _ e=>by rw[h]at e;cases e
theorem Ext.write{ρ:Rg}{H:Hp}{a:Addr}{o:HO}(ha:a∈ρ.v)(nf:wV H a):Ext ρ ρ H (AB H a o):=by
 refine⟨⟨[],by simp,by simp⟩,rfl,fun b u e n=>?_,fun b e=>?_,fun b q u e=>by rw[lB (fun z:b=a=>nf q u (by rw[<- z];exact e))];exact e⟩
 · rw[lB (fun z=>n (by rw[z];exact ha))];exact e
 · by_cases hb:b=a
   · subst hb;rw[MC]at e;cases e
   · rw[lB hb]at e;exact e
structure Tq(ρ ρ':Rg)(H H':Hp):Prop where
 no:∀a u,H a=some u->ρ.no a->ρ'.no a
 eq:∀a u,H a=some u->ρ.no a->H' a=some u
 ix:∀(n:Nat) a,ρ.v[n]?=some a->ρ'.v[n]?=some a
 fz:∀a o u,H a=some (.Qz o u)->H' a=some (.Qz o u)
theorem Ext.same{ρ ρ':Rg}{H H':Hp}(x:Ext ρ ρ' H H'):Tq ρ ρ' H H':=⟨fun _ _ e n=>x.Rv e n,fun _ _ e n=>x.keep _ _ e n.1,fun _ _ e=>x.get e,x.fz⟩
theorem Tq.trans{ρ ρ1 ρ2:Rg}{H H1 H2:Hp}(x:Tq ρ ρ1 H H1)(y:Tq ρ1 ρ2 H1 H2):Tq ρ ρ2 H H2:=
 ⟨fun a u e n=>y.no a u (x.eq a u e n) (x.no a u e n),fun a u e n=>y.eq a u (x.eq a u e n) (x.no a u e n),fun n a e=>y.ix n a (x.ix n a e),fun a o u e=>y.fz a o u (x.fz a o u e)⟩
theorem TupAt.same{K:Frag}{ρ ρ':Rg}{H H':Hp}(x:Tq ρ ρ' H H'){a:Addr}{vs:List V}(h:TupAt K H ρ a vs):TupAt K H' ρ' a vs:=by
 rcases h with⟨n,t | ⟨y,t⟩⟩ | t
 · exact .inl ⟨x.no _ _ t n,.inl (x.eq _ _ t n)⟩
 · exact .inl ⟨x.no _ _ t n,.inr ⟨y,x.eq _ _ t n⟩⟩
 · exact .inr t
theorem LstAt.same{K:Frag}{ρ ρ':Rg}{H H':Hp}(x:Tq ρ ρ' H H'){a:Addr}{vs:List V}(h:LstAt K H ρ a vs):LstAt K H' ρ' a vs:=by
 rcases h with⟨n,t | ⟨y,t⟩⟩ | t
 · exact .inl ⟨x.no _ _ t n,.inl (x.eq _ _ t n)⟩
 · exact .inl ⟨x.no _ _ t n,.inr ⟨y,x.eq _ _ t n⟩⟩
 · exact .inr t
mutual
theorem lq.same{K:Frag}{ρ ρ':Rg}{H H':Hp}(x:Tq ρ ρ' H H'):∀(d:Dt){v:V},lq K H ρ d v->lq K H' ρ' d v
 | .non,_,h=>by simp only[lq]at h ⊢;exact h
 | .bl _,_,h=>by simp only[lq]at h ⊢;exact h
 | .int _,_,h=>by simp only[lq]at h ⊢;exact h
 | .str _,_,h=>by simp only[lq]at h ⊢;exact h
 | .tup xs,_,h=>by simp only[lq]at h ⊢;obtain⟨a,vs,e,t,r⟩:=h;exact⟨a,vs,e,t.same x,aq.same x xs r⟩
 | .lst xs,_,h=>by simp only[lq]at h ⊢;obtain⟨a,vs,e,t,r⟩:=h;exact⟨a,vs,e,t.same x,aq.same x xs r⟩
 | .ref _,_,h=>by simp only[lq]at h ⊢;obtain⟨a,e,t⟩:=h;exact⟨a,e,x.ix _ _ t⟩
 | .jz _,_,h=>by simp only[lq]at h ⊢;obtain⟨a,e,n,t⟩:=h;exact⟨a,e,x.no _ _ t n,x.eq _ _ t n⟩
 | .err _ _ _,_,h=>by
  simp only[lq]at h ⊢;obtain⟨a,C,dx,e,c,n,t,q⟩:=h;refine⟨a,C,dx,e,c,x.no _ _ t n,x.eq _ _ t n,?_⟩;rcases q with q | ⟨b,q,n',t'⟩
  · exact .inl q
  · exact .inr ⟨b,q,x.no _ _ t' n',x.eq _ _ t' n'⟩
 | .thr _ _ _,_,h=>by simp only[lq]at h
theorem aq.same{K:Frag}{ρ ρ':Rg}{H H':Hp}(x:Tq ρ ρ' H H'):∀(ds:List Dt){vs:List V},aq K H ρ ds vs->aq K H' ρ' ds vs
 | [],_,h=>by simp only[aq]at h ⊢;exact h
 | d::ds,_,h=>by simp only[aq]at h ⊢;obtain⟨v,r,e,h1,h2⟩:=h;exact⟨v,r,e,lq.same x d h1,aq.same x ds h2⟩
end
theorem lq.ext{K:Frag}{ρ ρ':Rg}{H H':Hp}(x:Ext ρ ρ' H H')(d:Dt){v:V}(h:lq K H ρ d v):lq K H' ρ' d v:=lq.same x.same d h
theorem aq.ext{K:Frag}{ρ ρ':Rg}{H H':Hp}{ds:List Dt}{vs:List V}(h:aq K H ρ ds vs)(x:Ext ρ ρ' H H'):aq K H' ρ' ds vs:=aq.same x.same ds h
section
variable{K:Frag}{H:Hp}{ρ:Rg}
theorem aq.nil:aq K H ρ [] []:=by simp only[aq]
theorem aq.cons{d:Dt}{v:V}{ds:List Dt}{vs:List V}(h:lq K H ρ d v)(r:aq K H ρ ds vs):aq K H ρ (d::ds) (v::vs):=by simp only[aq];exact⟨v,vs,rfl,h,r⟩
theorem aq.Bq{d:Dt}{ds:List Dt}{vs:List V}(h:aq K H ρ (d::ds) vs):∃v r,vs=v::r/\lq K H ρ d v/\aq K H ρ ds r:=by simpa only[aq]using h
theorem aq.Pq{vs:List V}(h:aq K H ρ [] vs):vs=[]:=by simpa only[aq]using h
theorem aq.length:∀{ds:List Dt}{vs:List V},aq K H ρ ds vs->vs.length=ds.length
 | [],_,h=>by rw[h.Pq];rfl
 | d::ds,_,h=>by obtain⟨v,r,rfl,_,h2⟩:=h.Bq;rw[Zd,Zd,aq.length h2]
theorem aq.get:∀{ds:List Dt}{vs:List V}{i:Nat}{d:Dt},aq K H ρ ds vs->ds[i]?=some d->∃v,vs[i]?=some v/\lq K H ρ d v
 | [],_,_,_,_,e=>by simp at e
 | d::ds,_,0,_,h,e=>by obtain⟨v,r,rfl,h1,_⟩:=h.Bq;simp at e;subst e;exact⟨v,rfl,h1⟩
 | d::ds,_,i+1,d',h,e=>by obtain⟨v,r,rfl,_,h2⟩:=h.Bq;obtain⟨u,q1,q2⟩:=aq.get (i:=i) h2 (by simpa using e);exact⟨u,by simpa using q1,q2⟩
theorem aq.append:∀{ds es:List Dt}{vs us:List V},aq K H ρ ds vs->aq K H ρ es us->aq K H ρ (ds++es) (vs++us)
 | [],_,_,_,h,h'=>by rw[h.Pq];exact h'
 | d::ds,_,_,_,h,h'=>by obtain⟨v,r,rfl,h1,h2⟩:=h.Bq;exact .cons h1 (aq.append h2 h')
theorem aq.set:∀{ds:List Dt}{vs:List V}{d:Dt}{v:V}(i:Nat),aq K H ρ ds vs->lq K H ρ d v->aq K H ρ (ds.set i d) (vs.set i v)
 | [],_,_,_,_,h,_=>by rw[h.Pq];exact .nil
 | d::ds,_,_,_,0,h,q=>by obtain⟨v,r,rfl,h1,h2⟩:=h.Bq;exact .cons q h2
 | d::ds,_,_,_,i+1,h,q=>by obtain⟨v,r,rfl,h1,h2⟩:=h.Bq;exact .cons h1 (aq.set i h2 q)
theorem aq.take:∀{ds:List Dt}{vs:List V}(n:Nat),aq K H ρ ds vs->aq K H ρ (ds.take n) (vs.take n)
 | [],_,n,h=>by rw[h.Pq];simp;exact .nil
 | d::ds,_,0,h=>.nil
 | d::ds,_,n+1,h=>by obtain⟨v,r,rfl,h1,h2⟩:=h.Bq;exact .cons h1 (aq.take n h2)
theorem aq.drop:∀{ds:List Dt}{vs:List V}(n:Nat),aq K H ρ ds vs->aq K H ρ (ds.drop n) (vs.drop n)
 | [],_,n,h=>by rw[h.Pq];simp;exact .nil
 | d::ds,_,0,h=>h
 | d::ds,_,n+1,h=>by obtain⟨v,r,rfl,h1,h2⟩:=h.Bq;exact aq.drop n h2
theorem aq.ints(ns:List Int):aq K H ρ (ns.map Dt.int) (ns.map V.int):=by
 induction ns with
 | nil=>exact .nil
 | cons n ns ih=>exact .cons (by simp only[lq]) ih
theorem aq.Wv:∀{ns:List Int}{vs:List V},aq K H ρ (ns.map Dt.int) vs->vs=ns.map V.int
 | [],_,h=>h.Pq
 | n::ns,_,h=>by obtain⟨v,r,rfl,h1,h2⟩:=aq.Bq h;simp only[lq]at h1;rw[h1,aq.Wv h2];rfl
theorem gq{i:Int}{v:V}:lq K H ρ (.int i) v↔v=.int i:=by simp only[lq]
theorem pq{i:Bool}{v:V}:lq K H ρ (.bl i) v↔v=.bl i:=by simp only[lq]
theorem jq{i:Str}{v:V}:lq K H ρ (.str i) v↔v=.str i:=by simp only[lq]
theorem yq{v:V}:lq K H ρ .non v↔v=.non:=by simp only[lq]
theorem xq{xs:List Dt}{v:V}:lq K H ρ (.tup xs) v↔∃a vs,v=.ref a/\TupAt K H ρ a vs/\aq K H ρ xs vs:=by simp only[lq]
theorem vq{xs:List Dt}{v:V}:lq K H ρ (.lst xs) v↔∃a vs,v=.ref a/\LstAt K H ρ a vs/\aq K H ρ xs vs:=by simp only[lq]
theorem Qx{xs:List Int}{v:V}:lq K H ρ (.jz xs) v↔∃a,v=.ref a/\ρ.no a/\H a=some (.tup (xs.map V.int)):=by simp only[lq]
theorem bx {x f:Str} {i:Sum Int Str} {v:V}:lq K H ρ (.err x f i) v↔∃a C dx,v=.ref a/\nsIn K mainGlobals x=some (some (.ref C))/\ρ.no a/\H a=some (XL a (.ref C) dx)/\((f = "" /\ dx=none)\/∃b,dx=some b/\ρ.no b/\H b=some (.xd [(f,xV i)])):=by simp only[lq]
theorem Gx{x f:Str}{i:Sum Int Str}{v:V}:lq K H ρ (.thr x f i) v↔False:=by simp only[lq]
theorem Hq{n:Nat}{v:V}:lq K H ρ (.ref n) v↔∃a,v=.ref a/\ρ.v[n]?=some a:=by simp only[lq]
end
def dz(K:Frag)(H:Hp)(ρ:Rg)(a:Addr):Ob->Prop
 | .lst xs=>∃vs,H a=some (.lst vs)/\aq K H ρ xs vs
 | .ins x fs=>∃C dx vs,nsIn K mainGlobals x=some (some (.ref C))/\H a=some (.ins C dx vs)/\fs.map (·.1)=vs.map (·.1)/\aq K H ρ (fs.map (·.2)) (vs.map (·.2))
 | .dk kvs=>∃vs,H a=some (.dK vs)/\kvs.map (·.1)=vs.map (·.1)/\aq K H ρ (kvs.map (·.2)) (vs.map (·.2))
 | .dt kvs=>∃vs:List (List gC×V),H a=some (.dT vs)/\vs.map (·.1)=kvs.map (fun p=>p.1.map Sum.inl)/\aq K H ρ (kvs.map (·.2)) (vs.map (·.2))
 | .df kvs=>∃(o:Obj)(vs:List (List gC×V)),H a=some (.Qz o (.dT vs))/\vs.map (·.1)=kvs.map (fun p=>p.1.map Sum.inl)/\aq K H ρ (kvs.map (·.2)) (vs.map (·.2))
 | .Ck kvs=>∃(o:Obj)(vs:List (gC×V)),H a=some (.Qz o (.dK vs))/\kvs.map (·.1)=vs.map (·.1)/\aq K H ρ (kvs.map (·.2)) (vs.map (·.2))
structure uq(K:Frag)(ρ:Rg)(h:HI)(H:Hp):Prop where
 nd:ρ.v.Nodup
 len:ρ.v.length=h.length
 ob:∀(n:Nat) a o,ρ.v[n]?=some a->h[n]?=some o->dz K H ρ a o
 zt:∀a∈ρ.z,a∉ρ.v/\∃vs,H a=some (.lst vs)
theorem dz.ext{K:Frag}{H H':Hp}{ρ ρ':Rg}{a:Addr}{o:Ob}(x:Ext ρ ρ' H H')(e:H' a=H a)(h:dz K H ρ a o):dz K H' ρ' a o:=by
 cases o with
 | lst xs=>obtain⟨vs,h1,h2⟩:=h;exact⟨vs,e.trans h1,h2.ext x⟩
 | ins y fs=>obtain⟨C,dx,vs,h0,h1,h2,h3⟩:=h;exact⟨C,dx,vs,h0,e.trans h1,h2,h3.ext x⟩
 | dk kvs=>obtain⟨vs,h1,h2,h3⟩:=h;exact⟨vs,e.trans h1,h2,h3.ext x⟩
 | dt kvs=>obtain⟨vs,h1,h2,h3⟩:=h;exact⟨vs,e.trans h1,h2,h3.ext x⟩
 | df kvs=>obtain⟨o,vs,h1,h2,h3⟩:=h;exact⟨o,vs,e.trans h1,h2,h3.ext x⟩
 | Ck kvs=>obtain⟨o,vs,h1,h2,h3⟩:=h;exact⟨o,vs,e.trans h1,h2,h3.ext x⟩
theorem dz.some{K:Frag}{H:Hp}{ρ:Rg}{a:Addr}{o:Ob}(h:dz K H ρ a o):∃u,H a=some u:=by
 cases o with
 | lst xs=>obtain⟨vs,h1,_⟩:=h;exact⟨_,h1⟩
 | ins y fs=>obtain⟨C,dx,vs,_,h1,_⟩:=h;exact⟨_,h1⟩
 | dk kvs=>obtain⟨vs,h1,_⟩:=h;exact⟨_,h1⟩
 | dt kvs=>obtain⟨vs,h1,_⟩:=h;exact⟨_,h1⟩
 | df kvs=>obtain⟨o,vs,h1,_⟩:=h;exact⟨_,h1⟩
 | Ck kvs=>obtain⟨o,vs,h1,_⟩:=h;exact⟨_,h1⟩
section
variable{K:Frag}{H H':Hp}{ρ:Rg}{h:HI}
theorem uq.nil:uq K .nil [] H:=⟨nodup_nil,rfl,fun _ _ _ e=>by simp[Rg.nil]at e,fun _ h=>nomatch h⟩
theorem uq.tracked(S:uq K ρ h H){a:Addr}(ha:a∈ρ.v):∃u,H a=some u:=by
 obtain⟨n,hn⟩:=mem_iff_getElem?.mp ha;have hl:n<h.length:=by rw[<- S.len];exact(Kc hn).1
 exact(S.ob n a _ hn (getElem?_eq_getElem hl)).some
theorem uq.out(S:uq K ρ h H){p:Addr}(hp:H p=none):ρ.no p:=by
 refine⟨fun ha=>?_,fun ha=>?_⟩
 · obtain⟨u,e⟩:=S.tracked ha;rw[hp]at e;cases e
 · obtain⟨_,u,e⟩:=S.zt p ha;rw[hp]at e;cases e
theorem uq.fresh(S:uq K ρ h H){p:Addr}{o:HO}(hp:H p=none):uq K ρ h (AB H p o):=
 ⟨S.nd,S.len,fun n a u e1 e2=>(S.ob n a u e1 e2).ext (Ext.fresh hp) (lB (fun z=>(S.out hp).1 (z ▸ mem_of_getElem? e1))),fun a ha=>by
  obtain⟨n,u,e⟩:=S.zt a ha;exact⟨n,u,by rw[lB (XC e hp)];exact e⟩⟩
theorem uq.own(S:uq K ρ h H){p:Addr}{o:HO}{u:Ob}(hp:H p=none)(hu:dz K (AB H p o) (ρ.add p) p u):uq K (ρ.add p) (h++[u]) (AB H p o):=by
 refine⟨?_,by simp only[Rg.add];rw[length_append,length_append,S.len];rfl,fun n a ob e1 e2=>?_,fun a ha=>?_⟩
 · simp only[Rg.add];rw[nodup_append];refine⟨S.nd,nodup_cons.mpr ⟨by simp,nodup_nil⟩,fun a ha b hb=>?_⟩;rw[mem_singleton.mp hb];intro z;exact(S.out hp).1 (z ▸ ha)
 · simp only[Rg.add]at e1;by_cases hn:n<h.length
   · rw[Qc hn]at e2;rw[Qc (by rw[S.len];exact hn)]at e1;exact(S.ob n a ob e1 e2).ext (Ext.own hp) (lB (fun z=>(S.out hp).1 (z ▸ mem_of_getElem? e1)))
   · have hn':h.length<=n:=Nat.not_lt.mp hn;rw[Vc hn']at e2;rw[Vc (by rw[S.len];exact hn'),S.len]at e1;cases hk:n-h.length with
     | zero=>rw[hk]at e1 e2;simp at e1 e2;subst e1 e2;exact hu
     | succ k=>rw[hk]at e2;simp at e2
 · obtain⟨n,u,e⟩:=S.zt a ha;refine⟨fun hm=>?_,u,by rw[lB (XC e hp)];exact e⟩;simp only[Rg.add]at hm;rcases mem_append.mp hm with hm | hm
   · exact n hm
   · rw[mem_singleton.mp hm,hp]at e;cases e
theorem uq.write(S:uq K ρ h H){n:Nat}{p:Addr}{o:HO}{u:Ob}(hn:ρ.v[n]?=some p)(nf:wV H p)(hu:dz K (AB H p o) ρ p u):uq K ρ (h.set n u) (AB H p o):=by
 refine⟨S.nd,by rw[length_set];exact S.len,fun m a ob e1 e2=>?_,fun a ha=>?_⟩
 · by_cases hm:m=n
   · subst hm;rw[hn]at e1;cases e1;have hl:m<h.length:=by rw[<- S.len];exact(Kc hn).1
     rw[getElem?_set_self hl]at e2;cases e2;exact hu
   · rw[getElem?_set_ne (Ne.symm hm)]at e2;refine(S.ob m a ob e1 e2).ext (Ext.write (mem_of_getElem? hn) nf) (lB fun z=>hm ?_);subst z;obtain⟨h1,q1⟩:=Kc e1;obtain⟨h2,q2⟩:=Kc hn;exact(getElem_inj S.nd).mp (q1.trans q2.symm)
 · obtain⟨m,w,e⟩:=S.zt a ha;exact⟨m,w,by rw[lB (fun z=>m (by rw[z];exact mem_of_getElem? hn))];exact e⟩
theorem uq.lst(S:uq K ρ h H){n:Nat}{a:Addr}{xs:List Dt}(hn:ρ.v[n]?=some a)(e:h[n]?=some (.lst xs)):∃vs,H a=some (.lst vs)/\aq K H ρ xs vs:=S.ob n a _ hn e
end
structure Kq(K:Frag)(H:Hp)(ρ:Rg)(l:LI)(σ:L2.St):Prop where
 len:l.length=σ.length
 val:∀(i:Nat) d,l[i]?=some (some d)->∃v,σ[i]?=some (some v)/\lq K H ρ d v
theorem Kq.ext{K:Frag}{H H':Hp}{ρ ρ':Rg}{l:LI}{σ:L2.St}(L:Kq K H ρ l σ)(x:Ext ρ ρ' H H'):Kq K H' ρ' l σ:=
 ⟨L.len,fun i d e=>let ⟨v,e1,r⟩:=L.val i d e;⟨v,e1,lq.ext x d r⟩⟩
theorem Kq.set{K:Frag}{H:Hp}{ρ:Rg}{l:LI}{σ:L2.St}(L:Kq K H ρ l σ){d:Dt}{v:V}(i:Nat)(r:lq K H ρ d v):Kq K H ρ (l.set i (some d)) (σ.set i (some v)):=by
 refine⟨by rw[length_set,length_set];exact L.len,fun j d' e=>?_⟩;by_cases hj:j=i
 · subst hj;have hl:j<l.length:=by have:=(Kc e).1;rwa[length_set]at this
   rw[getElem?_set_self hl]at e;cases e;exact⟨v,getElem?_set_self (by rw[<- L.len];exact hl),r⟩
 · rw[getElem?_set_ne (Ne.symm hj)]at e;rw[getElem?_set_ne (Ne.symm hj)];exact L.val j d' e
abbrev RE:=LI->HI->Option (Dt×HI)
abbrev RT:=LI->HI->Option (Bool×HI)
abbrev RA:=LI->HI->Option (List Dt×HI)
inductive Rs where
 | nx (l:LI) (h:HI) | rt (d:Dt) (h:HI) | bk (l:LI) (h:HI) | ct (l:LI) (h:HI)
abbrev RS:=LI->HI->Option Rs
abbrev GC:=Dt->Dt->HI->Option (Dt×HI)
abbrev fC:=List Dt->HI->Option (Dt×HI)
noncomputable def CB:Expr->Bool
 | .Starred _ _=>false
 | _=>true
theorem HB{e:Expr}(h:CB e=true)(es:List Expr)(env:Env):starEach (e::es) env=(false,eval e env)::starEach es env:=by cases e<;>first | rfl | (exact absurd h Rc)
theorem tI{pos:Pos}{env:Env}:∀{es:List Expr},es.all CB=true->(backTo pos (starEach es env)).any (·.1)=false
 | [],_=>rfl
 | e::es,h=>by rw[all_cons,Bool.and_eq_true]at h;have ih:=tI (pos:=pos) (env:=env) h.2;rw[HB h.1];unfold backTo at ih ⊢;simp only[uc,any_cons,Bool.false_or];exact ih
theorem sL{pos:Pos}{env:Env}{b:Expr}(h:CB b=true):((backTo pos (starEach [b] env)).all (fun x=>!x.1)&&(backToKw pos (keywordEach [] env)).all (fun x=>x.1.isSome)
 && decide ([b].length+([]:List Keyword).length+(if([]:List Keyword).isEmpty then 0 else 1)<30))=true:=by
 rw[HB h];rfl
def Out(K:Frag)(ρ:Rg)(H:Hp)(d:Dt)(h':HI)(Q:VK):Prop:=
 ∀ρ' v H',lq K H' ρ' d v->uq K ρ' h' H'->Ext ρ ρ' H H'->Q v H'
noncomputable def Ov(K:Frag)(ρ:Rg)(H:Hp)(h':HI)(Q:Hp->Prop):Prop:=
 ∀ρ' H',uq K ρ' h' H'->Ext ρ ρ' H H'->Q H'
def tM(K:Frag)(f:RE):TE:=fun σ H Q=>∃ρ l h d h',uq K ρ h H/\Kq K H ρ l σ/\f l h=some (d,h')/\Out K ρ H d h' Q
def qN(K:Frag)(f:RT):TT:=fun σ H Q=>∃ρ l h b h',uq K ρ h H/\Kq K H ρ l σ/\f l h=some (b,h')/\Ov K ρ H h' (Q b)
def dj(K:Frag)(f:RA):TA:=fun σ H Q=>∃ρ l h ds h',uq K ρ h H/\Kq K H ρ l σ/\f l h=some (ds,h')/\∀ρ' vs H',aq K H' ρ' ds vs->uq K ρ' h' H'->Ext ρ ρ' H H'->Q vs H'
def rM(K:Frag)(op:GC):R2:=fun x y H Q=>∃ρ h d1 d2 d h',uq K ρ h H/\lq K H ρ d1 x/\lq K H ρ d2 y/\op d1 d2 h=some (d,h')/\Out K ρ H d h' Q
def Kz(K:Frag)(ρ:Rg)(H:Hp)(D:HF):Rs->Prop
 | .nx l h=>∀ρ' σ' H',uq K ρ' h H'->Kq K H' ρ' l σ'->Ext ρ ρ' H H'->D.nx σ' H'
 | .bk l h=>∀ρ' σ' H',uq K ρ' h H'->Kq K H' ρ' l σ'->Ext ρ ρ' H H'->D.bk σ' H'
 | .ct l h=>∀ρ' σ' H',uq K ρ' h H'->Kq K H' ρ' l σ'->Ext ρ ρ' H H'->D.ct σ' H'
 | .rt d h=>Out K ρ H d h D.rt
def sM(K:Frag)(f:RS):TS:=fun D σ H=>∃ρ l h r,uq K ρ h H/\Kq K H ρ l σ/\f l h=some r/\Kz K ρ H D r
theorem Out.ext{K:Frag}{ρ ρ1:Rg}{H H1:Hp}{d:Dt}{h':HI}{Q:VK}(k:Out K ρ H d h' Q)(x:Ext ρ ρ1 H H1):Out K ρ1 H1 d h' Q:=fun ρ' v H' r s e=>k ρ' v H' r s (x.trans e)
theorem Ov.ext{K:Frag}{ρ ρ1:Rg}{H H1:Hp}{h':HI}{Q:Hp->Prop}(k:Ov K ρ H h' Q)(x:Ext ρ ρ1 H H1):Ov K ρ1 H1 h' Q:=fun ρ' H' s e=>k ρ' H' s (x.trans e)
theorem Kz.ext{K:Frag}{ρ ρ1:Rg}{H H1:Hp}{D:HF}{r:Rs}(k:Kz K ρ H D r)(x:Ext ρ ρ1 H H1):Kz K ρ1 H1 D r:=by
 cases r with
 | nx l h=>exact fun ρ' σ' H' s l e=>k ρ' σ' H' s l (x.trans e)
 | bk l h=>exact fun ρ' σ' H' s l e=>k ρ' σ' H' s l (x.trans e)
 | ct l h=>exact fun ρ' σ' H' s l e=>k ρ' σ' H' s l (x.trans e)
 | rt d h=>exact Out.ext k x
@[irreducible] def EM(X:Cx)(e:Expr)(f:RE):Prop:=PE X e (tM X.K f)
@[irreducible] def TM(X:Cx)(e:Expr)(f:RT):Prop:=PT X e (qN X.K f)
@[irreducible] def WM(X:Cx)(e:Expr)(f:RT):Prop:=PW X e (qN X.K f)
@[irreducible] def AM(X:Cx)(es:List Expr)(f:RA):Prop:=PA X es (dj X.K f)
@[irreducible] def OM(X:Cx)(f:Value->Value->Sem Value)(op:GC):Prop:=Vq X f (rM X.K op)
@[irreducible] def ZM(X:Cx)(st:Stmt)(f:RS):Prop:=PS X st (sM X.K f)
@[irreducible] def MI(X:Cx)(st:List Stmt)(f:RS):Prop:=rz X st (sM X.K f)
theorem PE.imp{X:Cx}{e:Expr}{t t':TE}(h:PE X e t)(i:∀σ H Q,t' σ H Q->t σ H Q):PE X e t':=fun pins s σ H Q I q=>h pins s σ H Q I (i σ H Q q)
theorem PT.imp{X:Cx}{e:Expr}{t t':TT}(h:PT X e t)(i:∀σ H Q,t' σ H Q->t σ H Q):PT X e t':=fun pins s σ H Q I q=>h pins s σ H Q I (i σ H Q q)
theorem PW.imp{X:Cx}{e:Expr}{t t':TT}(h:PW X e t)(i:∀σ H Q,t' σ H Q->t σ H Q):PW X e t':=fun wh pins s σ H Q I q=>h wh pins s σ H Q I (i σ H Q q)
theorem PA.imp{X:Cx}{e:List Expr}{t t':TA}(h:PA X e t)(i:∀σ H Q,t' σ H Q->t σ H Q):PA X e t':=fun pos pins s σ H Q I q=>h pos pins s σ H Q I (i σ H Q q)
theorem PS.imp{X:Cx}{e:Stmt}{t t':TS}(h:PS X e t)(i:∀D σ H,t' D σ H->t D σ H):PS X e t':=fun pins s σ H D I q=>h pins s σ H D I (i D σ H q)
theorem rz.imp{X:Cx}{e:List Stmt}{t t':TS}(h:rz X e t)(i:∀D σ H,t' D σ H->t D σ H):rz X e t':=fun pins s σ H D I q=>h pins s σ H D I (i D σ H q)
theorem Vq.imp{X:Cx}{f:Value->Value->Sem Value}{t t':R2}(h:Vq X f t)(i:∀x y H Q,t' x y H Q->t x y H Q):Vq X f t':=fun pins s σ H x y v u Q I r1 r2 q=>h pins s σ H x y v u Q I r1 r2 (i x y H Q q)
noncomputable def eC(d:Dt):RE:=fun _ h=>some (d,h)
noncomputable def eV(i:Nat):RE:=fun l h=>match l[i]? with | some (some d)=>some (d,h) | _=>none
noncomputable def e2(op:GC)(fa fb:RE):RE:=fun l h=>(fa l h).bind fun r=>(fb l r.2).bind fun q=>op r.1 q.1 q.2
noncomputable def sA:RA:=fun _ h=>some ([],h)
noncomputable def cA(f:RE)(g:RA):RA:=fun l h=>(f l h).bind fun r=>(g l r.2).bind fun q=>some (r.1::q.1,q.2)
section
variable{X:Cx}{a b c:Expr}{fa fb fc:RE}{pos:Pos}
theorem bA{i j pos}:EM X (.Constant (.int i) j pos) (eC (.int i)):=by with_unfolding_all exact PE.imp JU fun σ H Q zz=>by obtain⟨ρ,l,h,d,h',S,L,e,k⟩:=zz;cases e;exact k ρ _ H (gq.mpr rfl) S (Ext.refl _ _)
theorem GI{i j pos}:EM X (.Constant (.bool i) j pos) (eC (.bl i)):=by with_unfolding_all exact PE.imp o8 fun σ H Q zz=>by obtain⟨ρ,l,h,d,h',S,L,e,k⟩:=zz;cases e;exact k ρ _ H (pq.mpr rfl) S (Ext.refl _ _)
theorem qA{i j pos}:EM X (.Constant (.str i) j pos) (eC (.str i)):=by with_unfolding_all exact PE.imp y7 fun σ H Q zz=>by obtain⟨ρ,l,h,d,h',S,L,e,k⟩:=zz;cases e;exact k ρ _ H (jq.mpr rfl) S (Ext.refl _ _)
theorem pF{j pos}:EM X (.Constant .none j pos) (eC .non):=by with_unfolding_all exact PE.imp t7 fun σ H Q zz=>by obtain⟨ρ,l,h,d,h',S,L,e,k⟩:=zz;cases e;exact k ρ _ H (yq.mpr rfl) S (Ext.refl _ _)
theorem aA (i:Nat) {x:Str} {pos:Pos} (hN:X.N[i]?=some x:=by rfl) (hv:kK X.env.scope x:=by first | exact Or.inl rfl | exact Or.inr (Or.inl rfl) | exact Or.inr (Or.inr rfl)) (hd:(x==("__debug__" :Str))=false:=by decide)
 (hcd:(x==("__classdict__" :Str))=false:=by decide):EM X (.Name x pos) (eV i):=by
 with_unfolding_all
  exact PE.imp (fM hN hv hd hcd) fun σ H Q zz=>by
   obtain⟨ρ,l,h,d,h',S,L,e,k⟩:=zz;unfold eV at e;split at e
   · rename_i d' q;cases e;obtain⟨v,e1,r⟩:=L.val i _ q;exact⟨v,e1,k ρ v H r S (Ext.refl _ _)⟩
   · cases e
theorem P3 {x:Str} {v:V} {u:Value} {d:Dt} {pos:Pos} (hg:Gl X x) (hm:X.mg x=some u) (r:RelV v u) (rd:∀H ρ,lq X.K H ρ d v) (hd:(x==("__debug__" :Str))=false:=by decide):EM X (.Name x pos) (eC d):=by with_unfolding_all exact PE.imp (U5 hg hm r hd) fun σ H Q zz=>by obtain⟨ρ,l,h,d',h',S,L,e,k⟩:=zz;cases e;exact k ρ v H (rd H ρ) S (Ext.refl _ _)
theorem nA{α β:Type}{o:Option α}{f:α->Option β}{b:β}(h:o.bind f=some b):∃a,o=some a/\f a=some b:=by
 cases o with
 | none=>cases h
 | some a=>exact⟨a,rfl,h⟩
theorem dA{op:Operator}{o:GC}(ho:OM X (binaryOp op) o)(ha:EM X a fa)(hb:EM X b fb):EM X (.BinOp a op b pos) (e2 o fa fb):=by
 with_unfolding_all
  exact PE.imp (jV ho ha hb) fun σ H Q zz=>by
   obtain⟨ρ,l,h,d,h',S,L,e,k⟩:=zz;obtain⟨⟨d1,h1⟩,e1,e⟩:=nA e;obtain⟨⟨d2,h2⟩,e2,e⟩:=nA e;exact⟨ρ,l,h,d1,h1,S,L,e1,fun ρ1 x H1 R1 S1 E1=>⟨ρ1,l,h1,d2,h2,S1,L.ext E1,e2,fun ρ2 y H2 R2 S2 E2=>
    ⟨ρ2,h2,d1,d2,d,h',S2,lq.ext E2 _ R1,R2,e,k.ext (E1.trans E2)⟩⟩⟩
theorem bF{op:CmpOp}{o:GC}(ho:OM X (compareOp op) o)(ha:EM X a fa)(hb:EM X b fb)(hm:behindInMarks op b=false:=by first | exact eU _ | with_unfolding_all rfl):EM X (.Compare a [op] [b] pos) (e2 o fa fb):=by
 with_unfolding_all
  exact PE.imp (Q5 ho ha hb hm) fun σ H Q zz=>by
   obtain⟨ρ,l,h,d,h',S,L,e,k⟩:=zz;obtain⟨⟨d1,h1⟩,e1,e⟩:=nA e;obtain⟨⟨d2,h2⟩,e2,e⟩:=nA e;exact⟨ρ,l,h,d1,h1,S,L,e1,fun ρ1 x H1 R1 S1 E1=>⟨ρ1,l,h1,d2,h2,S1,L.ext E1,e2,fun ρ2 y H2 R2 S2 E2=>
    ⟨ρ2,h2,d1,d2,d,h',S2,lq.ext E2 _ R1,R2,e,k.ext (E1.trans E2)⟩⟩⟩
noncomputable def Aq(f:RE):RT:=fun l h=>(f l h).bind fun r=>match r.1 with | .bl b=>some (b,r.2) | _=>none
theorem NA{op:CmpOp}{o:GC}(ho:OM X (compareOp op) o)(ha:EM X a fa)(hb:EM X b fb)(hm:behindInMarks op b=false:=by first | exact eU _ | with_unfolding_all rfl):TM X (.Compare a [op] [b] pos) (Aq (e2 o fa fb)):=by
 with_unfolding_all
  exact PT.imp (n6 ho ha hb hm) fun σ H Q zz=>by
   obtain⟨ρ,l,h,bb,h',S,L,e,k⟩:=zz;obtain⟨⟨d,h3⟩,e0,e⟩:=nA e;obtain⟨⟨d1,h1⟩,e1,e0⟩:=nA e0;obtain⟨⟨d2,h2⟩,e2,e0⟩:=nA e0;refine⟨ρ,l,h,d1,h1,S,L,e1,fun ρ1 x H1 R1 S1 E1=>⟨ρ1,l,h1,d2,h2,S1,L.ext E1,e2,fun ρ2 y H2 R2 S2 E2=>
    ⟨ρ2,h2,d1,d2,d,h3,S2,lq.ext E2 _ R1,R2,e0,fun ρ3 v H3 R3 S3 E3=>?_⟩⟩⟩
   cases d with
   | bl q=>cases e;exact⟨bb,pq.mp R3,k ρ3 H3 S3 (E1.trans (E2.trans E3))⟩
   | _=>cases e
theorem iG{e:Expr}{f:RE}(h:EM X e f)(he:∀whole,isTrue e X.env whole=(do let v <- whole;standAt e.pos;holding [v] (truthy v)):=by intro _;rfl):TM X e (Aq f):=by
 with_unfolding_all
  exact PT.imp (K6 h he) fun σ H Q zz=>by
   obtain⟨ρ,l,h,bb,h',S,L,e,k⟩:=zz;obtain⟨⟨d,h3⟩,e0,e⟩:=nA e;refine⟨ρ,l,h,d,h3,S,L,e0,fun ρ3 v H3 R3 S3 E3=>?_⟩;cases d with
   | bl q=>cases e;exact⟨bb,pq.mp R3,k ρ3 H3 S3 E3⟩
   | _=>cases e
noncomputable def qH(o o':GC)(fa fb fc:RE):RE:=fun l h=>(fa l h).bind fun r=>(fb l r.2).bind fun q=>(o r.1 q.1 q.2).bind fun z=>match z.1 with
 | .bl true=>(fc l z.2).bind fun y=>o' q.1 y.1 y.2
 | .bl false=>some (.bl false,z.2)
 | _=>none
theorem WR{r r':GC}{σ:L2.St}{H:Hp}{Q:VK}(h:tM X.K (qH r r' fa fb fc) σ H Q):vQ (rM X.K r) (rM X.K r') (tM X.K fa) (tM X.K fb) (tM X.K fc) σ H Q:=by
 obtain⟨ρ,l,h,d,h',S,L,e,k⟩:=h;obtain⟨⟨d1,h1⟩,e1,e⟩:=nA e;obtain⟨⟨d2,h2⟩,e2,e⟩:=nA e;obtain⟨⟨d3,h3⟩,e3,e⟩:=nA e;refine⟨ρ,l,h,d1,h1,S,L,e1,fun ρ1 x H1 R1 S1 E1=>⟨ρ1,l,h1,d2,h2,S1,L.ext E1,e2,fun ρ2 y H2 R2 S2 E2=>
  ⟨ρ2,h2,d1,d2,d3,h3,S2,lq.ext E2 _ R1,R2,e3,fun ρ3 v H3 R3 S3 E3=>?_⟩⟩⟩
 cases d3 with
 | bl q=>
  refine⟨q,pq.mp R3,?_⟩;cases q with
  | true=>dsimp only at e;obtain⟨⟨d4,h4⟩,e4,e⟩:=nA e;refine zE ⟨ρ3,l,h3,d4,h4,S3,(L.ext (E1.trans (E2.trans E3))),e4,fun ρ4 u H4 R4 S4 E4=>⟨ρ4,h4,d2,d4,d,h',S4,lq.ext (E3.trans E4) _ R2,R4,e,k.ext (E1.trans (E2.trans (E3.trans E4)))⟩⟩
  | false=>cases e;exact yE (k ρ3 _ H3 (pq.mpr rfl) S3 (E1.trans (E2.trans E3)))
 | _=>cases e
theorem jZ{op op':CmpOp}{r r':GC}(ho:OM X (compareOp op) r)(ho':OM X (compareOp op') r')(ha:EM X a fa)(hb:EM X b fb)(hc:EM X c fc)
 (hm:lastMarks [op,op'] [b,c]=false:=by with_unfolding_all rfl):EM X (.Compare a [op,op'] [b,c] pos) (qH r r' fa fb fc):=by
 with_unfolding_all exact PE.imp (B2 ho ho' ha hb hc hm) fun _ _ _ h=>WR h
theorem W0{op op':CmpOp}{r r':GC}(ho:OM X (compareOp op) r)(ho':OM X (compareOp op') r')(ha:EM X a fa)(hb:EM X b fb)(hc:EM X c fc)
 (hm:lastMarks [op,op'] [b,c]=false:=by with_unfolding_all rfl):TM X (.Compare a [op,op'] [b,c] pos) (Aq (qH r r' fa fb fc)):=by
 with_unfolding_all
  exact PT.imp (D0 ho ho' ha hb hc hm) fun σ H Q zz=>by
   obtain⟨ρ,l,h,bb,h',S,L,e,k⟩:=zz;obtain⟨⟨d,h3⟩,e0,e⟩:=nA e;refine WR ⟨ρ,l,h,d,h3,S,L,e0,fun ρ3 v H3 R3 S3 E3=>?_⟩;cases d with
   | bl q=>cases e;exact⟨bb,pq.mp R3,k ρ3 H3 S3 E3⟩
   | _=>cases e
noncomputable def LD(t u:RT):RT:=fun l h=>(t l h).bind fun r=>if r.1=true then u l r.2 else some (false,r.2)
noncomputable def VC(t u:RT):RT:=fun l h=>(t l h).bind fun r=>if r.1=true then some (true,r.2)else u l r.2
noncomputable def KE(t:RT):RT:=fun l h=>(t l h).bind fun r=>some (!r.1,r.2)
variable{tA oh:RT}{rest:List Expr}
theorem WM.tm{e:Expr}{f:RT}(h:WM X e f):TM X e f:=by with_unfolding_all exact PW.pt h
theorem sI(ha:TM X a tA):WM X (.BoolOp .And [a] pos) tA:=by with_unfolding_all exact w6 ha
theorem wF(ha:TM X a tA):WM X (.BoolOp .Or [a] pos) tA:=by with_unfolding_all exact M6 ha
theorem yH(ha:TM X a tA)(hb:WM X (.BoolOp .And (b::rest) pos) oh):WM X (.BoolOp .And (a::b::rest) pos) (LD tA oh):=by
 with_unfolding_all
  exact PW.imp (L6 ha hb) fun σ H Q zz=>by
   obtain⟨ρ,l,h,bb,h',S,L,e,k⟩:=zz;obtain⟨⟨b1,h1⟩,e1,e⟩:=nA e;refine⟨ρ,l,h,b1,h1,S,L,e1,fun ρ1 H1 S1 E1=>?_⟩;cases b1 with
   | true=>rw[if_pos rfl]at e;exact zE ⟨ρ1,l,h1,bb,h',S1,L.ext E1,e,k.ext E1⟩
   | false=>rw[if_neg Rc]at e;cases e;exact yE (k ρ1 H1 S1 E1)
theorem mE(ha:TM X a tA)(hb:WM X (.BoolOp .Or (b::rest) pos) oh):WM X (.BoolOp .Or (a::b::rest) pos) (VC tA oh):=by
 with_unfolding_all
  exact PW.imp (x8 ha hb) fun σ H Q zz=>by
   obtain⟨ρ,l,h,bb,h',S,L,e,k⟩:=zz;obtain⟨⟨b1,h1⟩,e1,e⟩:=nA e;refine⟨ρ,l,h,b1,h1,S,L,e1,fun ρ1 H1 S1 E1=>?_⟩;cases b1 with
   | true=>rw[if_pos rfl]at e;cases e;exact zE (k ρ1 H1 S1 E1)
   | false=>rw[if_neg Rc]at e;exact yE ⟨ρ1,l,h1,bb,h',S1,L.ext E1,e,k.ext E1⟩
theorem EG(ha:TM X a tA):TM X (.UnaryOp .Not a pos) (KE tA):=by with_unfolding_all exact PT.imp (J6 ha) fun σ H Q zz=>by obtain⟨ρ,l,h,bb,h',S,L,e,k⟩:=zz;obtain⟨⟨b1,h1⟩,e1,e⟩:=nA e;cases e;exact⟨ρ,l,h,b1,h1,S,L,e1,fun ρ1 H1 S1 E1=>k ρ1 H1 S1 E1⟩
noncomputable def VG(t u:RE):RE:=fun l h=>(t l h).bind fun r=>match r.1 with | .bl true=>u l r.2 | .bl false=>some (.bl false,r.2) | _=>none
noncomputable def sR(t u:RE):RE:=fun l h=>(t l h).bind fun r=>match r.1 with | .bl true=>some (.bl true,r.2) | .bl false=>u l r.2 | _=>none
noncomputable def tN(t:RE):RE:=fun l h=>(t l h).bind fun r=>match r.1 with | .bl b=>some (.bl (!b),r.2) | _=>none
theorem mM{op}(h:EM X a fa):EM X (.BoolOp op [a] pos) fa:=by with_unfolding_all exact v7 h
theorem lM(ha:EM X a fa)(hb:EM X (.BoolOp .And (b::rest) pos) fb):EM X (.BoolOp .And (a::b::rest) pos) (VG fa fb):=by
 with_unfolding_all
  exact PE.imp (l7 ha hb) fun σ H Q zz=>by
   obtain⟨ρ,l,h,d,h',S,L,e,k⟩:=zz;obtain⟨⟨d1,h1⟩,e1,e⟩:=nA e;refine⟨ρ,l,h,d1,h1,S,L,e1,fun ρ1 v H1 R1 S1 E1=>?_⟩;cases d1 with
   | bl q=>
    refine⟨q,pq.mp R1,?_⟩;cases q with
    | true=>exact zE ⟨ρ1,l,h1,d,h',S1,L.ext E1,e,k.ext E1⟩
    | false=>cases e;exact yE (k ρ1 _ H1 (pq.mpr rfl) S1 E1)
   | _=>cases e
theorem SU(ha:EM X a fa)(hb:EM X (.BoolOp .Or (b::rest) pos) fb):EM X (.BoolOp .Or (a::b::rest) pos) (sR fa fb):=by
 with_unfolding_all
  exact PE.imp (v8 ha hb) fun σ H Q zz=>by
   obtain⟨ρ,l,h,d,h',S,L,e,k⟩:=zz;obtain⟨⟨d1,h1⟩,e1,e⟩:=nA e;refine⟨ρ,l,h,d1,h1,S,L,e1,fun ρ1 v H1 R1 S1 E1=>?_⟩;cases d1 with
   | bl q=>
    refine⟨q,pq.mp R1,?_⟩;cases q with
    | true=>cases e;exact zE (k ρ1 _ H1 (pq.mpr rfl) S1 E1)
    | false=>exact yE ⟨ρ1,l,h1,d,h',S1,L.ext E1,e,k.ext E1⟩
   | _=>cases e
theorem D7(ha:EM X a fa):EM X (.UnaryOp .Not a pos) (tN fa):=by
 with_unfolding_all
  exact PE.imp (u7 ha) fun σ H Q zz=>by
   obtain⟨ρ,l,h,d,h',S,L,e,k⟩:=zz;obtain⟨⟨d1,h1⟩,e1,e⟩:=nA e;refine⟨ρ,l,h,d1,h1,S,L,e1,fun ρ1 v H1 R1 S1 E1=>?_⟩;cases d1 with
   | bl q=>cases e;exact⟨q,pq.mp R1,k ρ1 _ H1 (pq.mpr rfl) S1 E1⟩
   | _=>cases e
noncomputable def vW(t:RT)(f g:RE):RE:=fun l h=>(t l h).bind fun r=>if r.1=true then f l r.2 else g l r.2
theorem D8{c:Expr}(hc:TM X c tA)(ha:EM X a fa)(hb:EM X b fb):EM X (.IfExp c a b pos) (vW tA fa fb):=by
 with_unfolding_all
  exact PE.imp (F2 hc ha hb) fun σ H Q zz=>by
   obtain⟨ρ,l,h,d,h',S,L,e,k⟩:=zz;obtain⟨⟨b1,h1⟩,e1,e⟩:=nA e;refine⟨ρ,l,h,b1,h1,S,L,e1,fun ρ1 H1 S1 E1=>?_⟩;cases b1 with
   | true=>rw[if_pos rfl]at e;exact zE ⟨ρ1,l,h1,d,h',S1,L.ext E1,e,k.ext E1⟩
   | false=>rw[if_neg Rc]at e;exact yE ⟨ρ1,l,h1,d,h',S1,L.ext E1,e,k.ext E1⟩
theorem wA:AM X [] sA:=by with_unfolding_all exact PA.imp MD fun σ H Q zz=>by obtain⟨ρ,l,h,ds,h',S,L,e,k⟩:=zz;cases e;exact k ρ [] H .nil S (Ext.refl _ _)
theorem fA{e:Expr}{es:List Expr}{f:RE}{g:RA}(ha:EM X e f)(hr:AM X es g)(hs:CB e=true:=by rfl):AM X (e::es) (cA f g):=by with_unfolding_all exact PA.imp (RC ha hr (HB hs es X.env)) fun σ H Q zz=>by obtain⟨ρ,l,h,ds,h',S,L,e,k⟩:=zz;obtain⟨⟨d1,h1⟩,e1,e⟩:=nA e;obtain⟨⟨Pr,h2⟩,e2,e⟩:=nA e;cases e;exact⟨ρ,l,h,d1,h1,S,L,e1,fun ρ1 x H1 R1 S1 E1=>⟨ρ1,l,h1,Pr,h2,S1,L.ext E1,e2,fun ρ2 xs H2 R2 S2 E2=>k ρ2 _ H2 (.cons (lq.ext E2 _ R1) R2) S2 (E1.trans E2)⟩⟩
noncomputable def cE(g:RA):RE:=fun l h=>(g l h).bind fun r=>if r.1.length<=sizeLine then some (.tup r.1,r.2)else none
noncomputable def iC(g:RA):RE:=fun l h=>(g l h).bind fun r=>if r.1.length<=sizeLine then some (.lst r.1,r.2)else none
noncomputable def JF(g:RA):RE:=fun l h=>(g l h).bind fun r=>if r.1.length<=sizeLine then some (.ref r.2.length,r.2++[.lst r.1])else none
theorem cU{K:Frag}{H:Hp}{ρ:Rg}{h:HI}{ds:List Dt}{vs:List V}{p:Addr}(S:uq K ρ h H)(R:aq K H ρ ds vs)(hp:H p=none):lq K (AB H p (.tup vs)) ρ (.tup ds) (.ref p):=
 xq.mpr ⟨p,vs,rfl,.inl ⟨S.out hp,.inl MC⟩,R.ext (Ext.fresh hp)⟩
theorem QJ{K:Frag}{H:Hp}{ρ:Rg}{h:HI}{ds:List Dt}{vs:List V}{p:Addr}(S:uq K ρ h H)(R:aq K H ρ ds vs)(hp:H p=none):lq K (AB H p (.lst vs)) ρ (.lst ds) (.ref p):=
 vq.mpr ⟨p,vs,rfl,.inl ⟨S.out hp,.inl MC⟩,R.ext (Ext.fresh hp)⟩
theorem DI{K:Frag}{H:Hp}{ρ:Rg}{h:HI}{ds:List Dt}{vs:List V}{p:Addr}(S:uq K ρ h H)(R:aq K H ρ ds vs)(hp:H p=none) :
 lq K (AB H p (.lst vs)) (ρ.add p) (.ref h.length) (.ref p)/\uq K (ρ.add p) (h++[.lst ds]) (AB H p (.lst vs)):=by
 refine⟨Hq.mpr ⟨p,rfl,?_⟩,S.own hp ⟨vs,MC,R.ext (Ext.own hp)⟩⟩;simp only[Rg.add];rw[<- S.len,Vc (Uc _),Nat.sub_self];rfl
theorem QD{α:Type}{c:Prop}[Decidable c]{a b:α}(h:(if c then some a else none)=some b):c/\a=b:=by
 by_cases hc:c
 · rw[if_pos hc]at h;exact⟨hc,Option.some.inj h⟩
 · rw[if_neg hc]at h;cases h
theorem HE{es:List Expr}{g:RA}{x1}(h:AM X es g):EM X (.Tuple es x1 pos) (cE g):=by with_unfolding_all exact PE.imp (z7 h) fun σ H Q zz=>by obtain⟨ρ,l,h,d,h',S,L,e,k⟩:=zz;obtain⟨⟨ds,h1⟩,e1,e⟩:=nA e;obtain⟨hz,e⟩:=QD e;cases e;exact⟨ρ,l,h,ds,h1,S,L,e1,fun ρ1 vs H1 R1 S1 E1=>⟨by rw[R1.length];exact hz,fun p hp=>k ρ1 _ _ (cU S1 R1 hp) (S1.fresh hp) (E1.trans (Ext.fresh hp))⟩⟩
theorem KC{es:List Expr}{g:RA}(h:AM X es g):EM X (.List es pos) (iC g):=by with_unfolding_all exact PE.imp (kQ h) fun σ H Q zz=>by obtain⟨ρ,l,h,d,h',S,L,e,k⟩:=zz;obtain⟨⟨ds,h1⟩,e1,e⟩:=nA e;obtain⟨hz,e⟩:=QD e;cases e;exact⟨ρ,l,h,ds,h1,S,L,e1,fun ρ1 vs H1 R1 S1 E1=>⟨by rw[R1.length];exact hz,fun p hp=>k ρ1 _ _ (QJ S1 R1 hp) (S1.fresh hp) (E1.trans (Ext.fresh hp))⟩⟩
theorem yI{es:List Expr}{g:RA}(h:AM X es g):EM X (.List es pos) (JF g):=by with_unfolding_all exact PE.imp (kQ h) fun σ H Q zz=>by obtain⟨ρ,l,h,d,h',S,L,e,k⟩:=zz;obtain⟨⟨ds,h1⟩,e1,e⟩:=nA e;obtain⟨hz,e⟩:=QD e;cases e;exact⟨ρ,l,h,ds,h1,S,L,e1,fun ρ1 vs H1 R1 S1 E1=>⟨by rw[R1.length];exact hz,fun p hp=>k _ _ _ (DI S1 R1 hp).1 (DI S1 R1 hp).2 (E1.trans (Ext.own hp))⟩⟩
end
noncomputable def oI(C:Int->Int->Prop)[∀i j,Decidable (C i j)](g:Int->Int->Dt):GC:=fun a b h=>match a,b with
 | .int i,.int j=>if C i j then some (g i j,h)else none
 | _,_=>none
noncomputable def CK(g:Int->Int->Dt):GC:=fun a b h=>match a,b with
 | .int i,.int j=>some (g i j,h)
 | _,_=>none
instance:∀i j,Decidable (QI i j):=fun i j=>by unfold QI;infer_instance
instance:∀i j,Decidable (Xz i j):=fun i j=>by unfold Xz;infer_instance
instance:∀i j,Decidable (FF i j):=fun i j=>by unfold FF;infer_instance
noncomputable def mD:Dt->Option V
 | .non=>some .non
 | .bl b=>some (.bl b)
 | .int i=>some (.int i)
 | .str x=>some (.str x)
 | _=>none
theorem KS{K:Frag}{H:Hp}{ρ:Rg}{d:Dt}{v:V}(e:mD d=some v):lq K H ρ d v:=by cases d<;>simp only[mD]at e<;>first | (cases e;simp only[lq]) | cases e
theorem lI{K:Frag}{H:Hp}{ρ:Rg}{d:Dt}{v u:V}(e:mD d=some v)(r:lq K H ρ d u):u=v:=by cases d<;>simp only[mD]at e<;>first | (cases e;simpa only[lq]using r) | cases e
section
variable{X:Cx}
theorem UH{f:Value->Value->Sem Value}{C:Int->Int->Prop}[∀i j,Decidable (C i j)]{g:Int->Int->Dt}{g':Int->Int->V}(ho:Vq X f (rI C g'))(hg:∀i j,mD (g i j)=some (g' i j)):OM X f (oI C g):=by
 with_unfolding_all
  exact Vq.imp ho fun x y H Q zz=>by
   obtain⟨ρ,h,d1,d2,d,h',S,R1,R2,e,k⟩:=zz;unfold oI at e;split at e
   · rename_i i j;obtain⟨hc,e⟩:=QD e;cases e;exact⟨i,j,gq.mp R1,gq.mp R2,hc,k ρ _ H (KS (hg i j)) S (Ext.refl _ _)⟩
   · cases e
theorem GH{f:Value->Value->Sem Value}{g:Int->Int->Dt}{g':Int->Int->V}(ho:Vq X f (pK g'))(hg:∀i j,mD (g i j)=some (g' i j)):OM X f (CK g):=by
 with_unfolding_all
  exact Vq.imp ho fun x y H Q zz=>by
   obtain⟨ρ,h,d1,d2,d,h',S,R1,R2,e,k⟩:=zz;unfold CK at e;split at e
   · rename_i i j;cases e;exact⟨i,j,gq.mp R1,gq.mp R2,k ρ _ H (KS (hg i j)) S (Ext.refl _ _)⟩
   · cases e
def wC:GC:=CK fun i j=>.int (i+j)
def TH:GC:=CK fun i j=>.int (i-j)
def qG:GC:=oI Xz fun i j=>.int (i*j)
def OB:GC:=oI QI fun i j=>.int (i/j)
def WA:GC:=oI (fun _ j=>0<j) fun i j=>.int (i%j)
def SG:GC:=oI FF fun i j=>.int (i^j.toNat)
def cJ:GC:=oI FF fun i j=>.int (i*2^j.toNat)
def dJ:GC:=oI (fun _ j=>0<=j) fun i j=>.int (i/2^j.toNat)
def wM:GC:=CK fun i j=>.int (Builtin.bitAnd i j)
def QG:GC:=CK fun i j=>.bl (decide (i<j))
def EK:GC:=CK fun i j=>.bl (decide (i<=j))
def gN:GC:=CK fun i j=>.bl (decide (j<i))
def aW:GC:=CK fun i j=>.bl (decide (j<=i))
theorem LC:OM X (binaryOp .Add) wC:=by with_unfolding_all exact GH T6 fun _ _=>rfl
theorem dM:OM X (binaryOp .Sub) TH:=by with_unfolding_all exact GH i7 fun _ _=>rfl
theorem SJ:OM X (binaryOp .Mult) qG:=by with_unfolding_all exact UH X6 fun _ _=>rfl
theorem dC:OM X (binaryOp .FloorDiv) OB:=by with_unfolding_all exact UH O5 fun _ _=>rfl
theorem mB:OM X (binaryOp .Mod) WA:=by with_unfolding_all exact UH W6 fun _ _=>rfl
theorem cM:OM X (binaryOp .Pow) SG:=by with_unfolding_all exact UH Y6 fun _ _=>rfl
theorem HU:OM X (binaryOp .LShift) cJ:=by with_unfolding_all exact UH b7 fun _ _=>rfl
theorem IU:OM X (binaryOp .RShift) dJ:=by with_unfolding_all exact UH f7 fun _ _=>rfl
theorem OT:OM X (binaryOp .BitAnd) wM:=by with_unfolding_all exact GH U6 fun _ _=>rfl
theorem CF:OM X (compareOp .Lt) QG:=by with_unfolding_all exact GH g9 fun _ _=>rfl
theorem HH:OM X (compareOp .LtE) EK:=by with_unfolding_all exact GH f9 fun _ _=>rfl
theorem CQ:OM X (compareOp .Gt) gN:=by with_unfolding_all exact GH b9 fun _ _=>rfl
theorem V8:OM X (compareOp .GtE) aW:=by with_unfolding_all exact GH Z8 fun _ _=>rfl
def gR:GC:=fun a b h=>match mD a,mD b with
 | some x,some y=>if WH x y=true then some (.bl (decide (x=y)),h)else none
 | _,_=>none
def iR:GC:=fun a b h=>match mD a,mD b with
 | some x,some y=>if WH x y=true then some (.bl (!decide (x=y)),h)else none
 | _,_=>none
theorem U8:OM X (compareOp .Eq) gR:=by
 with_unfolding_all
  exact Vq.imp Y8 fun x y H Q zz=>by
   obtain⟨ρ,h,d1,d2,d,h',S,R1,R2,e,k⟩:=zz;unfold gR at e;split at e
   · rename_i u v e1 e2;obtain⟨hc,e⟩:=QD e;cases e;rw[lI e1 R1,lI e2 R2];exact⟨hc,k ρ _ H (pq.mpr rfl) S (Ext.refl _ _)⟩
   · cases e
theorem X8:OM X (compareOp .NotEq) iR:=by
 with_unfolding_all
  exact Vq.imp j8 fun x y H Q zz=>by
   obtain⟨ρ,h,d1,d2,d,h',S,R1,R2,e,k⟩:=zz;unfold iR at e;split at e
   · rename_i u v e1 e2;obtain⟨hc,e⟩:=QD e;cases e;rw[lI e1 R1,lI e2 R2];exact⟨hc,k ρ _ H (pq.mpr rfl) S (Ext.refl _ _)⟩
   · cases e
noncomputable def ZU:Dt->Bool
 | .non=>true
 | _=>false
def lF:GC:=fun a b h=>match b with
 | .non=>some (.bl (ZU a),h)
 | _=>none
theorem JZ{K:Frag}{H:Hp}{ρ:Rg}{d:Dt}{v:V}(r:lq K H ρ d v):decide (v=.non)=ZU d:=by
 cases d with
 | non=>have e:=yq.mp r;subst e;rfl
 | bl b=>have e:=pq.mp r;subst e;rfl
 | int i=>have e:=gq.mp r;subst e;rfl
 | str x=>have e:=jq.mp r;subst e;rfl
 | tup xs=>obtain⟨a,vs,e,_⟩:=xq.mp r;subst e;rfl
 | lst xs=>obtain⟨a,vs,e,_⟩:=vq.mp r;subst e;rfl
 | ref n=>obtain⟨a,e,_⟩:=Hq.mp r;subst e;rfl
 | jz n=>obtain⟨a,e,_⟩:=Qx.mp r;subst e;rfl
 | err n m k=>obtain⟨a,_,_,e,_⟩:=bx.mp r;subst e;rfl
 | thr n m k=>exact(Gx.mp r).elim
theorem iU:OM X (compareOp .Is) lF:=by
 with_unfolding_all
  exact Vq.imp V6 fun x y H Q zz=>by
   obtain⟨ρ,h,d1,d2,d,h',S,R1,R2,e,k⟩:=zz;unfold lF at e;split at e
   · cases e;exact⟨yq.mp R2,k ρ _ H (pq.mpr (by rw[JZ R1])) S (Ext.refl _ _)⟩
   · cases e
noncomputable def aD(f:RE):RE:=fun l h=>(f l h).bind fun r=>match r.1 with | .int i=>some (.int (-i),r.2) | _=>none
theorem oF{a:Expr}{fa:RE}{pos:Pos}(ha:EM X a fa):EM X (.UnaryOp .USub a pos) (aD fa):=by
 with_unfolding_all
  exact PE.imp (w8 y9 ha) fun σ H Q zz=>by
   obtain⟨ρ,l,h,d,h',S,L,e,k⟩:=zz;obtain⟨⟨d1,h1⟩,e1,e⟩:=nA e;refine⟨ρ,l,h,d1,h1,S,L,e1,fun ρ1 x H1 R1 S1 E1=>?_⟩;cases d1 with
   | int i=>cases e;exact⟨i,gq.mp R1,k ρ1 _ H1 (gq.mpr rfl) S1 E1⟩
   | _=>cases e
end
noncomputable def uA(h:HI):Dt->Option (List Dt)
 | .lst xs=>some xs
 | .ref n=>match h[n]? with | some (.lst xs)=>some xs | _=>none
 | _=>none
def MF(h:HI):Dt->Option (List Dt)
 | .tup xs=>some xs
 | d=>uA h d
theorem tE{K:Frag}{H:Hp}{ρ:Rg}{h:HI}{d:Dt}{v:V}{xs:List Dt}(S:uq K ρ h H)(R:lq K H ρ d v)(e:uA h d=some xs):∃a vs,v=.ref a/\yx K H a vs/\aq K H ρ xs vs:=by
 cases d with
 | lst ys=>cases e;obtain⟨a,vs,e,q,r⟩:=vq.mp R;exact⟨a,vs,e,q.sq,r⟩
 | ref n=>
  simp only[uA]at e;split at e
  · rename_i ys q;cases e;obtain⟨a,rfl,ha⟩:=Hq.mp R;obtain⟨vs,h1,h2⟩:=S.lst ha q;exact⟨a,vs,rfl,yx.of h1,h2⟩
  · cases e
 | _=>simp only[uA]at e<;>cases e
theorem dQ{K:Frag}{H:Hp}{ρ:Rg}{h:HI}{d:Dt}{v:V}{xs:List Dt}(S:uq K ρ h H)(R:lq K H ρ d v)(e:MF h d=some xs):∃a vs,v=.ref a/\(yx K H a vs\/SI K H a vs)/\aq K H ρ xs vs:=by
 cases d with
 | tup ys=>cases e;obtain⟨a,vs,e,q,r⟩:=xq.mp R;exact⟨a,vs,e,.inr q.sq,r⟩
 | lst ys=>obtain⟨a,vs,e,q,r⟩:=tE S R (show uA h (.lst ys)=some xs from e);exact⟨a,vs,e,.inl q,r⟩
 | ref n=>obtain⟨a,vs,e,q,r⟩:=tE S R (show uA h (.ref n)=some xs from e);exact⟨a,vs,e,.inl q,r⟩
 | _=>cases e
theorem aq.qz{K:Frag}{H:Hp}{ρ:Rg}{ds:List Dt}{vs:List V}{i:Int}{d:Dt}(r:aq K H ρ ds vs)(e:L2.qz ds i=some d):∃v,L2.qz vs i=some v/\lq K H ρ d v:=by
 unfold L2.qz at e ⊢;rw[r.length];cases q:JH ds.length i with
 | none=>rw[q]at e;cases e
 | some j=>rw[q]at e;exact r.get e
def xA:GC:=fun a b h=>match b with
 | .int i=>match a with
  | .str z=>if z.length<=sizeLine then(L2.qz z.cps.toList i).map fun c=>(.str ⟨#[c]⟩,h)else none
  | _=>(MF h a).bind fun xs=>(L2.qz xs i).map fun d=>(d,h)
 | _=>none
section
variable{X:Cx}{a b c:Expr}{fa fb fc:RE}{pos:Pos}
theorem K2{x y:V}{H:Hp}{Q:VK}(h:rM X.K xA x y H Q):aj X.K x y H Q:=by
 obtain⟨ρ,h,d1,d2,d,h',S,R1,R2,e,k⟩:=h;unfold xA at e;split at e
 · rename_i i;have ei:=gq.mp R2;split at e
   · rename_i z;split at e
     · rename_i hz;cases q:L2.qz z.cps.toList i with
       | none=>rw[q]at e;cases e
       | some c=>rw[q]at e;cases e;exact .inr (.inr ⟨z,i,c,jq.mp R1,ei,hz,q,k ρ _ H (jq.mpr rfl) S (Ext.refl _ _)⟩)
     · cases e
   · obtain⟨xs,e1,e⟩:=nA e;cases q:L2.qz xs i with
     | none=>rw[q]at e;cases e
     | some u=>
      rw[q]at e;cases e;obtain⟨p,vs,e2,sq,r⟩:=dQ S R1 e1;obtain⟨v,q1,q2⟩:=r.qz q;rcases sq with sq | sq
      · exact .inl ⟨p,vs,i,v,e2,ei,sq,q1,k ρ _ H q2 S (Ext.refl _ _)⟩
      · exact .inr (.inl ⟨p,vs,i,v,e2,ei,sq,q1,k ρ _ H q2 S (Ext.refl _ _)⟩)
 · cases e
theorem EA(ha:EM X a fa)(hb:EM X b fb)(hs:qT b:=by intro _ _;rfl):EM X (.Subscript a b pos) (e2 xA fa fb):=by
 with_unfolding_all
  exact PE.imp (t8 T7 ha hb hs) fun σ H Q zz=>by
   obtain⟨ρ,l,h,d,h',S,L,e,k⟩:=zz;obtain⟨⟨d1,h1⟩,e1,e⟩:=nA e;obtain⟨⟨d2,h2⟩,e2,e⟩:=nA e;exact⟨ρ,l,h,d1,h1,S,L,e1,fun ρ1 x H1 R1 S1 E1=>⟨ρ1,l,h1,d2,h2,S1,L.ext E1,e2,fun ρ2 y H2 R2 S2 E2=>
    K2 ⟨ρ2,h2,d1,d2,d,h',S2,lq.ext E2 _ R1,R2,e,k.ext (E1.trans E2)⟩⟩⟩
end
noncomputable def jB:RS:=fun l h=>some (.nx l h)
noncomputable def oA(f g:RS):RS:=fun l h=>(f l h).bind fun r=>match r with | .nx l' h'=>g l' h' | r=>some r
noncomputable def OA(i:Nat)(f:RE):RS:=fun l h=>(f l h).bind fun r=>some (.nx (l.set i (some r.1)) r.2)
noncomputable def mG(f:RE):RS:=fun l h=>(f l h).bind fun r=>some (.nx l r.2)
noncomputable def DA(f:RE):RS:=fun l h=>(f l h).bind fun r=>some (.rt r.1 r.2)
noncomputable def nC(t:RT)(f g:RS):RS:=fun l h=>(t l h).bind fun r=>if r.1=true then f l r.2 else g l r.2
section
variable{X:Cx}{st:Stmt}{rest:List Stmt}{e:Expr}{f:RE}{t u:RS}{c:RT}{pos:Pos}
theorem sB:MI X [] jB:=by with_unfolding_all exact rz.imp j6 fun D σ H zz=>by obtain⟨ρ,l,h,r,S,L,e,k⟩:=zz;cases e;exact k ρ σ H S L (Ext.refl _ _)
theorem rA(h1:ZM X st t)(h2:MI X rest u):MI X (st::rest) (oA t u):=by
 with_unfolding_all
  exact rz.imp (JP h1 h2) fun D σ H zz=>by
   obtain⟨ρ,l,h,r,S,L,e,k⟩:=zz;obtain⟨r1,e1,e⟩:=nA e;refine⟨ρ,l,h,r1,S,L,e1,?_⟩;cases r1 with
   | nx l' h'=>exact fun ρ' σ' H' S' L' E'=>⟨ρ',l',h',r,S',L',e,k.ext E'⟩
   | rt d h'=>cases e;exact k
   | bk l' h'=>cases e;exact k
   | ct l' h'=>cases e;exact k
theorem zA(h1:ZM X st t):MI X [st] t:=by with_unfolding_all exact VL h1
theorem sH(he:EM X e f)(hs:swapsWith e none pos.line X.env=pure false:=by rfl):ZM X (.Expr e pos) (mG f):=by with_unfolding_all exact PS.imp (fT he hs) fun D σ H zz=>by obtain⟨ρ,l,h,r,S,L,e,k⟩:=zz;obtain⟨⟨d1,h1⟩,e1,e⟩:=nA e;cases e;exact⟨ρ,l,h,d1,h1,S,L,e1,fun ρ1 v H1 R1 S1 E1=>k ρ1 σ H1 S1 (L.ext E1) E1⟩
theorem IA(he:EM X e f):ZM X (.Return (some e) pos) (DA f):=by with_unfolding_all exact PS.imp (D6 he) fun D σ H zz=>by obtain⟨ρ,l,h,r,S,L,e,k⟩:=zz;obtain⟨⟨d1,h1⟩,e1,e⟩:=nA e;cases e;exact⟨ρ,l,h,d1,h1,S,L,e1,k⟩
theorem nB{b:Expr}{ss ss':List Stmt}(hc:TM X b c)(ha:MI X ss t)(hb:MI X ss' u):ZM X (.If b ss ss' pos) (nC c t u):=by
 with_unfolding_all
  exact PS.imp (lV hc ha hb) fun D σ H zz=>by
   obtain⟨ρ,l,h,r,S,L,e,k⟩:=zz;obtain⟨⟨b1,h1⟩,e1,e⟩:=nA e;refine⟨ρ,l,h,b1,h1,S,L,e1,fun ρ1 H1 S1 E1=>?_⟩;cases b1 with
   | true=>rw[if_pos rfl]at e;exact zE ⟨ρ1,l,h1,r,S1,L.ext E1,e,k.ext E1⟩
   | false=>rw[if_neg Rc]at e;exact yE ⟨ρ1,l,h1,r,S1,L.ext E1,e,k.ext E1⟩
theorem cB(i:Nat){x:Str}{pos':Pos}(hN:X.N.Nodup)(he:EM X e f)(hi:X.N[i]?=some x:=by rfl)(hx:NM X.env.scope x:=by first | exact Or.inl rfl | exact Or.inr rfl)
 (hs:swapsWith e (some (.Name x pos')) pos.line X.env=pure false:=by rfl) (hf:X.fn x=true\/X.env.scope.names.lookup x=some .local:=by first | exact .inl rfl | exact .inr rfl | assumption) :
 ZM X (.Assign [.Name x pos'] e pos) (OA i f):=by
 with_unfolding_all exact PS.imp (MU hN hi hx he hs hf) fun D σ H zz=>by obtain⟨ρ,l,h,r,S,L,e,k⟩:=zz;obtain⟨⟨d1,h1⟩,e1,e⟩:=nA e;cases e;exact⟨ρ,l,h,d1,h1,S,L,e1,fun ρ1 v H1 R1 S1 E1=>k ρ1 _ H1 S1 ((L.ext E1).set i R1) E1⟩
end
inductive Src where
 | vals (xs:List Dt)
 | rf (n:Nat)
 | zp (a b:Dt)
 | it (n:Nat)
 | en (n:Nat)
def Src.at(s:Src)(h:HI)(i:Nat):Option (Option Dt):=match s with
 | .vals xs=>some xs[i]?
 | .rf n=>match h[n]? with | some (.lst xs)=>some xs[i]? | _=>none
 | .zp a b=>match uA h a,uA h b with
  | some xs,some ys=>some (match xs[i]?,ys[i]? with | some x,some y=>some (.tup [x,y]) | _,_=>none)
  | _,_=>none
 | .it n=>match h[n]? with | some (.df kvs)=>some (kvs[i]?.map fun p=>.tup [.tup (p.1.map Dt.int),p.2]) | _=>none
 | .en n=>match h[n]? with | some (.lst xs)=>some (xs[i]?.map fun x=>.tup [.int (i:Int),x]) | _=>none
def Src.fuel(s:Src)(h:HI):Nat:=match s with
 | .vals xs=>xs.length+1
 | .rf n=>match h[n]? with | some (.lst xs)=>xs.length+1 | _=>0
 | .zp a _=>match uA h a with | some xs=>xs.length+1 | _=>0
 | .it n=>match h[n]? with | some (.df kvs)=>kvs.length+1 | _=>0
 | .en n=>match h[n]? with | some (.lst xs)=>xs.length+1 | _=>0
abbrev RI:=LI->HI->Option (Src×HI)
def B8(K:Frag)(H:Hp)(ρ:Rg)(s:Src)(J:It):Prop:=
 ∀H2 ρ2 h2,Tq ρ ρ2 H H2->uq K ρ2 h2 H2->∀i:Nat,match s.at h2 i with
  | none=>True
  | some none=>J.stop i H2
  | some (some d)=>J.go i H2/\∀v H3,J.gk i H2 v H3->lq K H3 ρ2 d v/\Ext ρ2 ρ2 H2 H3/\uq K ρ2 h2 H3
def iM(K:Frag)(g:RI):TI:=fun σ H R=>∃ρ l h s h',uq K ρ h H/\Kq K H ρ l σ/\g l h=some (s,h')/\∀ρ' J H',B8 K H' ρ' s J->uq K ρ' h' H'->Ext ρ ρ' H H'->R J H'
@[irreducible] def IM(X:Cx)(tg iter:Expr)(g:RI):Prop:=PI X tg iter (iM X.K g)
theorem PI.imp{X:Cx}{tg e:Expr}{t t':TI}(h:PI X tg e t)(i:∀σ H Q,t' σ H Q->t σ H Q):PI X tg e t':=fun pins s σ H Q I q=>h pins s σ H Q I (i σ H Q q)
abbrev RG:=Dt->LI->Option LI
def gM(K:Frag)(g:RG):TG:=fun v σ H Q=>∃ρ l h d l',uq K ρ h H/\Kq K H ρ l σ/\lq K H ρ d v/\g d l=some l'/\∀σ',Kq K H ρ l' σ'->Q σ' H
@[irreducible] def GM(X:Cx)(tg:Expr)(g:RG):Prop:=PG X tg (gM X.K g)
theorem PG.imp{X:Cx}{e:Expr}{t t':TG}(h:PG X e t)(i:∀v σ H Q,t' v σ H Q->t v σ H Q):PG X e t':=fun pins s σ H v u Q I r q=>h pins s σ H v u Q I r (i v σ H Q q)
noncomputable def UB(i:Nat):RG:=fun d l=>some (l.set i (some d))
def dE(bd:RG)(body:RS)(s:Src):Nat->Nat->RS
 | 0,_,_,_=>none
 | k+1,i,l,h=>match s.at h i with
  | none=>none
  | some none=>some (.nx l h)
  | some (some d)=>(bd d l).bind fun l1=>(body l1 h).bind fun r=>match r with
   | .nx l' h'=>dE bd body s k (i+1) l' h'
   | .ct l' h'=>dE bd body s k (i+1) l' h'
   | .bk l' h'=>some (.nx l' h')
   | .rt d h'=>some (.rt d h')
def sG(g:RI)(bd:RG)(body:RS):RS:=fun l h=>(g l h).bind fun r=>dE bd body r.1 (r.1.fuel r.2) 0 l r.2
section
variable{X:Cx}{tg iter:Expr}{pos:Pos}
theorem bD(i:Nat){x:Str}{pos:Pos}(hN:X.N.Nodup)(hi:X.N[i]?=some x:=by rfl)(hx:NM X.env.scope x:=by first | exact Or.inl rfl | exact Or.inr rfl)
 (hf:X.fn x=true\/X.env.scope.names.lookup x=some .local:=by first | exact .inl rfl | exact .inr rfl | assumption):GM X (.Name x pos) (UB i):=by
 with_unfolding_all exact PG.imp (UP hN hi hx hf) fun v σ H Q zz=>by obtain⟨ρ,l,h,d,l',S,L,R,e,k⟩:=zz;cases e;exact k _ (L.set i R)
noncomputable def WI(f:RE):RI:=fun l h=>(f l h).bind fun r=>match r.1 with | .int j=>if -(2^62)<=j/\j<2^62 then some (.vals ((List.range j.toNat).map fun(k:Nat)=>Dt.int (k:Int)),r.2)else none | _=>none
theorem bH {a:Expr} {f:RE} {p pos:Pos} (hg:Gl X "range") (hm:X.mg "range" =none) (ha:EM X a f) (hs:CB a=true:=by rfl) :
 IM X tg (.Call (.Name "range" p) [a] [] pos) (WI f):=by
 with_unfolding_all
  exact PI.imp (HZ hg hm (RC ha MD (HB hs _ _)) (HB hs _ _)) fun σ H R zz=>by
   obtain⟨ρ,l,h,s,h',S,L,e,k⟩:=zz;obtain⟨⟨d1,h1⟩,e1,e⟩:=nA e;refine⟨ρ,l,h,d1,h1,S,L,e1,fun ρ1 v H1 R1 S1 E1=>?_⟩;cases d1 with
   | int j=>
    obtain⟨⟨c1,c2⟩,e⟩:=QD e;cases e;refine⟨j,by rw[gq.mp R1],c1,c2,k ρ1 _ H1 (fun H2 ρ2 h2 E2 S2 i=>?_) S1 E1⟩;simp only[Src.at,getElem?_map];by_cases hi:i<j.toNat
    · rw[getElem?_range hi];refine⟨hi,fun v H3 q=>?_⟩;obtain⟨rfl,rfl⟩:=q;exact⟨gq.mpr (by simp),Ext.refl _ _,S2⟩
    · rw[getElem?_eq_none (by simpa using Nat.not_lt.mp hi)];exact Nat.not_lt.mp hi
   | _=>cases e
noncomputable def dR(f:RE):RI:=fun l h=>(f l h).bind fun r=>match r.1 with | .lst xs=>some (.vals xs,r.2) | .ref n=>some (.rf n,r.2) | _=>none
def eE(f:RE):RI:=fun l h=>(dR f l h).bind fun r=>if 0<r.1.fuel r.2 then some r else none
theorem SE{a:Expr}{f:RE}(ha:EM X a f):IM X tg a (eE f):=by
 with_unfolding_all
  exact PI.imp (Y5 ha) fun σ H R zz=>by
   obtain⟨ρ,l,h,s,h',S,L,e,k⟩:=zz;obtain⟨⟨s1,h1⟩,e,ez⟩:=nA e;obtain⟨hz,ez⟩:=QD ez;cases ez;obtain⟨⟨d1,h2⟩,e1,e⟩:=nA e;refine⟨ρ,l,h,d1,h2,S,L,e1,fun ρ1 v H1 R1 S1 E1=>?_⟩;cases d1 with
   | lst xs=>
    cases e;obtain⟨a,vs,rfl,q,r⟩:=vq.mp R1;refine⟨a,rfl,⟨vs,q.sq⟩,k ρ1 _ H1 (fun H2 ρ2 h2 E2 S2 i=>?_) S1 E1⟩;have q2:=q.same E2;have r2:=aq.same E2 _ r;simp only[Src.at];cases ei:xs[i]? with
    | none=>refine⟨vs,q2.sq,?_⟩;rw[r.length];exact getElem?_eq_none_iff.mp ei
    | some d=>obtain⟨v,g1,g2⟩:=r2.get ei;refine⟨⟨vs,v,q2.sq,g1⟩,fun u H3 y=>?_⟩;obtain⟨rfl,y⟩:=y;have y2:=y vs q2.sq;rw[g1]at y2;cases y2;exact⟨g2,Ext.refl _ _,S2⟩
   | ref n=>
    cases e;obtain⟨a,rfl,ha⟩:=Hq.mp R1;simp only[Src.fuel]at hz;split at hz
    · rename_i xs q0;obtain⟨Jd,g0,_⟩:=S1.lst ha q0;refine⟨a,rfl,⟨Jd,yx.of g0⟩,k ρ1 _ H1 (fun H2 ρ2 h2 E2 S2 i=>?_) S1 E1⟩;have ha2:=E2.ix _ _ ha;simp only[Src.at];split
      · trivial
      · rename_i y;split at y
        · rename_i ys q2;obtain⟨vs,g1,r⟩:=S2.lst ha2 q2;refine⟨vs,yx.of g1,?_⟩;rw[r.length];exact getElem?_eq_none_iff.mp (Option.some.inj y)
        · cases y
      · rename_i d y;split at y
        · rename_i ys q2;obtain⟨vs,g1,r⟩:=S2.lst ha2 q2;obtain⟨v,z1,z2⟩:=r.get (Option.some.inj y);refine⟨⟨vs,v,yx.of g1,z1⟩,fun u H3 y=>?_⟩;obtain⟨rfl,y⟩:=y;have y2:=y vs (yx.of g1);rw[z1]at y2;cases y2;exact⟨z2,Ext.refl _ _,S2⟩
        · cases y
    · exact absurd hz (by omega)
   | _=>cases e
theorem GU{body:List Stmt}{g:RI}{bd:RG}{f:RS}(hp:PassesOwn (model X.prog X.w) X.A X.env X.xe)(hc:X.calm=true)(hi:IM X tg iter g)(hg:GM X tg bd)(hb:MI X body f)
 (hs:∀x,foldedSetIterable iter X.env x=pure x:=by intro _;rfl):ZM X (.For tg iter body [] pos) (sG g bd f):=by
 with_unfolding_all
  exact PS.imp (LU hp hc hi hg hb hs) fun D σ H zz=>by
   obtain⟨ρ,l,h,r,S,L,e,k⟩:=zz;obtain⟨⟨s,h1⟩,e1,e⟩:=nA e;refine⟨ρ,l,h,s,h1,S,L,e1,fun ρ1 J H1 ok S1 E1=>?_⟩;refine⟨fun i m σ' H'=>∃ρ' l' h',uq X.K ρ' h' H'/\Kq X.K H' ρ' l' σ'/\Ext ρ1 ρ' H1 H'/\dE bd f s m i l' h'=some r,⟨_,ρ1,l,h1,S1,L.ext E1,Ext.refl _ _,e⟩,?_⟩;rintro i m σ' H' ⟨ρ',l',h',S',L',E',e'⟩;cases m with
   | zero=>simp only[dE]at e';cases e'
   | succ m=>
    simp only[dE]at e';have ok':=ok H' ρ' h' E'.same S' i;cases q:s.at h' i with
    | none=>rw[q]at e';cases e'
    | some o=>
     rw[q]at e' ok';cases o with
     | none=>cases e';exact .inl ⟨ok',k ρ' σ' H' S' L' (E1.trans E')⟩
     | some d=>
      dsimp only at e';obtain⟨l1,b1,e'⟩:=nA e';obtain⟨r1,b2,e'⟩:=nA e';refine .inr ⟨ok'.1,fun σ2 H2=>∃m',m'<m+1/\∃ρ' l' h',uq X.K ρ' h' H2/\Kq X.K H2 ρ' l' σ2/\Ext ρ1 ρ' H1 H2/\dE bd f s m' (i+1) l' h'=some r,fun σ2 H2 q=>q,fun v H3 y=>?_⟩;obtain⟨R3,E3,S3⟩:=ok'.2 v H3 y;refine⟨ρ',l',h',d,l1,S3,L'.ext E3,R3,b1,fun σ4 L4=>⟨ρ',l1,h',r1,S3,L4,b2,?_⟩⟩;cases r1 with
      | nx l2 h2=>exact fun ρ5 σ5 H5 S5 L5 E5=>⟨m,Nat.lt_succ_self _,ρ5,l2,h2,S5,L5,E'.trans (E3.trans E5),e'⟩
      | ct l2 h2=>exact fun ρ5 σ5 H5 S5 L5 E5=>⟨m,Nat.lt_succ_self _,ρ5,l2,h2,S5,L5,E'.trans (E3.trans E5),e'⟩
      | bk l2 h2=>cases e';exact fun ρ5 σ5 H5 S5 L5 E5=>k ρ5 σ5 H5 S5 L5 (E1.trans (E'.trans (E3.trans E5)))
      | rt d2 h2=>cases e';exact fun ρ5 v5 H5 R5 S5 E5=>k ρ5 v5 H5 R5 S5 (E1.trans (E'.trans (E3.trans E5)))
end
noncomputable def DC(n N:Nat)(body:RS):fC:=fun ds h=>if ds.length=n then match body (ds.map some++List.replicate (N-n) none) h with
 | some (.rt d h')=>some (d,h')
 | some (.nx _ h')=>some (.non,h')
 | _=>none
 else none
def sK(K:Frag)(n:Nat)(F:fC):Sp:=fun vs H Q _=>∃ρ ds h d h',uq K ρ h H/\aq K H ρ ds vs/\ds.length=n/\F ds h=some (d,h')/\Out K ρ H d h' Q
section
variable{P:Program}{w:World}{K:Frag}{mg:Str->Option Value}{base:Heap}
theorem lL{H:Hp}{ρ:Rg}{N:List Str}{ds:List Dt}{vs:List V}(R:aq K H ρ ds vs):Kq K H ρ (ds.map some++List.replicate (N.length-ds.length) none) (L2.eF N vs):=by
 have hl:=R.length;refine⟨by simp[L2.eF,hl],fun i d e=>?_⟩;by_cases hi:i<ds.length
 · rw[Qc (by simpa using hi),getElem?_map]at e;cases q:ds[i]? with
   | none=>rw[q]at e;cases e
   | some d'=>rw[q]at e;cases e;obtain⟨v,g1,g2⟩:=R.get q;refine⟨v,?_,g2⟩;unfold L2.eF;rw[Qc (by simpa[hl]using hi),getElem?_map,g1];rfl
 · rw[Vc (by simpa using Nat.not_lt.mp hi),getElem?_replicate]at e;split at e<;>cases e
theorem VU{x qual:Str}{st:Stmt}{f:Addr}{fd:FuncData}{N ps:List Str}{k:Nat}{body:RS}(F:Mv K x qual st f fd)(S:rB N ps (LA st))
 (hb:∀(cdv:Value)(A:Around)(outer:List Env)(s:Shared)(H:Hp)(E:XK),Gq k (A.deeper (envOfC qual (LA st) s.heap.objs.size f cdv))->
  MI (kD iF P w K mg base N qual (LA st) f cdv A outer s H E).Iv (FD st) body):Uq P w K mg base iF (k+1) f fd ps (sK K ps.length (DC ps.length N.length body)):=by
 with_unfolding_all
  refine F.ok S (fun vs H Q E h=>?_) (fun cdv A outer s H vs Q E hr h=>?_)
  · obtain⟨ρ,ds,h,d,h',S,R,hl,_⟩:=h;rw[R.length,hl]
  · obtain⟨ρ,ds,h,d,h',S,R,hl,e,k⟩:=h;refine⟨_,hb cdv A outer s H E hr,?_⟩;unfold DC at e;rw[if_pos hl]at e;rw[<- hl]at e;split at e
    · rename_i d1 h1 q;cases e;exact⟨ρ,_,h,_,S,lL R,q,k⟩
    · rename_i l1 h1 q;cases e;exact⟨ρ,_,h,_,S,lL R,q,fun ρ' σ' H' S' L' E'=>k ρ' _ H' (yq.mpr rfl) S' E'⟩
    · cases e
end
noncomputable def UA(F:fC)(Vz:List Dt)(g:RA):RE:=fun l h=>(g l h).bind fun r=>F (r.1++Vz) r.2
section
variable{X:Cx}{k n:Nat}{f:Addr}{fd:FuncData}{ps:List Str}{F:fC}{x:Str}{p pos:Pos}{e:Expr}{es:List Expr}{g:RA}{uz:List V}{ds:List Value}{Vz:List Dt}
theorem iZ(hF:Uq X.prog X.w X.K X.mg X.base iF k f fd ps (sK X.K n F))(hr:Gq k X.A)(hg:Gl X x)(hm:X.mg x=some (.ref f))(hk:keepIn X.K (.ref f)=true)(hb:Binds X.K fd ps ds)(hd:Vals uz ds)(hdd:∀H ρ,aq X.K H ρ Vz uz)
 (ha:AM X (e::es) g) (hn:∀(F':List Dt->HI->Option (Dt×HI)),F'=F->∀ds h r,F' ds h=some r->ds.length=n) (hdb:(x==("__debug__" :Str))=false:=by decide) (he:CB e=true:=by rfl) (hpl:es.all CB=true:=by rfl) :
 EM X (.Call (.Name x p) (e::es) [] pos) (UA F Vz g):=by
 with_unfolding_all exact PE.imp (P5 hF hr hg hm hk hb hd (E:=E0) DQ ha hdb (HB he _ _) (tI hpl)) fun σ H Q zz=>by obtain⟨ρ,l,h,d,h',S,L,e,k⟩:=zz;obtain⟨⟨Jt,h1⟩,e1,e⟩:=nA e;exact⟨ρ,l,h,Jt,h1,S,L,e1,fun ρ1 vs H1 R1 S1 E1=>⟨ρ1,_,h1,d,h',S1,R1.append (hdd H1 ρ1),hn F rfl _ _ _ e,e,k.ext E1⟩⟩
theorem DT{n N:Nat}{body:RS}{ds:List Dt}{h:HI}{r:Dt×HI}(e:DC n N body ds h=some r):ds.length=n:=by
 unfold DC at e;split at e
 · assumption
 · cases e
noncomputable def YJ(F:fC)(Vz:List Dt):RE:=fun _ h=>F Vz h
theorem eZ(hF:Uq X.prog X.w X.K X.mg X.base iF k f fd ps (sK X.K n F))(hr:Gq k X.A)(hg:Gl X x)(hm:X.mg x=some (.ref f))(hk:keepIn X.K (.ref f)=true)(hb:Binds X.K fd ps ds)(hd:Vals uz ds)(hdd:∀H ρ,aq X.K H ρ Vz uz)
 (hn:∀(F':List Dt->HI->Option (Dt×HI)),F'=F->∀ds h r,F' ds h=some r->ds.length=n) (hdb:(x==("__debug__" :Str))=false:=by decide) :
 EM X (.Call (.Name x p) [] [] pos) (YJ F Vz):=by
 with_unfolding_all exact PE.imp (A2 hF hr hg hm hk hb hd (E:=E0) DQ hdb) fun σ H Q zz=>by obtain⟨ρ,l,h,d,h',S,L,e,k⟩:=zz;exact⟨ρ,Vz,h,d,h',S,hdd H ρ,hn F rfl _ _ _ e,e,k⟩
end
end SM
namespace L2
noncomputable def WD(cells:List (Str×Addr)):List (Str×NameKind)->List (Str×Addr)->Option (List (Str×Addr))
 | [],cs=>some cs
 | (n,k)::r,cs=>if k==.free then match cells.lookup n with
  | some a=>WD cells r ((n,a)::cs)
  | none=>none
  else WD cells r cs
theorem CP{env:Env}:∀{l:List (Str×NameKind)}{cs cl:List (Str×Addr)},WD env.cells l cs=some cl->
 (forIn l cs fun(x:Str×NameKind) (r:List (Str×Addr))=>if(x.2==NameKind.free)=true then(do let a <- cellOf env x.1;pure (ForInStep.yield ((x.1,a)::r)):Sem _)else pure (ForInStep.yield r))=pure cl
 | [],cs,cl,h=>by simp only[WD]at h;cases h;rfl
 | (n,k)::r,cs,cl,h=>by
  simp only[WD]at h;rw[forIn_cons];cases hk:k==NameKind.free with
  | true=>
   rw[hk,if_pos rfl]at h;cases hc:env.cells.lookup n with
   | none=>rw[hc]at h;cases h
   | some a=>
    rw[hc]at h;have ih:=CP (env:=env) h;simp only[hk,if_true];have e:cellOf env n=pure a:=by unfold cellOf;rw[hc]
    rw[e];simp only[pure_bind];exact ih
  | false=>rw[hk,if_neg (by decide)]at h;have ih:=CP (env:=env) h;simp only[hk,Xc,if_false,pure_bind];exact ih
theorem XR{scope:Scope}{env:Env}{cl:List (Str×Addr)}(h:WD env.cells scope.names []=some cl):closureFor scope env=pure cl:=by have e:=CP (env:=env) h;unfold closureFor;simp only[bind_pure];exact e
theorem oP{cells:List (Str×Addr)}:∀{l:List (Str×NameKind)}{cs cl:List (Str×Addr)},WD cells l cs=some cl->(∀x c,cs.lookup x=some c->cells.lookup x=some c)->
 (∀x c,cl.lookup x=some c->cells.lookup x=some c)/\(∀x c,cs.lookup x=some c->∃c',cl.lookup x=some c')/\∀n,(n,NameKind.free)∈l->∃c,cl.lookup n=some c
 | [],cs,cl,h,i=>by simp only[WD]at h;cases h;exact⟨i,fun x c e=>⟨c,e⟩,fun n hn=>nomatch hn⟩
 | (n,k)::r,cs,cl,h,i=>by
  simp only[WD]at h;cases hk:k==NameKind.free with
  | true=>
   rw[hk,if_pos rfl]at h;cases hc:cells.lookup n with
   | none=>rw[hc]at h;cases h
   | some a=>
    rw[hc]at h;have i':∀x c,((n,a)::cs).lookup x=some c->cells.lookup x=some c:=fun x c e=>by
     rw[lookup_cons]at e;cases hx:x==n with
     | true=>rw[hx]at e;cases e;rw[eq_of_beq hx];exact hc
     | false=>rw[hx]at e;exact i x c e
    obtain⟨h1,h2,h3⟩:=oP h i';refine⟨h1,fun x c e=>?_,fun m hm=>?_⟩
    · cases hx:x==n with
      | true=>exact h2 x a (by rw[lookup_cons,hx])
      | false=>exact h2 x c (by rw[lookup_cons,hx];exact e)
    · rcases mem_cons.mp hm with z | z
      · cases z;exact h2 _ a (by rw[lookup_cons,beq_self_eq_true])
      · exact h3 m z
  | false=>
   rw[hk,if_neg (by decide)]at h;obtain⟨h1,h2,h3⟩:=oP h i;refine⟨h1,h2,fun m hm=>?_⟩;rcases mem_cons.mp hm with z | z
   · cases z;cases hk
   · exact h3 m z
noncomputable def lC(X:Cx)(Nc:List Str)(scope:Scope)(cl:List (Str×Addr))(C:Addr)(s0:Shared)(H0:Hp)(fp:List Addr):Cx:=
 { X with N:=Nc,s₀:=s0,H₀:=H0,env:=compEnvC scope cl C X.env,outer:=X.stack,stack:=X.stack,ex:=fp,fn:=fun _=>false,pn:=[],xe:=fun _ _=>False }
theorem HR{env:Env}:∀{names:List (Str×NameKind)}{x:Str},(∀y∈names,y.2≠.cell)->
 ((names.map fun(n,k)=>if(k==NameKind.free&&env.scope.kind==.function&&env.kindOf n==some .cell)then(n,NameKind.cell)else(n,k)).lookup x=some .cell\/
  (names.map fun(n,k)=>if(k==NameKind.free&&env.scope.kind==.function&&env.kindOf n==some .cell)then(n,NameKind.cell)else(n,k)).lookup x=some .free)->(x,NameKind.free)∈names
 | [],_,_,h=>by simp at h
 | (n,k)::r,x,hc,h=>by
  have ih:=@HR env r x (fun y hy=>hc y (mem_cons_of_mem _ hy));have hk:k≠.cell:=hc (n,k) mem_cons_self;rw[uc]at h;cases hx:x==n with
  | true=>
   have ex:=eq_of_beq hx;subst ex;by_cases hf:k=.free
   · subst hf;exact mem_cons_self
   · have hb:(k==NameKind.free)=false:=by simpa using hf
     simp only[hb,Bool.false_and,Xc,if_false,lookup_cons,beq_self_eq_true]at h;rcases h with h | h
     · exact absurd (Option.some.inj h) hk
     · exact absurd (Option.some.inj h) hf
  | false=>
   refine mem_cons_of_mem _ (ih ?_);by_cases hq:(k==NameKind.free&&env.scope.kind==.function&&env.kindOf n==some .cell)=true
   · simp only[hq,if_true,lookup_cons,hx]at h;exact h
   · rw[Bool.not_eq_true]at hq;simp only[hq,Xc,if_false,lookup_cons,hx]at h;exact h
noncomputable def Xq(X:Cx)(scope:Scope)(cl:List (Str×Addr)):List Str->List (Option Nat)->Prop
 | [],[]=>True
 | _::N,none::cs=>Xq X scope cl N cs
 | x::N,some j::cs=>(X.N[j]?=some x/\(X.env.kindOf x=some .cell\/X.env.kindOf x=some .free)/\((relabel scope X.env).names.lookup x=some .cell\/(relabel scope X.env).names.lookup x=some .free)/\
  cl.lookup x=X.env.cells.lookup x)/\Xq X scope cl N cs
 | _,_=>False
noncomputable def yF(σ:St)(cap:List (Option Nat)):St:=cap.map fun o=>match o with | some j=>(σ[j]?).join | none=>none
theorem Xq.get{X:Cx}{scope:Scope}{cl:List (Str×Addr)}:∀{N:List Str}{cs:List (Option Nat)},Xq X scope cl N cs->∀{i j:Nat}{x:Str},N[i]?=some x->cs[i]?=some (some j)->
 X.N[j]?=some x/\(X.env.kindOf x=some .cell\/X.env.kindOf x=some .free)/\((relabel scope X.env).names.lookup x=some .cell\/(relabel scope X.env).names.lookup x=some .free)/\cl.lookup x=X.env.cells.lookup x
 | [],[],_,i,j,x,h,_=>by simp at h
 | y::N,none::cs,h,0,j,x,_,e=>by simp at e
 | y::N,none::cs,h,i+1,j,x,e1,e2=>Xq.get (N:=N) (cs:=cs) h (i:=i) (by simpa using e1) (by simpa using e2)
 | y::N,some k::cs,h,0,j,x,e1,e2=>by simp at e1 e2;subst e1 e2;exact h.1
 | y::N,some k::cs,h,i+1,j,x,e1,e2=>Xq.get (N:=N) (cs:=cs) h.2 (i:=i) (by simpa using e1) (by simpa using e2)
 | [],_::_,h,_,_,_,_,_=>h.elim
 | _::_,[],h,_,_,_,_,_=>h.elim
theorem Xq.length{X:Cx}{scope:Scope}{cl:List (Str×Addr)}:∀{N:List Str}{cs:List (Option Nat)},Xq X scope cl N cs->cs.length=N.length
 | [],[],_=>rfl
 | y::N,none::cs,h=>by rw[Zd,Zd,Xq.length (N:=N) (cs:=cs) h]
 | y::N,some k::cs,h=>by rw[Zd,Zd,Xq.length (N:=N) (cs:=cs) h.2]
 | [],_::_,h=>h.elim
 | _::_,[],h=>h.elim
def LH(X:Cx)(ifs:List Expr)(t:TT):Prop:=
 ∀(pins:List (Addr×Obj))(s:Shared)(σ:St)(H:Hp)(Q:Bool->Hp->Prop),Inv X pins σ H s->t σ H Q->
  wpAny (model X.prog X.w) X.A (forIn ifs true fun c r=>if r=true then do let ok <- isTrue c X.env (eval c X.env);pure (ForInStep.yield ok)else pure (ForInStep.yield r)) (TP X pins σ Q) X.xe s
theorem b0{X:Cx}:LH X [] (fun _ H Q=>Q true H):=fun _ _ _ H _ I q=>wpAny_tests_nil ⟨H,I,q⟩
theorem j0{X:Cx}{c:Expr}{t:TT}(h:PT X c t):LH X [c] t:=fun pins s σ H Q I q=>wpAny_tests_one (h pins s σ H Q I q)
def yQ(wi:TI)(g:TG)(tc:TT)(te:TE)(cap:List (Option Nat)):TE:=fun σ H Q=>wi σ H fun J H1=>∀D,H1 D=none->∃W:Nat->Nat->St->List V->Hp->Prop,
 (∃m,W 0 m (yF σ cap) [] (AB H1 D (.lst [])))/\∀i m σ' ys H',W i m σ' ys H'->
  (J.stop i H'/\Q (.ref D) H')\/(J.go i H'/\∀x H2,J.gk i H' x H2->g x σ' H2 fun σ2 H3=>tc σ2 H3 fun b H4=>if b=true then te σ2 H4 fun y H5=>
   H5 D=some (.lst ys)/\ys.length<sizeLine/\∃m',m'<m/\W (i+1) m' σ2 (ys++[y]) (AB H5 D (.lst (ys++[y])))else ∃m',m'<m/\W (i+1) m' σ2 ys H4)
section
variable{prog:Program}{w:World}{A:Around}{R:Result->Shared->Prop}{s:Shared}
theorem rX{elt target iter:Expr}{ifs:List Expr}{scope:Scope}{pos:Pos}{it acc:Value}{env:Env}(I:Nat->Shared->Prop)
 (turn:∀n s,I n s->wpAny (model prog w) A (pyNext it) (fun r s₁=>match r with
  | none=>R (.ok .next) s₁
  | some v=>wpAny (model prog w) A (letOwnedTupleGo target it v) (fun _ s₁'=>wpAny (model prog w) A (assign target env v) (fun _ s₂=>
   wpAny (model prog w) A (forIn ifs true fun c r=>if r=true then do let ok <- isTrue c env (eval c env);pure (ForInStep.yield ok)else pure (ForInStep.yield r)) (fun ok s₃=>
    if ok=true then wpAny (model prog w) A (eval elt env) (fun x s₄=>
     wpAny (model prog w) A (call (.builtin "list.append") [acc,x]) (fun _ s₅=>∃m,m<n/\I m s₅) (fun _ _=>False) s₄) (fun _ _=>False) s₃
    else ∃m,m<n/\I m s₃) (fun _ _=>False) s₂) (fun _ _=>False) s₁') (fun _ _=>False) s₁) (fun _ _=>False) s)
 (n:Nat) (h:I n s):codeAny (model prog w) A (.compLoop (.ListComp elt [⟨target,iter,ifs,0⟩] scope pos) 0 it acc env) R s:=by
 refine codeAny_loop rfl I (fun n s hI=>?_) n h;show wpAny _ A ((compTurn (.ListComp elt [⟨target,iter,ifs,0⟩] scope pos) 0 it acc env).onRaise (fun x=>do noteFrame x env;theTreesLotGoes x)) _ _ s;refine wpAny_noted ?_;rw[compTurn_list];refine wpAny_bind (wpAny_standAt (wpAny_bind (wpAny_mono (turn n s hI) (fun r s₁ h₁=>?_) fun _ _ h'=>h'.elim)));cases r with
 | none=>exact wpAny_pure h₁
 | some v=>
  refine wpAny_bind (wpAny_mono h₁ (fun _ s₁' h₁'=>?_) fun _ _ h'=>h'.elim);refine wpAny_bind (wpAny_mono h₁' (fun _ s₂ h₂=>wpAny_bind (wpAny_mono h₂ (fun ok s₃ h₃=>?_) fun _ _ h'=>h'.elim)) fun _ _ h'=>h'.elim);cases ok with
  | false=>exact wpAny_pure ⟨rfl,h₃⟩
  | true=>exact wpAny_bind (wpAny_bind (wpAny_mono h₃ (fun x s₄ h₄=>wpAny_bind (wpAny_mono h₄ (fun _ s₅ h₅=>wpAny_pure (wpAny_pure ⟨rfl,h₅⟩)) fun _ _ h'=>h'.elim)) fun _ _ h'=>h'.elim))
end
section
variable{X:Cx}{elt iter tg:Expr}{ifs:List Expr}{scope:Scope}{cl:List (Str×Addr)}{pos:Pos}{Nc:List Str}{wi:TI}{g:TG}{tc:TT}{te:TE}{cap:List (Option Nat)}
theorem YR{pins:List (Addr×Obj)}{σ:St}{H:Hp}{s:Shared}{it:Addr}{fp:List Addr}{tn:Nat->Heap->Prop}{J:It}{Q:VK}{RR:Value->Addr->Result->Shared->Prop}{E:Value->Shared->Prop}
 (hc:X.calm=true) (hcl:WD X.env.cells scope.names []=some cl) (hcell:∀y∈scope.names,y.2≠.cell) (hkind:scope.kind=.function) (hcap:Xq X scope cl Nc cap)
 (hg:∀C s0 H0 fp,PG (lC X Nc scope cl C s0 H0 fp) tg g) (ht:∀C s0 H0 fp,LH (lC X Nc scope cl C s0 H0 fp) ifs tc) (he:∀C s0 H0 fp,PE (lC X Nc scope cl C s0 H0 fp) elt te)
 (I:Inv X pins σ H s) (T:MH X.prog X.w X.K tg J fp it tn) (st:tn 0 s.heap) (hf:∀b∈fp,vE X pins H b)
 (read:∀D,H D=none->∃W:Nat->Nat->St->List V->Hp->Prop,
  (∃m,W 0 m (yF σ cap) [] (AB H D (.lst [])))/\∀i m σ' ys H',W i m σ' ys H'->
   (J.stop i H'/\Q (.ref D) H')\/(J.go i H'/\∀x H2,J.gk i H' x H2->g x σ' H2 fun σ2 H3=>tc σ2 H3 fun b H4=>if b=true then te σ2 H4 fun y H5=>
    H5 D=some (.lst ys)/\ys.length<sizeLine/\∃m',m'<m/\W (i+1) m' σ2 (ys++[y]) (AB H5 D (.lst (ys++[y])))else ∃m',m'<m/\W (i+1) m' σ2 ys H4))
 (hRR:∀(C D:Addr)(s':Shared)(H':Hp) m,Inv X pins σ H' s'->s'.heap.Ns C m->H' C=none->C≠X.env.locals->X.s₀.heap.objs.size<=C->(∀x c,X.env.cells.lookup x=some c->c≠C)->(∀p∈X.pn++pins,p.1≠C)->Q (.ref D) H'->RR (.ref D) C (.ok .next) s') :
 wpAny (model X.prog X.w) X.A (newList []) (fun acc s₃=>wpAny (model X.prog X.w) X.A (newFunctionEnv scope X.env.globals cl [] X.env.qual none .none (some X.env)) (fun cenv s₄=>
  codeAny (model X.prog X.w) X.A (.compStart (.ListComp elt [⟨tg,iter,ifs,0⟩] scope pos) 0 (.ref it) acc { cenv with scope:=relabel scope X.env }) (RR acc cenv.locals) s₄) E s₃) E s:=by
 obtain⟨sub,_,Jh⟩:=oP hcl (fun _ _ e=>by simp at e);refine wpAny_newObj_type (wpAny_newFunctionEnv hcell (by intro y hy;simp at hy) (fun h₁ hns₁ hsb₁=>?_) hkind);have hD:=I.fresh;have I3:Inv X pins σ (AB H s.heap.objs.size (.lst [])) { s with heap:=s.heap.push { cls:=.type "list",data:=.seq ([]:List Value).toArray } }:=I.Sw (ys:=[]) (its:=[]) (t':=s.toks) .nil (Nat.zero_le _);generalize hs3:({ s with heap:=s.heap.push { cls:=.type "list",data:=.seq ([]:List Value).toArray } }:Shared)=s3 at I3;generalize Qt:AB H s.heap.objs.size (.lst [])=H3 at I3;have hh3:s3.heap=s.heap.push { cls:=.type "list",dict:=none,data:=.seq ([]:List Value).toArray }:=by rw[<- hs3]
 dsimp only at hns₁ hsb₁ ⊢;rw[<- hh3]at hns₁ hsb₁;have Gf:H3 s3.heap.objs.size=none:=I3.fresh;have hCL:s3.heap.objs.size≠X.env.locals:=fun z=>by have:=I3.lt;rw[<- z]at this;exact Nat.lt_irrefl _ this
 have Bf:X.s₀.heap.objs.size<=s3.heap.objs.size:=I3.sz;have Kw:∀x c,X.env.cells.lookup x=some c->c<s3.heap.objs.size:=fun x c e=>by obtain⟨v,o,ho,_⟩:=I3.cell x c e;exact Heap.lt_size ho
 have Ef:∀x c,X.env.cells.lookup x=some c->c≠s3.heap.objs.size:=fun x c e z=>by have:=Kw x c e;rw[z]at this;exact Nat.lt_irrefl _ this
 have Hf:∀p∈X.pn++pins,p.1≠s3.heap.objs.size:=fun p hp z=>by have:=Heap.lt_size (I3.pin p hp).1;rw[z]at this;exact Nat.lt_irrefl _ this
 have Gk:∀b∈fp,b<s.heap.objs.size:=fun b hb=>by obtain⟨o,e,_⟩:=T.obj 0 _ st b hb;exact Heap.lt_size e
 have Gd:s3.heap.objs.size=s.heap.objs.size+1:=by rw[hh3,Heap.size_push]
 have old:∀b o,s3.heap.get? b=some o->h₁.get? b=some o:=fun b o e=>hsb₁.extBut b o (Nat.ne_of_lt (Heap.lt_size e)) (Heap.get?_push_of_some _ e)
 have Rh:∀b o,s.heap.get? b=some o->s3.heap.get? b=some o:=fun b o e=>by rw[hh3];exact Heap.get?_push_of_some _ e
 have uf:∀b∈fp,H3 b=none:=fun b hb=>by rw[<- Qt,lB (Nat.ne_of_lt (Gk b hb))];exact(hf b hb).1
 have kh:(lC X Nc scope cl s3.heap.objs.size s3 H3 fp).Ok:=by
  refine⟨I3.ok.mod,hkind,I3.ok.glob,I3.ok.blt,Uc _,fun x y c e1 e2=>I3.ok.inj x y c (sub x c e1) (sub y c e2),fun x hx=>?_,fun x c e _=>absurd e Rc,I3.ok.hd,I3.ok.frames,.inl rfl,fun b hb=>⟨?_,fun x c e=>?_⟩,fun b o e=>I3.bs b o e,?_,fun b o e=>?_,fun b hb=>?_,I3.stack,I3.Lz⟩
  · exact Jh x (HR hcell hx)
  · intro z;have:=Gk b hb;have z':b=s3.heap.objs.size:=z;rw[z',Gd]at this;exact absurd this (Nat.not_lt.mpr (Nat.le_succ _))
  · exact(hf b hb).2.2.2.2.1 x c (sub x c e)
  · exact Nat.le_trans I3.ok.yw I3.sz
  · intro hb;have h1:=(hf b hb).2.2.2.1;have h2:=I3.ok.bs b o e;rcases h1 with z | z
    · exact I3.ok.Hv b o e z
    · exact absurd (Nat.lt_of_lt_of_le (Heap.lt_size h2.1) z) (Nat.lt_irrefl _)
  · intro z;rcases mem_cons.mp (I3.Mz b z)with z | z
    · exact(hf b hb).2.1 z
    · exact(hf b hb).2.2.1 z
 have IY:Inv (lC X Nc scope cl s3.heap.objs.size s3 H3 fp) [] (yF σ cap) H3 { s3 with heap:=h₁,toks:=s3.toks+([]:List (Str×Value)).length }:=by
  refine⟨kh,rfl,I3.bare,Un.kept old,⟨_,hns₁,fun i x v e1 e2 _=>?_⟩,fun x c e=>?_,Gf,fun x c e=>I3.ux x c (sub x c e),fun p hp=>absurd hp (by simp[lC]),I3.hok.kept old,?_⟩
  · have e2':(yF σ cap)[i]?=some (some v):=e2;unfold yF at e2';rw[getElem?_map]at e2';cases q:cap[i]? with
    | none=>rw[q]at e2';cases e2'
    | some o=>
     rw[q]at e2';cases o with
     | none=>cases e2'
     | some j=>
      have e3:(σ[j]?).join=some v:=by simpa using e2'
      have e4:σ[j]?=some (some v):=by
       cases z:σ[j]? with
       | none=>rw[z]at e3;cases e3
       | some y=>rw[z]at e3;simpa using e3
      obtain⟨n1,n2,n3,n4⟩:=hcap.get e1 q;obtain⟨m,_,hl⟩:=I3.loc;have hv:kK X.env.scope x:=.inr n2;obtain⟨u,r,lk⟩:=hl j x v n1 e4 hv;refine⟨u,r,.inr ⟨n3,?_⟩⟩;rcases lk with⟨k,_⟩ | ⟨_,c,ec,ob,z1,z2⟩
      · rcases n2 with n2 | n2<;>rw[k]at n2<;>cases n2
      · exact⟨c,n4.trans ec,ob,old c ob z1,z2⟩
  · obtain⟨v,o,z1,z2⟩:=I3.cell x c (sub x c e);exact⟨v,o,old c o z1,z2⟩
  · show(yF σ cap).length=Nc.length;unfold yF;rw[length_map];exact hcap.length
 obtain⟨W,⟨m0,w0⟩,turn⟩:=read s.heap.objs.size hD;rw[Qt]at w0;have st1:tn 0 h₁:=T.keep 0 _ _ st fun b _ o e=>old b o (Rh b o e)
 have Hh:∀{H':Hp},(∀b∈fp,H' b=none)->∀b∈fp,vE (lC X Nc scope cl s3.heap.objs.size s3 H3 fp) [] H' b:=fun hn b hb=>⟨hn b hb,(kh.Ek b hb).1,kh.Gv b hb,.inl hb,fun x c e=>(kh.Ek b hb).2 x c e,fun p hp=>absurd hp (by simp[lC])⟩
 have loop:codeAny (model X.prog X.w) X.A (.compLoop (.ListComp elt [⟨tg,iter,ifs,0⟩] scope pos) 0 (.ref it) (.ref s.heap.objs.size) (compEnvC scope cl s3.heap.objs.size X.env)) (RR (.ref s.heap.objs.size) s3.heap.objs.size)
  { s3 with heap:=h₁,toks:=s3.toks+([]:List (Str×Value)).length }:=by
  refine rX (fun n s'=>∃i σ' ys H',Inv (lC X Nc scope cl s3.heap.objs.size s3 H3 fp) [] σ' H' s'/\tn i s'.heap/\(∀b∈fp,H' b=none)/\W i n σ' ys H') ?_ m0 ⟨0,_,[],H3,IY,st1,uf,w0⟩;rintro n s4 ⟨i,σ4,ys,H4,I4,Ar,Ot,w4⟩;rcases turn i n σ4 ys H4 w4 with⟨stop,qn⟩ | ⟨go,step⟩
  · refine qB (T.done (lC X Nc scope cl s3.heap.objs.size s3 H3 fp) rfl rfl rfl hc i [] s4 σ4 H4 _ I4 (Hh Ot) Ar stop) fun r s5 zz=>?_
    obtain⟨hr,I5⟩:=zz;subst hr;have I6:Inv X pins σ H4 s5:=I3.call' (ch:=fp) I5.os I5.base I5.hok I5.bare fun b hb=>⟨(hf b hb).2.2.2.1,(hf b hb).2.1,(hf b hb).2.2.2.2.1,(hf b hb).2.2.2.2.2⟩
    obtain⟨m,hn,_⟩:=I5.loc;exact hRR _ _ s5 H4 m I6 hn I5.free hCL Bf Ef Hf qn
  · refine qB (T.item (lC X Nc scope cl s3.heap.objs.size s3 H3 fp) rfl rfl rfl hc i [] s4 σ4 H4 _ I4 (Hh Ot) Ar go) fun r s5 zz=>?_
    obtain⟨u,hr,h5⟩:=zz;subst hr;refine qB h5 fun _ s6 zz=>?_
    obtain⟨x,H6,I6,r6,y6,Xh,Af⟩:=zz;have Dr:=I6.pinned (Hh Af) (T.obj _ _ Xh);refine qB (hg _ _ _ _ _ s6 σ4 H6 x u _ Dr r6 (step x H6 y6)) fun _ s7 zz=>?_
    obtain⟨σ7,H7,I7,q7⟩:=zz;refine qB (ht _ _ _ _ _ s7 σ7 H7 _ I7 q7) fun b s8 zz=>?_
    obtain⟨H8,I8,q8⟩:=zz;have again:∀{σ9:St}{H9:Hp}{s9:Shared}{Zh:List V},Inv (lC X Nc scope cl s3.heap.objs.size s3 H3 fp) ([]++TJ fp s6.heap) σ9 H9 s9->(∃m',m'<n/\W (i+1) m' σ9 Zh H9)->
     ∃m',m'<n/\∃i σ' ys H',Inv (lC X Nc scope cl s3.heap.objs.size s3 H3 fp) [] σ' H' s9/\tn i s9.heap/\(∀b∈fp,H' b=none)/\W i m' σ' ys H':=fun {σ9 H9 s9 Zh} I9 ⟨m',hm,w9⟩=>by
     refine⟨m',hm,i+1,σ9,Zh,H9,I9.Ux,T.keep _ _ _ Xh fun b hb o e=>(I9.pin (b,o) (mem_append_right _ (mem_append_right _ (aL hb e)))).1,fun b hb=>?_,w9⟩;obtain⟨o,e,d⟩:=T.obj _ _ Xh b hb;exact(I9.pin (b,o) (mem_append_right _ (mem_append_right _ (aL hb e)))).2.1
    cases b with
    | false=>rw[if_neg Rc]at q8 ⊢;exact again I8 q8
    | true=>
     rw[if_pos rfl]at q8 ⊢;refine qB (he _ _ _ _ _ s8 σ7 H8 _ I8 q8) fun y s9 zz=>?_
     obtain⟨v,H9,I9,r9,d9,z9,w9⟩:=zz;refine qB (eS (X:=lC X Nc scope cl s3.heap.objs.size s3 H3 fp) _ s9 σ7 H9 (.ref s.heap.objs.size) [v] (.ref s.heap.objs.size) [y] (fun _ H'=>H'=AB H9 s.heap.objs.size (.lst (ys++[v]))) I9 rfl (.cons r9 .nil) ⟨_,ys,v,rfl,rfl,d9,z9,rfl⟩) fun _ Wd zz=>?_
     obtain⟨_,Ld,Br,_,e10⟩:=zz;subst e10;exact again Br w9
 exact codeAny_compStart_list loop (T.self X.A 0 _ _ _ st1 loop)
theorem T5(hc:X.calm=true)(hi:PI X tg iter wi)(hcl:WD X.env.cells scope.names []=some cl)(hcell:∀y∈scope.names,y.2≠.cell)(hkind:scope.kind=.function)
 (hnames:∀y∈scope.names,y.2=.local->scope.names.lookup y.1=some .local) (hcap:Xq X scope cl Nc cap)
 (hg:∀C s0 H0 fp,PG (lC X Nc scope cl C s0 H0 fp) tg g) (ht:∀C s0 H0 fp,LH (lC X Nc scope cl C s0 H0 fp) ifs tc) (he:∀C s0 H0 fp,PE (lC X Nc scope cl C s0 H0 fp) elt te)
 (hs:∀x,foldedSetIterable iter X.env x=pure x:=by intro _;rfl):PE X (.ListComp elt [⟨tg,iter,ifs,0⟩] scope pos) (yQ wi g tc te cap):=by
 intro pins s σ H Q I h;rw[eval_ListComp];refine wpAny_comprehension_free (use:=none) rfl hs (XR hcl) hkind hnames (qB (hi pins s σ H _ I h) fun v s1 h1=>qB h1 fun itv s2 h2=>?_);obtain⟨it,fp,tn,J,H2,e,I2,T,st2,f2,read⟩:=h2;subst e;refine YR hc hcl hcell hkind hcap hg ht he I2 T st2 f2 read fun C D s' H' m I' hn n1 n2 n3 n4 n5 q=>?_
 refine⟨m,hn,fun h' hs'=>⟨.ref D,H',?_,rfl,q⟩⟩;exact I'.turned (t':=s'.toks) (fun b o hb e=>hs'.extBut b o hb e) n1 n2 (.inr n3) n4 n5
theorem SR{i:Nat}{y:Str}{py spos:Pos}(hc:X.calm=true)(hN:X.N.Nodup)(Jk:X.N[i]?=some y)(hy:X.env.scope.names.lookup y=some .local)(hi:PI X tg iter wi)(hcl:WD X.env.cells scope.names []=some cl)(hcell:∀y∈scope.names,y.2≠.cell)(hkind:scope.kind=.function)
 (hnames:∀y∈scope.names,y.2=.local->scope.names.lookup y.1=some .local) (hcap:Xq X scope cl Nc cap)
 (hg:∀C s0 H0 fp,PG (lC X Nc scope cl C s0 H0 fp) tg g) (ht:∀C s0 H0 fp,LH (lC X Nc scope cl C s0 H0 fp) ifs tc) (he:∀C s0 H0 fp,PE (lC X Nc scope cl C s0 H0 fp) elt te)
 (hsw:swapsWith (.ListComp elt [⟨tg,iter,ifs,0⟩] scope pos) (some (.Name y py)) spos.line X.env=pure true)
 (hs:∀x,foldedSetIterable iter X.env x=pure x:=by intro _;rfl):PS X (.Assign [.Name y py] (.ListComp elt [⟨tg,iter,ifs,0⟩] scope pos) spos) (JK (yQ wi g tc te cap) (jK i)):=by
 intro pins s σ H D I h;rw[exec_Assign_Name_used _ _ _ _ hsw];refine wpAny_bind (wpAny_standAt (wpAny_bind ?_));show wpAny _ X.A (do let _ <- comprehension (.ListComp elt [⟨tg,iter,ifs,0⟩] scope pos) scope X.env _ (newList []) false (eval iter X.env) (some (assign (.Name y py) X.env))) _ _ s;refine wpAny_bind (wpAny_mono (wpAny_comprehension_free (use:=some (assign (.Name y py) X.env)) (Q:=fun _ s'=>SP X pins D .next s') rfl hs (XR hcl) hkind hnames
  (qB (hi pins s σ H _ I h) fun v s1 h1=>qB h1 fun itv s2 h2=>?_)) (fun _ s' hq=>wpAny_pure (wpAny_pure hq)) fun _ _ e=>e)
 obtain⟨it,fp,tn,J,H2,e,I2,T,st2,f2,read⟩:=h2;subst e;refine YR (Q:=fun x H1=>jK i x σ H1 D.nx) hc hcl hcell hkind hcap hg ht he I2 T st2 f2 read fun C Dd s' H' m I' hn n1 n2 n3 n4 n5 q=>?_
 show wpAny _ X.A (assign (.Name y py) X.env (.ref Dd)) _ _ _;refine wpAny_assign_Name (nS I' hN Jk (.inl hy) (v:=.ref Dd) rfl (fun s4 I4 zz=>?_) (.inr hy));obtain⟨a,sb,ha⟩:=zz;have Df:C≠a:=by
  rcases ha with ha | ha
  · rw[ha];exact n2
  · exact fun z=>n4 _ _ ha z.symm
 refine⟨m,hn.sameBut sb Df,fun h' hs'=>⟨_,H',?_,q⟩⟩;exact I4.turned (t':=s4.toks) (fun b o hb e=>hs'.extBut b o hb e) n1 n2 (.inr n3) n4 n5
end
end L2
namespace SM
def ZD(bd:RG)(tc:RT)(te:RE)(s:Src):Nat->Nat->LI->HI->List Dt->Option (List Dt×HI)
 | 0,_,_,_,_=>none
 | k+1,i,l,h,ys=>match s.at h i with
  | none=>none
  | some none=>some (ys,h)
  | some (some d)=>(bd d l).bind fun l1=>(tc l1 h).bind fun b=>if b.1=true then(te l1 b.2).bind fun r=>if ys.length<sizeLine then ZD bd tc te s k (i+1) l1 r.2 (ys++[r.1])else none
   else ZD bd tc te s k (i+1) l1 b.2 ys
noncomputable def nE(l:LI)(cap:List (Option Nat)):LI:=cap.map fun o=>match o with | some j=>(l[j]?).join | none=>none
def YC(g:RI)(bd:RG)(tc:RT)(te:RE)(cap:List (Option Nat)):RE:=fun l h=>(g l h).bind fun r=>(ZD bd tc te r.1 (r.1.fuel r.2) 0 (nE l cap) r.2 []).bind fun q=>some (.lst q.1,q.2)
def tH(g:RI)(bd:RG)(tc:RT)(te:RE)(cap:List (Option Nat)):RE:=fun l h=>(g l h).bind fun r=>(ZD bd tc te r.1 (r.1.fuel r.2) 0 (nE l cap) r.2 []).bind fun q=>some (.ref q.2.length,q.2++[.lst q.1])
noncomputable def rC:RT:=fun _ h=>some (true,h)
theorem F3{K:Frag}{H:Hp}{ρ:Rg}{l:LI}{σ:L2.St}(L:Kq K H ρ l σ)(cap:List (Option Nat)):Kq K H ρ (nE l cap) (yF σ cap):=by
 refine⟨by simp[nE,yF],fun i d e=>?_⟩;unfold nE at e;unfold yF;rw[getElem?_map]at e ⊢;cases q:cap[i]? with
 | none=>rw[q]at e;cases e
 | some o=>
  rw[q]at e;cases o with
  | none=>cases e
  | some j=>
   have e3:(l[j]?).join=some d:=by simpa using e
   have e4:l[j]?=some (some d):=by
    cases z:l[j]? with
    | none=>rw[z]at e3;cases e3
    | some y=>rw[z]at e3;simpa using e3
   obtain⟨v,g1,g2⟩:=L.val j d e4;refine⟨v,?_,g2⟩;simp[g1]
section
variable{X:Cx}{elt iter tg:Expr}{ifs:List Expr}{scope:Scope}{cl:List (Str×Addr)}{pos:Pos}{Nc:List Str}{g:RI}{bd:RG}{tc:RT}{te:RE}{cap:List (Option Nat)}
@[irreducible] def CM(X:Cx)(ifs:List Expr)(f:RT):Prop:=LH X ifs (qN X.K f)
theorem rE:CM X [] rC:=by with_unfolding_all exact fun pins s σ H Q I q=>by obtain⟨ρ,l,h,b,h',S,L,e,k⟩:=q;cases e;exact b0 pins s σ H Q I (k ρ H S (Ext.refl _ _))
theorem kM{c:Expr}{f:RT}(h:TM X c f):CM X [c] f:=by with_unfolding_all exact j0 h
end
section
variable{K:Frag}{H:Hp}{ρ:Rg}{p:Addr}{o:HO}{h:HI}
theorem J5{a:Addr}{u:HO}(hp:H p=none)(e:H a=some u)(n:ρ.no a):(ρ.hide p).no a:=
 ⟨n.1,fun z=>by
  rcases mem_cons.mp z with z | z
  · rw[z,hp]at e;cases e
  · exact n.2 z⟩
theorem Ext.Vv{τ:Rg}{H':Hp}(x:Ext (ρ.hide p) τ H H'):∃ρ',τ=ρ'.hide p/\Ext ρ ρ' H H':=by
 refine⟨⟨τ.v,ρ.z⟩,?_,⟨x.pre,rfl,x.keep,x.live,x.fz⟩⟩;have e:=x.hid;cases τ with
 | mk v z=>have e':z=p::ρ.z:=e;subst e';rfl
theorem Ext.Yw{ρ':Rg}{H':Hp}(x:Ext ρ ρ' H H')(hp:H p=none):Ext ρ ρ' H (AB H' p o):=
 ⟨x.pre,x.hid,fun a u e n=>by rw[lB (XC e hp)];exact x.keep a u e n,fun a e=>by
  by_cases ha:a=p
  · rw[ha];exact hp
  · rw[lB ha]at e;exact x.live a e,fun a q u e=>by rw[lB (XC e hp)];exact x.fz a q u e⟩
theorem dz.same{ρ':Rg}{H':Hp}{a:Addr}{u:Ob}(x:Tq ρ ρ' H H')(e:H' a=H a)(q:dz K H ρ a u):dz K H' ρ' a u:=by
 cases u with
 | lst xs=>obtain⟨vs,h1,h2⟩:=q;exact⟨vs,e.trans h1,aq.same x _ h2⟩
 | ins y fs=>obtain⟨C,dx,vs,h0,h1,h2,h3⟩:=q;exact⟨C,dx,vs,h0,e.trans h1,h2,aq.same x _ h3⟩
 | dk kvs=>obtain⟨vs,h1,h2,h3⟩:=q;exact⟨vs,e.trans h1,h2,aq.same x _ h3⟩
 | dt kvs=>obtain⟨vs,h1,h2,h3⟩:=q;exact⟨vs,e.trans h1,h2,aq.same x _ h3⟩
 | df kvs=>obtain⟨o,vs,h1,h2,h3⟩:=q;exact⟨o,vs,e.trans h1,h2,aq.same x _ h3⟩
 | Ck kvs=>obtain⟨o,vs,h1,h2,h3⟩:=q;exact⟨o,vs,e.trans h1,h2,aq.same x _ h3⟩
theorem Kq.same{ρ':Rg}{H':Hp}{l:LI}{σ:L2.St}(x:Tq ρ ρ' H H')(L:Kq K H ρ l σ):Kq K H' ρ' l σ:=
 ⟨L.len,fun i d e=>let ⟨v,e1,r⟩:=L.val i d e;⟨v,e1,lq.same x d r⟩⟩
theorem lS(hp:H p=none):Tq ρ (ρ.hide p) H (AB H p o):=
 ⟨fun _ _ e n=>J5 hp e n,fun a u e _=>by rw[lB (XC e hp)];exact e,fun _ _ e=>e,fun a q u e=>by rw[lB (XC e hp)];exact e⟩
theorem WO{o:HO}(nf:wV H p):Tq (ρ.hide p) (ρ.hide p) H (AB H p o):=
 ⟨fun _ _ _ n=>n,fun a u e n=>by rw[lB (fun z=>n.2 (by rw[z];exact mem_cons_self))];exact e,fun _ _ e=>e,fun a q u e=>by rw[lB (fun z:a=p=>nf q u (by rw[<- z];exact e))];exact e⟩
theorem mS:Tq (ρ.hide p) ρ H H:=⟨fun _ _ _ n=>⟨n.1,fun z=>n.2 (mem_cons_of_mem _ z)⟩,fun _ _ e _=>e,fun _ _ e=>e,fun _ _ _ e=>e⟩
theorem IS:Tq (ρ.hide p) (ρ.add p) H H:=
 ⟨fun a _ _ n=>⟨fun z=>(mem_append.mp z).elim n.1 fun z=>n.2 (by rw[mem_singleton.mp z];exact mem_cons_self),fun z=>n.2 (mem_cons_of_mem _ z)⟩,fun _ _ e _=>e,fun n a e=>by
  have e':ρ.v[n]?=some a:=e;have:=(Kc e').1;show(ρ.v++[p])[n]?=some a;rw[Qc this];exact e',fun _ _ _ e=>e⟩
theorem uq.hide{xs:List V}(S:uq K ρ h H)(hp:H p=none):uq K (ρ.hide p) h (AB H p (.lst xs)):=
 ⟨S.nd,S.len,fun n a u e1 e2=>(S.ob n a u e1 e2).same (lS hp) (lB (fun z=>(S.out hp).1 (z ▸ mem_of_getElem? e1))),fun a ha=>by
  rcases mem_cons.mp ha with z | z
  · rw[z];exact⟨(S.out hp).1,xs,MC⟩
  · obtain⟨m,u,e⟩:=S.zt a z;exact⟨m,u,by rw[lB (XC e hp)];exact e⟩⟩
theorem uq.Qw{xs:List V}(S:uq K (ρ.hide p) h H):uq K (ρ.hide p) h (AB H p (.lst xs)):=
 ⟨S.nd,S.len,fun n a u e1 e2=>(S.ob n a u e1 e2).same (WO (SH (S.zt p mem_cons_self).2.choose_spec)) (lB (fun z=>(S.zt p mem_cons_self).1 (z ▸ mem_of_getElem? e1))),fun a ha=>by
  obtain⟨m,u,e⟩:=S.zt a ha;by_cases hap:a=p
  · subst hap;exact⟨m,xs,MC⟩
  · exact⟨m,u,by rw[lB hap];exact e⟩⟩
theorem uq.show(S:uq K (ρ.hide p) h H):uq K ρ h H:=
 ⟨S.nd,S.len,fun n a u e1 e2=>(S.ob n a u e1 e2).same mS rfl,fun a ha=>S.zt a (mem_cons_of_mem _ ha)⟩
theorem uq.Uv(S:uq K (ρ.hide p) h H)(hz:p∉ρ.z){ds:List Dt}{vs:List V}(e:H p=some (.lst vs))(R:aq K H (ρ.hide p) ds vs):uq K (ρ.add p) (h++[.lst ds]) H:=by
 have nv:=(S.zt p mem_cons_self).1;refine⟨?_,by simp only[Rg.add];rw[length_append,length_append,<- S.len];rfl,fun n a ob e1 e2=>?_,fun a ha=>?_⟩
 · simp only[Rg.add];rw[nodup_append];refine⟨S.nd,nodup_cons.mpr ⟨by simp,nodup_nil⟩,fun a ha b hb=>?_⟩;rw[mem_singleton.mp hb];intro z;exact nv (z ▸ ha)
 · simp only[Rg.add]at e1;have hl:ρ.v.length=h.length:=S.len;by_cases hn:n<h.length
   · rw[Qc hn]at e2;rw[Qc (by rw[hl];exact hn)]at e1;exact(S.ob n a ob e1 e2).same IS rfl
   · have hn':h.length<=n:=Nat.not_lt.mp hn;rw[Vc hn']at e2;rw[Vc (by rw[hl];exact hn'),hl]at e1;cases hk:n-h.length with
     | zero=>rw[hk]at e1 e2;simp at e1 e2;subst e1 e2;exact⟨vs,e,aq.same IS _ R⟩
     | succ k=>rw[hk]at e2;simp at e2
 · obtain⟨n,u,e'⟩:=S.zt a (mem_cons_of_mem _ ha);refine⟨fun hm=>?_,u,e'⟩;rcases mem_append.mp hm with hm | hm
   · exact n hm
   · exact hz ((mem_singleton.mp hm) ▸ ha)
end
section
variable{X:Cx}{elt iter tg:Expr}{ifs:List Expr}{scope:Scope}{cl:List (Str×Addr)}{pos:Pos}{Nc:List Str}{g:RI}{bd:RG}{tc:RT}{te:RE}{cap:List (Option Nat)}
theorem qP{σ:L2.St}{H:Hp}{Q:VK}(own:Bool){d:Dt}{h':HI}{ρ:Rg}{l:LI}{h:HI}(S:uq X.K ρ h H)(L:Kq X.K H ρ l σ)
 (e:(if own=true then tH g bd tc te cap else YC g bd tc te cap) l h=some (d,h')) (k:Out X.K ρ H d h' Q):yQ (iM X.K g) (gM X.K bd) (qN X.K tc) (tM X.K te) cap σ H Q:=by
 have e0:∃s1 h1,g l h=some (s1,h1)/\∃ys h2,ZD bd tc te s1 (s1.fuel h1) 0 (nE l cap) h1 []=some (ys,h2)/\h'=(if own=true then h2++[.lst ys]else h2)/\d=(if own=true then .ref h2.length else .lst ys):=by
  cases own with
  | true=>rw[if_pos rfl]at e;obtain⟨⟨s1,h1⟩,e1,e⟩:=nA e;obtain⟨⟨ys,h2⟩,e2,e⟩:=nA e;cases e;exact⟨s1,h1,e1,ys,h2,e2,rfl,rfl⟩
  | false=>rw[if_neg Rc]at e;obtain⟨⟨s1,h1⟩,e1,e⟩:=nA e;obtain⟨⟨ys,h2⟩,e2,e⟩:=nA e;cases e;exact⟨s1,h1,e1,ys,h2,e2,rfl,rfl⟩
 obtain⟨s1,h1,e1,zs,h2,e2,eh,ed⟩:=e0;refine⟨ρ,l,h,s1,h1,S,L,e1,fun ρ1 J H1 ok S1 E1 D hD=>?_⟩;have Jf:D∉ρ1.z:=(S1.out hD).2;refine⟨fun i m σ' ys H'=>∃ρ' l' h' ds,uq X.K (ρ'.hide D) h' H'/\Kq X.K H' (ρ'.hide D) l' σ'/\Ext ρ1 ρ' H1 H'/\H' D=some (.lst ys)/\aq X.K H' (ρ'.hide D) ds ys/\ZD bd tc te s1 m i l' h' ds=some (zs,h2),?_,?_⟩
 · exact⟨_,ρ1,_,h1,[],S1.hide hD,F3 (Kq.same (lS hD) (L.ext E1)) cap,Ext.fresh hD,MC,.nil,e2⟩
 · rintro i m σ' ys H' ⟨ρ',l',h3,ds,S',L',E',hD',R',e'⟩;cases m with
   | zero=>simp only[ZD]at e';cases e'
   | succ m=>
    simp only[ZD]at e';have sm:Tq ρ1 (ρ'.hide D) H1 H':=⟨fun a u z n=>⟨(E'.Rv z n).1,fun w=>by
     rcases mem_cons.mp w with w | w
     · rw[w,hD]at z;cases z
     · exact(E'.Rv z n).2 w⟩,fun a u z n=>E'.keep a u z n.1,fun n a z=>E'.get z,E'.fz⟩
    have ok':=ok H' (ρ'.hide D) h3 sm S' i;cases q:s1.at h3 i with
    | none=>rw[q]at e';cases e'
    | some o=>
     rw[q]at e' ok';cases o with
     | none=>
      cases e';refine .inl ⟨ok',?_⟩;have nD:ρ'.no D:=⟨(S'.zt D mem_cons_self).1,by rw[E'.hid];exact Jf⟩;cases own with
      | false=>rw[if_neg Rc]at eh ed;subst eh ed;exact k ρ' _ H' (vq.mpr ⟨D,ys,rfl,.inl ⟨nD,.inl hD'⟩,aq.same mS _ R'⟩) S'.show (E1.trans E')
      | true=>
       rw[if_pos rfl]at eh ed;subst eh ed;refine k (ρ'.add D) _ H' (Hq.mpr ⟨D,rfl,?_⟩) (S'.Uv nD.2 hD' R') (E1.trans ⟨?_,E'.hid,E'.keep,E'.live,E'.fz⟩)
       · have hl:ρ'.v.length=h2.length:=S'.len;show(ρ'.v++[D])[h2.length]?=some D;rw[<- hl,Vc (Uc _),Nat.sub_self];rfl
       · obtain⟨x,q1,q2⟩:=E'.pre;refine⟨x++[D],by show ρ'.v++[D]=_;rw[q1,append_assoc],fun a ha=>?_⟩;rcases mem_append.mp ha with ha | ha
         · exact q2 a ha
         · rw[mem_singleton.mp ha];exact hD
     | some d0=>
      dsimp only at e';obtain⟨l1,b1,e'⟩:=nA e';obtain⟨⟨b,h4⟩,b2,e'⟩:=nA e';refine .inr ⟨ok'.1,fun v H3 y=>?_⟩;obtain⟨R3,E3,S3⟩:=ok'.2 v H3 y;have Zt:=(S'.zt D mem_cons_self).1;refine⟨ρ'.hide D,l',h3,d0,l1,S3,L'.ext E3,R3,b1,fun σ4 L4=>⟨ρ'.hide D,l1,h3,b,h4,S3,L4,b2,fun ρ5 H5 S5 E5=>?_⟩⟩;cases b with
      | true=>
       dsimp only at e';rw[if_pos rfl]at e';obtain⟨⟨d5,h5⟩,b3,e'⟩:=nA e';by_cases hz:ds.length<sizeLine
       · rw[if_pos hz]at e';refine zE ⟨ρ5,l1,h4,d5,h5,S5,L4.ext E5,b3,fun ρ6 v6 H6 R6 S6 E6=>⟨?_,by rw[R'.length];exact hz,m,Nat.lt_succ_self _,?_⟩⟩
         · exact(E3.trans (E5.trans E6)).keep D _ hD' Zt
         · obtain⟨ρ7,rfl,E7⟩:=(E3.trans (E5.trans E6)).Vv;refine⟨ρ7,l1,h5,ds++[d5],S6.Qw,Kq.same (WO (SH (S6.zt D mem_cons_self).2.choose_spec)) (L4.ext (E5.trans E6)),(E'.trans E7).Yw hD,MC,?_,e'⟩;exact aq.same (WO (SH (S6.zt D mem_cons_self).2.choose_spec)) _ ((R'.ext (E3.trans (E5.trans E6))).append (.cons R6 .nil))
       · rw[if_neg hz]at e';cases e'
      | false=>dsimp only at e';rw[if_neg Rc]at e';refine yE ⟨m,Nat.lt_succ_self _,?_⟩;obtain⟨ρ7,rfl,E7⟩:=(E3.trans E5).Vv;exact⟨ρ7,l1,h4,ds,S5,L4.ext E5,E'.trans E7,(E3.trans E5).keep D _ hD' Zt,R'.ext (E3.trans E5),e'⟩
theorem QE(hc:X.calm=true)(hi:IM X tg iter g)(hcell:∀y∈scope.names,y.2≠.cell)(hkind:scope.kind=.function)
 (hnames:∀y∈scope.names,y.2=.local->scope.names.lookup y.1=some .local) (hcl:WD X.env.cells scope.names []=some cl) (hcap:Xq X scope cl Nc cap)
 (hg:∀C s0 H0 fp,GM (lC X Nc scope cl C s0 H0 fp) tg bd) (ht:∀C s0 H0 fp,CM (lC X Nc scope cl C s0 H0 fp) ifs tc) (he:∀C s0 H0 fp,EM (lC X Nc scope cl C s0 H0 fp) elt te)
 (hs:∀x,foldedSetIterable iter X.env x=pure x:=by intro _;rfl):EM X (.ListComp elt [⟨tg,iter,ifs,0⟩] scope pos) (YC g bd tc te cap):=by
 with_unfolding_all exact PE.imp (T5 (g:=gM X.K bd) (tc:=qN X.K tc) (te:=tM X.K te) hc hi hcl hcell hkind hnames hcap hg ht he hs) fun σ H Q ⟨ρ,l,h,d,h',S,L,e,k⟩=>qP (X:=X) false S L e k
theorem OO(i:Nat){y:Str}{py spos:Pos}(hc:X.calm=true)(hN:X.N.Nodup)(hi:IM X tg iter g)(hcell:∀y∈scope.names,y.2≠.cell)(hkind:scope.kind=.function)
 (hnames:∀y∈scope.names,y.2=.local->scope.names.lookup y.1=some .local) (hcl:WD X.env.cells scope.names []=some cl) (hcap:Xq X scope cl Nc cap)
 (hg:∀C s0 H0 fp,GM (lC X Nc scope cl C s0 H0 fp) tg bd) (ht:∀C s0 H0 fp,CM (lC X Nc scope cl C s0 H0 fp) ifs tc) (he:∀C s0 H0 fp,EM (lC X Nc scope cl C s0 H0 fp) elt te)
 (hsw:swapsWith (.ListComp elt [⟨tg,iter,ifs,0⟩] scope pos) (some (.Name y py)) spos.line X.env=pure true)
 (Jk:X.N[i]?=some y:=by rfl) (hy:X.env.scope.names.lookup y=some .local:=by rfl) (hs:∀x,foldedSetIterable iter X.env x=pure x:=by intro _;rfl) :
 ZM X (.Assign [.Name y py] (.ListComp elt [⟨tg,iter,ifs,0⟩] scope pos) spos) (OA i (YC g bd tc te cap)):=by
 with_unfolding_all exact PS.imp (SR (g:=gM X.K bd) (tc:=qN X.K tc) (te:=tM X.K te) hc hN Jk hy hi hcl hcell hkind hnames hcap hg ht he hsw hs) fun D σ H zz=>by obtain⟨ρ,l,h,r,S,L,e,k⟩:=zz;obtain⟨⟨d1,h1⟩,e1,e⟩:=nA e;cases e;exact qP (X:=X) false S L e1 fun ρ1 v H1 R1 S1 E1=>k ρ1 _ H1 S1 ((L.ext E1).set i R1) E1
theorem uO(i:Nat){y:Str}{py spos:Pos}(hc:X.calm=true)(hN:X.N.Nodup)(hi:IM X tg iter g)(hcell:∀y∈scope.names,y.2≠.cell)(hkind:scope.kind=.function)
 (hnames:∀y∈scope.names,y.2=.local->scope.names.lookup y.1=some .local) (hcl:WD X.env.cells scope.names []=some cl) (hcap:Xq X scope cl Nc cap)
 (hg:∀C s0 H0 fp,GM (lC X Nc scope cl C s0 H0 fp) tg bd) (ht:∀C s0 H0 fp,CM (lC X Nc scope cl C s0 H0 fp) ifs tc) (he:∀C s0 H0 fp,EM (lC X Nc scope cl C s0 H0 fp) elt te)
 (hsw:swapsWith (.ListComp elt [⟨tg,iter,ifs,0⟩] scope pos) (some (.Name y py)) spos.line X.env=pure true)
 (Jk:X.N[i]?=some y:=by rfl) (hy:X.env.scope.names.lookup y=some .local:=by rfl) (hs:∀x,foldedSetIterable iter X.env x=pure x:=by intro _;rfl) :
 ZM X (.Assign [.Name y py] (.ListComp elt [⟨tg,iter,ifs,0⟩] scope pos) spos) (OA i (tH g bd tc te cap)):=by
 with_unfolding_all exact PS.imp (SR (g:=gM X.K bd) (tc:=qN X.K tc) (te:=tM X.K te) hc hN Jk hy hi hcl hcell hkind hnames hcap hg ht he hsw hs) fun D σ H zz=>by obtain⟨ρ,l,h,r,S,L,e,k⟩:=zz;obtain⟨⟨d1,h1⟩,e1,e⟩:=nA e;cases e;exact qP (X:=X) true S L e1 fun ρ1 v H1 R1 S1 E1=>k ρ1 _ H1 S1 ((L.ext E1).set i R1) E1
end
end SM
namespace L2
section
variable{X:Cx}{elt iter tg:Expr}{ifs:List Expr}{scope:Scope}{cl:List (Str×Addr)}{pos:Pos}{Nc:List Str}{wi:TI}{g:TG}{tc:TT}{te:TE}{cap:List (Option Nat)}{x0:Str}
end
end L2
namespace SM
section
variable{X:Cx}{elt iter tg:Expr}{ifs:List Expr}{scope:Scope}{cl:List (Str×Addr)}{pos:Pos}{Nc:List Str}{g:RI}{bd:RG}{tc:RT}{te:RE}{cap:List (Option Nat)}{x0:Str}
end
mutual
noncomputable def MA:Dt->Bool
 | .tup xs=>mC xs
 | .lst xs=>mC xs
 | .ref _=>false
 | .jz _=>false
 | .err _ _ _=>false
 | .thr _ _ _=>false
 | _=>true
noncomputable def mC:List Dt->Bool
 | []=>true
 | x::xs=>MA x&&mC xs
end
mutual
noncomputable def oE:Dt->Nat
 | .tup xs=>uC xs+1
 | .lst xs=>uC xs+1
 | _=>0
noncomputable def uC:List Dt->Nat
 | []=>0
 | x::xs=>max (oE x) (uC xs)
end
mutual
noncomputable def bC:Dt->Dt->Bool
 | .non,.non=>true
 | .bl a,.bl b=>a==b
 | .bl a,.int b=>(if a then 1 else 0)==b
 | .int a,.bl b=>a==(if b then 1 else 0)
 | .int a,.int b=>a==b
 | .str a,.str b=>a==b
 | .tup xs,.tup ys=>IC xs ys
 | .lst xs,.lst ys=>IC xs ys
 | _,_=>false
noncomputable def IC:List Dt->List Dt->Bool
 | [],[]=>true
 | x::xs,y::ys=>bC x y&&IC xs ys
 | _,_=>false
end
mutual
theorem FP:∀d:Dt,MA d=true->bC d d=true
 | .non,_=>by simp only[bC]
 | .bl b,_=>by simp only[bC,beq_self_eq_true]
 | .int i,_=>by simp only[bC,beq_self_eq_true]
 | .str x,_=>by simp only[bC,beq_self_eq_true]
 | .tup xs,h=>by simp only[bC];exact gL xs (by simpa only[MA]using h)
 | .lst xs,h=>by simp only[bC];exact gL xs (by simpa only[MA]using h)
 | .ref _,h=>by simp[MA]at h
 | .jz _,h=>by simp[MA]at h
 | .err _ _ _,h=>by simp[MA]at h
 | .thr _ _ _,h=>by simp[MA]at h
theorem gL:∀ds:List Dt,mC ds=true->IC ds ds=true
 | [],_=>by simp only[IC]
 | d::ds,h=>by simp only[mC,Bool.and_eq_true]at h;simp only[IC,Bool.and_eq_true];exact⟨FP d h.1,gL ds h.2⟩
end
section
variable{X:Cx}{pins:List (Addr×Obj)}{σ:L2.St}{H:Hp}{s:Shared}{ρ:Rg}
mutual
theorem YL(I:Inv X pins σ H s):∀(d d':Dt){v:V},MA d=true->MA d'=true->lq X.K H ρ d v->lq X.K H ρ d' v->d=d'
 | .non,d',v,_,p,r,r'=>by
  have e:=yq.mp r;subst e;cases d' with
  | non=>rfl
  | bl b=>have:=pq.mp r';cases this
  | int b=>have:=gq.mp r';cases this
  | str b=>have:=jq.mp r';cases this
  | tup b=>obtain⟨_,_,z,_⟩:=xq.mp r';cases z
  | lst b=>obtain⟨_,_,z,_⟩:=vq.mp r';cases z
  | ref b=>obtain⟨_,z,_⟩:=Hq.mp r';cases z
  | jz b=>obtain⟨_,z,_⟩:=Qx.mp r';cases z
  | err b c d=>obtain⟨_,_,_,z,_⟩:=bx.mp r';cases z
  | thr b c d=>exact(Gx.mp r').elim
 | .bl i,d',v,_,p,r,r'=>by
  have e:=pq.mp r;subst e;cases d' with
  | non=>have:=yq.mp r';cases this
  | bl b=>have:=pq.mp r';cases this;rfl
  | int b=>have:=gq.mp r';cases this
  | str b=>have:=jq.mp r';cases this
  | tup b=>obtain⟨_,_,z,_⟩:=xq.mp r';cases z
  | lst b=>obtain⟨_,_,z,_⟩:=vq.mp r';cases z
  | ref b=>obtain⟨_,z,_⟩:=Hq.mp r';cases z
  | jz b=>obtain⟨_,z,_⟩:=Qx.mp r';cases z
  | err b c d=>obtain⟨_,_,_,z,_⟩:=bx.mp r';cases z
  | thr b c d=>exact(Gx.mp r').elim
 | .int i,d',v,_,p,r,r'=>by
  have e:=gq.mp r;subst e;cases d' with
  | non=>have:=yq.mp r';cases this
  | bl b=>have:=pq.mp r';cases this
  | int b=>have:=gq.mp r';cases this;rfl
  | str b=>have:=jq.mp r';cases this
  | tup b=>obtain⟨_,_,z,_⟩:=xq.mp r';cases z
  | lst b=>obtain⟨_,_,z,_⟩:=vq.mp r';cases z
  | ref b=>obtain⟨_,z,_⟩:=Hq.mp r';cases z
  | jz b=>obtain⟨_,z,_⟩:=Qx.mp r';cases z
  | err b c d=>obtain⟨_,_,_,z,_⟩:=bx.mp r';cases z
  | thr b c d=>exact(Gx.mp r').elim
 | .str i,d',v,_,p,r,r'=>by
  have e:=jq.mp r;subst e;cases d' with
  | non=>have:=yq.mp r';cases this
  | bl b=>have:=pq.mp r';cases this
  | int b=>have:=gq.mp r';cases this
  | str b=>have:=jq.mp r';cases this;rfl
  | tup b=>obtain⟨_,_,z,_⟩:=xq.mp r';cases z
  | lst b=>obtain⟨_,_,z,_⟩:=vq.mp r';cases z
  | ref b=>obtain⟨_,z,_⟩:=Hq.mp r';cases z
  | jz b=>obtain⟨_,z,_⟩:=Qx.mp r';cases z
  | err b c d=>obtain⟨_,_,_,z,_⟩:=bx.mp r';cases z
  | thr b c d=>exact(Gx.mp r').elim
 | .tup xs,d',v,p0,p,r,r'=>by
  obtain⟨a,vs,e,q,rs⟩:=xq.mp r;subst e;cases d' with
  | non=>have:=yq.mp r';cases this
  | bl b=>have:=pq.mp r';cases this
  | int b=>have:=gq.mp r';cases this
  | str b=>have:=jq.mp r';cases this
  | tup ys=>obtain⟨b,ws,z,q',rs'⟩:=xq.mp r';cases z;have ee:=I.Kv q.sq q'.sq;subst ee;rw[LP I xs ys (by simpa only[MA]using p0) (by simpa only[MA]using p) rs rs']
  | lst ys=>
   obtain⟨b,ws,z,q',rs'⟩:=vq.mp r';cases z;obtain⟨_,_,⟨o,e1,e2,_⟩,_⟩:=I.tuple q.sq;obtain⟨_,_,⟨o',_,e1',e2',_⟩,_⟩:=I.list q'.sq;rw[e1]at e1';cases e1';rw[e2]at e2';injection e2' with e3
   exact absurd e3 (by decide)
  | ref b=>simp[MA]at p
  | jz b=>simp[MA]at p
  | err b c d=>simp[MA]at p
  | thr b c d=>simp[MA]at p
 | .lst xs,d',v,p0,p,r,r'=>by
  obtain⟨a,vs,e,q,rs⟩:=vq.mp r;subst e;cases d' with
  | non=>have:=yq.mp r';cases this
  | bl b=>have:=pq.mp r';cases this
  | int b=>have:=gq.mp r';cases this
  | str b=>have:=jq.mp r';cases this
  | lst ys=>obtain⟨b,ws,z,q',rs'⟩:=vq.mp r';cases z;have ee:=I.wz q.sq q'.sq;subst ee;rw[LP I xs ys (by simpa only[MA]using p0) (by simpa only[MA]using p) rs rs']
  | tup ys=>
   obtain⟨b,ws,z,q',rs'⟩:=xq.mp r';cases z;obtain⟨_,_,⟨o,e1,e2,_⟩,_⟩:=I.tuple q'.sq;obtain⟨_,_,⟨o',_,e1',e2',_⟩,_⟩:=I.list q.sq;rw[e1]at e1';cases e1';rw[e2]at e2';injection e2' with e3
   exact absurd e3 (by decide)
  | ref b=>simp[MA]at p
  | jz b=>simp[MA]at p
  | err b c d=>simp[MA]at p
  | thr b c d=>simp[MA]at p
 | .ref _,_,_,p,_,_,_=>by simp[MA]at p
 | .jz _,_,_,p,_,_,_=>by simp[MA]at p
 | .err _ _ _,_,_,p,_,_,_=>by simp[MA]at p
 | .thr _ _ _,_,_,p,_,_,_=>by simp[MA]at p
theorem LP(I:Inv X pins σ H s):∀(ds ds':List Dt){vs:List V},mC ds=true->mC ds'=true->aq X.K H ρ ds vs->aq X.K H ρ ds' vs->ds=ds'
 | [],[],_,_,_,_,_=>rfl
 | [],d'::ds',_,_,_,r,r'=>by rw[r.Pq]at r';obtain⟨_,_,z,_⟩:=r'.Bq;cases z
 | d::ds,[],_,_,_,r,r'=>by rw[r'.Pq]at r;obtain⟨_,_,z,_⟩:=r.Bq;cases z
 | d::ds,d'::ds',_,p,p',r,r'=>by simp only[mC,Bool.and_eq_true]at p p';obtain⟨v,vs,e,r1,r2⟩:=r.Bq;subst e;obtain⟨v',vs',e,r1',r2'⟩:=r'.Bq;cases e;rw[YL I d d' p.1 p'.1 r1 r1',LP I ds ds' p.2 p'.2 r2 r2']
end
def jF(xs ys:List Dt)(j:Nat):Bool:=match xs[j]?,ys[j]? with
 | some x,some y=>bC x y
 | _,_=>false
theorem jH:∀(xs ys:List Dt),xs.length=ys.length->(List.range xs.length).all (jF xs ys)=IC xs ys
 | [],[],_=>by simp[IC]
 | [],_::_,h=>by simp at h
 | _::_,[],h=>by simp at h
 | x::xs,y::ys,h=>by have ih:=jH xs ys (by simpa using h);rw[Zd,range_succ_eq_map,all_cons,all_map];simp only[IC];rw[<- ih];rfl
theorem iH:∀(xs ys:List Dt),xs.length≠ys.length->IC xs ys=false
 | [],[],h=>absurd rfl h
 | [],_::_,_=>by simp only[IC]
 | _::_,[],_=>by simp only[IC]
 | x::xs,y::ys,h=>by simp only[IC];rw[iH xs ys (fun z=>h (by simp[z])),Bool.and_false]
theorem CJ(A:Around):A.in1.units<=A.units+1:=by first | exact Uc _ | simp[Around.in1]
theorem ID{h:Heap}{a:Addr}{its:Array Value}(p:IsTup h a its):h.IsTuple a its:=by obtain⟨o,h1,h2,n,h3⟩:=p;exact⟨o,h1,h2,n,h3⟩
mutual
theorem mU(I:Inv X pins σ H s):∀(d d':Dt){v v':V}{u u':Value}(A:Around),MA d=true->MA d'=true->A.units+oE d<cLine->lq X.K H ρ d v->lq X.K H ρ d' v'->RelV v u->RelV v' u'->SeqAt.EqAt A s u u' (bC d d')
 | .tup xs,d',v,v',u,u',A,p,p',hu,r,r',q,q'=>by
  obtain⟨a,vs,e,t,rs⟩:=xq.mp r;subst e;cases q;simp only[oE]at hu;have hu0:A.units<cLine:=by omega
  obtain⟨its,rv,tp,_⟩:=I.tuple t.sq;cases d' with
  | non=>cases yq.mp r';cases q';simpa only[bC]using SeqAt.EqAt.tuple_none (ID tp) hu0
  | bl b=>cases pq.mp r';cases q';simpa only[bC]using SeqAt.EqAt.tuple_bool b (ID tp) hu0
  | int b=>cases gq.mp r';obtain⟨t',rfl⟩:=q';simpa only[bC]using SeqAt.EqAt.tuple_int b t' (ID tp) hu0
  | str b=>cases jq.mp r';obtain⟨t',rfl⟩:=q';simpa only[bC]using SeqAt.EqAt.tuple_str b t' (ID tp) hu0
  | lst ys=>obtain⟨b,ws,e,t',rs'⟩:=vq.mp r';subst e;cases q';obtain⟨its',rv',Hx,_⟩:=I.list t'.sq;simpa only[bC]using SeqAt.EqAt.tuple_list (ID tp) Hx.isList hu0
  | tup ys=>
   obtain⟨b,ws,e,t',rs'⟩:=xq.mp r';subst e;cases q';obtain⟨its',rv',Hx,_⟩:=I.tuple t'.sq;by_cases hab:a=b
   · subst hab;have e:=YL I (.tup xs) (.tup ys) p p' r r';rw[<- e,FP _ p];exact SeqAt.EqAt.same _
   · refine .of_refs hab ?_;have l1:its.length=xs.length:=by rw[<- rv.length,rs.length]
     have l2:its'.length=ys.length:=by rw[<- rv'.length,rs'.length]
     have ih:=KL I xs ys A.in1 (by simpa only[MA]using p) (by simpa only[MA]using p') (by have:=CJ A;omega) rs rs' rv rv';have z:=SeqAt.RcAt.tuples (e:=jF xs ys) (ID tp) (ID Hx) hu0 fun j h1 h2=>by rw[size_toArray]at h1 h2;simpa using ih j h1 h2
     rw[size_toArray,size_toArray,l1,l2]at z;simp only[bC];by_cases hl:xs.length=ys.length
     · rw[<- hl,Nat.min_self,jH xs ys hl,beq_self_eq_true,Bool.and_true]at z;exact z
     · rw[iH xs ys hl];have hb:(xs.length==ys.length)=false:=by simpa using hl
       rw[hb,Bool.and_false]at z;exact z
  | ref b=>simp[MA]at p'
  | jz b=>simp[MA]at p'
  | err b c d=>simp[MA]at p'
  | thr b c d=>simp[MA]at p'
 | .lst xs,d',v,v',u,u',A,p,p',hu,r,r',q,q'=>by
  obtain⟨a,vs,e,t,rs⟩:=vq.mp r;subst e;cases q;simp only[oE]at hu;have hu0:A.units<cLine:=by omega
  obtain⟨its,rv,tp,_⟩:=I.list t.sq;cases d' with
  | non=>cases yq.mp r';cases q';simpa only[bC]using SeqAt.EqAt.list_none tp.isList hu0
  | bl b=>cases pq.mp r';cases q';simpa only[bC]using SeqAt.EqAt.list_bool b tp.isList hu0
  | int b=>cases gq.mp r';obtain⟨t',rfl⟩:=q';simpa only[bC]using SeqAt.EqAt.list_int b t' tp.isList hu0
  | str b=>cases jq.mp r';obtain⟨t',rfl⟩:=q';simpa only[bC]using SeqAt.EqAt.list_str b t' tp.isList hu0
  | tup ys=>obtain⟨b,ws,e,t',rs'⟩:=xq.mp r';subst e;cases q';obtain⟨its',rv',Hx,_⟩:=I.tuple t'.sq;simpa only[bC]using SeqAt.EqAt.list_tuple tp.isList (ID Hx) hu0
  | lst ys=>
   obtain⟨b,ws,e,t',rs'⟩:=vq.mp r';subst e;cases q';obtain⟨its',rv',Hx,_⟩:=I.list t'.sq;by_cases hab:a=b
   · subst hab;have e:=YL I (.lst xs) (.lst ys) p p' r r';rw[<- e,FP _ p];exact SeqAt.EqAt.same _
   · refine .of_refs hab ?_;have l1:its.length=xs.length:=by rw[<- rv.length,rs.length]
     have l2:its'.length=ys.length:=by rw[<- rv'.length,rs'.length]
     simp only[bC];by_cases hl:xs.length=ys.length
     · have ih:=KL I xs ys A.in1 (by simpa only[MA]using p) (by simpa only[MA]using p') (by have:=CJ A;omega) rs rs' rv rv';have z:=SeqAt.RcAt.lists (e:=jF xs ys) tp.isList Hx.isList (by rw[size_toArray,size_toArray,l1,l2,hl]) hu0 fun j h1 h2=>by rw[size_toArray]at h1 h2;simpa using ih j h1 h2
       rw[size_toArray,l1,jH xs ys hl]at z;exact z
     · rw[iH xs ys hl];exact SeqAt.RcAt.lists_lengths tp.isList Hx.isList (by rw[size_toArray,size_toArray,l1,l2];simpa using hl) hu0
  | ref b=>simp[MA]at p'
  | jz b=>simp[MA]at p'
  | err b c d=>simp[MA]at p'
  | thr b c d=>simp[MA]at p'
 | .ref _,_,_,_,_,_,_,p,_,_,_,_,_,_=>by simp[MA]at p
 | .jz _,_,_,_,_,_,_,p,_,_,_,_,_,_=>by simp[MA]at p
 | .err _ _ _,_,_,_,_,_,_,p,_,_,_,_,_,_=>by simp[MA]at p
 | .thr _ _ _,_,_,_,_,_,_,p,_,_,_,_,_,_=>by simp[MA]at p
 | .non,d',v,v',u,u',A,p,p',hu,r,r',q,q'=>by
  cases yq.mp r;cases q;have hu0:A.units<cLine:=by omega
  cases d' with
  | non=>cases yq.mp r';cases q';simp only[bC];exact SeqAt.EqAt.same _
  | bl b=>cases pq.mp r';cases q';simpa only[bC]using SeqAt.EqAt.none_bool b
  | int b=>cases gq.mp r';obtain⟨t',rfl⟩:=q';simpa only[bC]using SeqAt.EqAt.none_int b t'
  | str b=>cases jq.mp r';obtain⟨t',rfl⟩:=q';simpa only[bC]using SeqAt.EqAt.none_str b t'
  | tup ys=>obtain⟨b,ws,e,t',rs'⟩:=xq.mp r';subst e;cases q';obtain⟨its',rv',Hx,_⟩:=I.tuple t'.sq;simpa only[bC]using SeqAt.EqAt.none_tuple (ID Hx) hu0
  | lst ys=>obtain⟨b,ws,e,t',rs'⟩:=vq.mp r';subst e;cases q';obtain⟨its',rv',Hx,_⟩:=I.list t'.sq;simpa only[bC]using SeqAt.EqAt.none_list Hx.isList hu0
  | ref b=>simp[MA]at p'
  | jz b=>simp[MA]at p'
  | err b c d=>simp[MA]at p'
  | thr b c d=>simp[MA]at p'
 | .bl i,d',v,v',u,u',A,p,p',hu,r,r',q,q'=>by
  cases pq.mp r;cases q;have hu0:A.units<cLine:=by omega
  cases d' with
  | non=>cases yq.mp r';cases q';simpa only[bC]using SeqAt.EqAt.bool_none i
  | bl b=>cases pq.mp r';cases q';simpa only[bC]using SeqAt.EqAt.bool_bool i b
  | int b=>cases gq.mp r';obtain⟨t',rfl⟩:=q';simpa only[bC]using SeqAt.EqAt.bool_int i b t'
  | str b=>cases jq.mp r';obtain⟨t',rfl⟩:=q';simpa only[bC]using SeqAt.EqAt.bool_str i b t'
  | tup ys=>obtain⟨b,ws,e,t',rs'⟩:=xq.mp r';subst e;cases q';obtain⟨its',rv',Hx,_⟩:=I.tuple t'.sq;simpa only[bC]using SeqAt.EqAt.bool_tuple i (ID Hx) hu0
  | lst ys=>obtain⟨b,ws,e,t',rs'⟩:=vq.mp r';subst e;cases q';obtain⟨its',rv',Hx,_⟩:=I.list t'.sq;simpa only[bC]using SeqAt.EqAt.bool_list i Hx.isList hu0
  | ref b=>simp[MA]at p'
  | jz b=>simp[MA]at p'
  | err b c d=>simp[MA]at p'
  | thr b c d=>simp[MA]at p'
 | .int i,d',v,v',u,u',A,p,p',hu,r,r',q,q'=>by
  cases gq.mp r;obtain⟨ti,rfl⟩:=q;have hu0:A.units<cLine:=by omega
  cases d' with
  | non=>cases yq.mp r';cases q';simpa only[bC]using SeqAt.EqAt.int_none i ti
  | bl b=>cases pq.mp r';cases q';simpa only[bC]using SeqAt.EqAt.int_bool i ti b
  | int b=>cases gq.mp r';obtain⟨t',rfl⟩:=q';simpa only[bC]using SeqAt.EqAt.int_int i ti b t'
  | str b=>cases jq.mp r';obtain⟨t',rfl⟩:=q';simpa only[bC]using SeqAt.EqAt.int_str i ti b t'
  | tup ys=>obtain⟨b,ws,e,t',rs'⟩:=xq.mp r';subst e;cases q';obtain⟨its',rv',Hx,_⟩:=I.tuple t'.sq;simpa only[bC]using SeqAt.EqAt.int_tuple i ti (ID Hx) hu0
  | lst ys=>obtain⟨b,ws,e,t',rs'⟩:=vq.mp r';subst e;cases q';obtain⟨its',rv',Hx,_⟩:=I.list t'.sq;simpa only[bC]using SeqAt.EqAt.int_list i ti Hx.isList hu0
  | ref b=>simp[MA]at p'
  | jz b=>simp[MA]at p'
  | err b c d=>simp[MA]at p'
  | thr b c d=>simp[MA]at p'
 | .str i,d',v,v',u,u',A,p,p',hu,r,r',q,q'=>by
  cases jq.mp r;obtain⟨ti,rfl⟩:=q;have hu0:A.units<cLine:=by omega
  cases d' with
  | non=>cases yq.mp r';cases q';simpa only[bC]using SeqAt.EqAt.str_none i ti
  | bl b=>cases pq.mp r';cases q';simpa only[bC]using SeqAt.EqAt.str_bool i ti b
  | int b=>cases gq.mp r';obtain⟨t',rfl⟩:=q';simpa only[bC]using SeqAt.EqAt.str_int i ti b t'
  | str b=>cases jq.mp r';obtain⟨t',rfl⟩:=q';simpa only[bC]using SeqAt.EqAt.str_str i ti b t'
  | tup ys=>obtain⟨b,ws,e,t',rs'⟩:=xq.mp r';subst e;cases q';obtain⟨its',rv',Hx,_⟩:=I.tuple t'.sq;simpa only[bC]using SeqAt.EqAt.str_tuple i ti (ID Hx) hu0
  | lst ys=>obtain⟨b,ws,e,t',rs'⟩:=vq.mp r';subst e;cases q';obtain⟨its',rv',Hx,_⟩:=I.list t'.sq;simpa only[bC]using SeqAt.EqAt.str_list i ti Hx.isList hu0
  | ref b=>simp[MA]at p'
  | jz b=>simp[MA]at p'
  | err b c d=>simp[MA]at p'
  | thr b c d=>simp[MA]at p'
theorem KL(I:Inv X pins σ H s):∀(xs ys:List Dt){vs vs':List V}{us us':List Value}(A:Around),mC xs=true->mC ys=true->A.units+uC xs<cLine->aq X.K H ρ xs vs->aq X.K H ρ ys vs'->Vals vs us->Vals vs' us'->
 ∀(j:Nat)(h1:j<us.length)(h2:j<us'.length),SeqAt.EqAt A s us[j] us'[j] (jF xs ys j)
 | [],_,_,_,_,_,_,_,_,_,r,_,q,_,_,h1,_=>by rw[r.Pq]at q;cases q;exact absurd h1 (by simp)
 | _::_,[],_,_,_,_,_,_,_,_,_,r',_,q',_,_,h2=>by rw[r'.Pq]at q';cases q';exact absurd h2 (by simp)
 | x::xs,y::ys,vs,vs',us,us',A,p,p',hu,r,r',q,q',j,h1,h2=>by
  simp only[mC,Bool.and_eq_true]at p p';simp only[uC]at hu;obtain⟨v,r0,e,a1,a2⟩:=r.Bq;subst e;obtain⟨v',Vd,e,b1,b2⟩:=r'.Bq;subst e;cases q with
  | cons q1 q2=>
   cases q' with
   | cons Ad Bd=>
    cases j with
    | zero=>exact mU I x y A p.1 p'.1 (by omega) a1 b1 q1 Ad
    | succ j=>have ih:=KL I xs ys A p.2 p'.2 (by omega) a2 b2 q2 Bd j (by simpa using h1) (by simpa using h2);simpa[jF]using ih
end
end
section
variable{X:Cx}{a b c e:Expr}{es:List Expr}{fa fb fc f:RE}{g:RA}{p p2 pos:Pos}
def iE(xs ys:List Dt):Bool:=mC xs&&mC ys&&decide (uC xs<=50)
def QA:GC:=fun a b h=>match a,b with
 | .tup xs,.tup ys=>if iE xs ys=true then some (.bl (IC xs ys),h)else none
 | .lst xs,.lst ys=>if iE xs ys=true then some (.bl (IC xs ys),h)else none
 | a,b=>gR a b h
def tD:GC:=fun a b h=>match a,b with
 | .tup xs,.tup ys=>if iE xs ys=true then some (.bl (!IC xs ys),h)else none
 | .lst xs,.lst ys=>if iE xs ys=true then some (.bl (!IC xs ys),h)else none
 | a,b=>iR a b h
theorem mL{pins:List (Addr×Obj)}{σ:L2.St}{H:Hp}{s:Shared}{ρ:Rg}{xs ys:List Dt}{vs ws:List V}{its its':List Value}(I:Inv X pins σ H s)(hu:X.A.units+64<cLine)(ok:iE xs ys=true)(rs:aq X.K H ρ xs vs)(rs':aq X.K H ρ ys ws)(rv:Vals vs its)(rv':Vals ws its') :
 ∀(j:Nat)(h1:j<its.toArray.size)(h2:j<its'.toArray.size),SeqAt.EqAt X.A.in1 s its.toArray[j] its'.toArray[j] (jF xs ys j):=fun j h1 h2=>by
 simp only[iE,Bool.and_eq_true,decide_eq_true_eq]at ok;rw[size_toArray]at h1 h2;have:=KL I xs ys X.A.in1 ok.1.1 ok.1.2 (by have:=CJ X.A;omega) rs rs' rv rv' j h1 h2;simpa using this
theorem zB(hu:X.A.units+64<cLine):OM X (compareOp .Eq) QA:=by
 with_unfolding_all
  intro pins s σ H x y v u Q I rx ry h;obtain⟨ρ,h,d1,d2,d,h',S,R1,R2,e,k⟩:=h;unfold QA at e;split at e
  · rename_i xs ys;obtain⟨ok,e⟩:=QD e;cases e;obtain⟨a,vs,z,t,rs⟩:=xq.mp R1;obtain⟨b,ws,z',t',rs'⟩:=xq.mp R2;subst z z';cases rx;cases ry;obtain⟨its,rv,tp,_⟩:=I.tuple t.sq;obtain⟨its',rv',Hx,_⟩:=I.tuple t'.sq;have l1:its.length=xs.length:=by rw[<- rv.length,rs.length]
    have l2:its'.length=ys.length:=by rw[<- rv'.length,rs'.length]
    refine SeqAt.eq_tupleAt (e:=jF xs ys) (ID tp) (ID Hx) (by omega) (mL I hu ok rs rs' rv rv') ?_;refine⟨.bl _,H,I,rfl,k ρ _ H (pq.mpr (congrArg V.bl ?_)) S (Ext.refl _ _)⟩;rw[size_toArray,size_toArray,l1,l2];by_cases hl:xs.length=ys.length
    · rw[<- hl,Nat.min_self,jH xs ys hl,beq_self_eq_true,Bool.and_true]
    · have hb:(xs.length==ys.length)=false:=by simpa using hl
      rw[iH xs ys hl,hb,Bool.and_false]
  · rename_i xs ys;obtain⟨ok,e⟩:=QD e;cases e;obtain⟨a,vs,z,t,rs⟩:=vq.mp R1;obtain⟨b,ws,z',t',rs'⟩:=vq.mp R2;subst z z';cases rx;cases ry;obtain⟨its,rv,tp,_⟩:=I.list t.sq;obtain⟨its',rv',Hx,_⟩:=I.list t'.sq;have l1:its.length=xs.length:=by rw[<- rv.length,rs.length]
    have l2:its'.length=ys.length:=by rw[<- rv'.length,rs'.length]
    by_cases hl:xs.length=ys.length
    · refine SeqAt.eq_listAt (e:=jF xs ys) tp.isList Hx.isList (by rw[size_toArray,size_toArray,l1,l2,hl]) (by omega) (mL I hu ok rs rs' rv rv') ?_;refine⟨.bl _,H,I,rfl,k ρ _ H (pq.mpr (congrArg V.bl ?_)) S (Ext.refl _ _)⟩;rw[size_toArray,l1,jH xs ys hl]
    · refine SeqAt.eq_list_lengthsAt tp.isList Hx.isList (by rw[size_toArray,size_toArray,l1,l2];simpa using hl) (by omega) ?_;exact⟨.bl _,H,I,rfl,k ρ _ H (pq.mpr (by rw[iH xs ys hl])) S (Ext.refl _ _)⟩
  · exact U8 pins s σ H x y v u Q I rx ry ⟨ρ,h,d1,d2,d,h',S,R1,R2,e,k⟩
theorem vH(hu:X.A.units+64<cLine):OM X (compareOp .NotEq) tD:=by
 with_unfolding_all
  intro pins s σ H x y v u Q I rx ry h;obtain⟨ρ,h,d1,d2,d,h',S,R1,R2,e,k⟩:=h;unfold tD at e;split at e
  · rename_i xs ys;obtain⟨ok,e⟩:=QD e;cases e;obtain⟨a,vs,z,t,rs⟩:=xq.mp R1;obtain⟨b,ws,z',t',rs'⟩:=xq.mp R2;subst z z';cases rx;cases ry;obtain⟨its,rv,tp,_⟩:=I.tuple t.sq;obtain⟨its',rv',Hx,_⟩:=I.tuple t'.sq;have l1:its.length=xs.length:=by rw[<- rv.length,rs.length]
    have l2:its'.length=ys.length:=by rw[<- rv'.length,rs'.length]
    refine QY (e:=jF xs ys) (ID tp) (ID Hx) (by omega) (mL I hu ok rs rs' rv rv') ?_;refine⟨.bl _,H,I,rfl,k ρ _ H (pq.mpr (congrArg V.bl ?_)) S (Ext.refl _ _)⟩;rw[size_toArray,size_toArray,l1,l2];by_cases hl:xs.length=ys.length
    · rw[<- hl,Nat.min_self,jH xs ys hl,beq_self_eq_true,Bool.and_true]
    · have hb:(xs.length==ys.length)=false:=by simpa using hl
      rw[iH xs ys hl,hb,Bool.and_false]
  · rename_i xs ys;obtain⟨ok,e⟩:=QD e;cases e;obtain⟨a,vs,z,t,rs⟩:=vq.mp R1;obtain⟨b,ws,z',t',rs'⟩:=vq.mp R2;subst z z';cases rx;cases ry;obtain⟨its,rv,tp,_⟩:=I.list t.sq;obtain⟨its',rv',Hx,_⟩:=I.list t'.sq;have l1:its.length=xs.length:=by rw[<- rv.length,rs.length]
    have l2:its'.length=ys.length:=by rw[<- rv'.length,rs'.length]
    by_cases hl:xs.length=ys.length
    · refine N1 (e:=jF xs ys) tp.isList Hx.isList (by rw[size_toArray,size_toArray,l1,l2,hl]) (by omega) (mL I hu ok rs rs' rv rv') ?_;refine⟨.bl _,H,I,rfl,k ρ _ H (pq.mpr (congrArg V.bl ?_)) S (Ext.refl _ _)⟩;rw[size_toArray,l1,jH xs ys hl]
    · refine iX tp.isList Hx.isList (by rw[size_toArray,size_toArray,l1,l2];simpa using hl) (by omega) ?_;exact⟨.bl _,H,I,rfl,k ρ _ H (pq.mpr (by rw[iH xs ys hl];rfl)) S (Ext.refl _ _)⟩
  · exact X8 pins s σ H x y v u Q I rx ry ⟨ρ,h,d1,d2,d,h',S,R1,R2,e,k⟩
def JE:List Dt->Option (List V)
 | []=>some []
 | d::ds=>(mD d).bind fun v=>(JE ds).map fun vs=>v::vs
theorem BS{K:Frag}{H:Hp}{ρ:Rg}:∀{ds:List Dt}{ws vs:List V},JE ds=some ws->aq K H ρ ds vs->vs=ws
 | [],_,_,e,r=>by simp only[JE]at e;cases e;exact r.Pq
 | d::ds,_,_,e,r=>by
  simp only[JE]at e;obtain⟨v,e1,e⟩:=nA e;cases q:JE ds with
  | none=>rw[q]at e;cases e
  | some vs=>rw[q]at e;cases e;obtain⟨v',r',z,r1,r2⟩:=r.Bq;subst z;rw[lI e1 r1,BS q r2]
theorem pU{d:Dt}{v:V}(e:mD d=some v):AF v=true:=by cases d<;>simp only[mD]at e<;>first | (cases e;rfl) | cases e
theorem CT:∀{ds:List Dt}{ws:List V},JE ds=some ws->ws.all AF=true
 | [],_,e=>by simp only[JE]at e;cases e;rfl
 | d::ds,_,e=>by
  simp only[JE]at e;obtain⟨v,e1,e⟩:=nA e;cases q:JE ds with
  | none=>rw[q]at e;cases e
  | some vs=>rw[q]at e;cases e;rw[all_cons,pU e1,CT q];rfl
def oK(neg:Bool):GC:=fun a b h=>(mD a).bind fun x=>(MF h b).bind fun ys=>(JE ys).bind fun zs=>some (.bl (if neg then !PQ x zs else PQ x zs),h)
theorem FT{neg:Bool}{x y:V}{H:Hp}{Q:VK}(h:rM X.K (oK neg) x y H Q):eW X.K neg x y H Q:=by obtain⟨ρ,h,d1,d2,d,h',S,R1,R2,e,k⟩:=h;obtain⟨x',e1,e⟩:=nA e;obtain⟨ys,e2,e⟩:=nA e;obtain⟨zs,e3,e⟩:=nA e;cases e;obtain⟨p,vs,e4,sq,r⟩:=dQ S R2 e2;have e5:=BS e3 r;subst e5;have e6:=lI e1 R1;subst e6;exact⟨p,vs,e4,sq,pU e1,CT e3,k ρ _ H (pq.mpr rfl) S (Ext.refl _ _)⟩
theorem W8:OM X (compareOp .In) (oK false):=by with_unfolding_all exact Vq.imp DZ fun _ _ _ _ h=>FT h
theorem AL:OM X (compareOp .NotIn) (oK true):=by with_unfolding_all exact Vq.imp jX fun _ _ _ _ h=>FT h
def pC:GC:=fun a b h=>(uA h a).bind fun xs=>(uA h b).bind fun ys=>if xs.length+ys.length<=sizeLine then some (.lst (xs++ys),h)else none
def xM:GC:=fun a b h=>(uA h a).bind fun xs=>(uA h b).bind fun ys=>if xs.length+ys.length<=sizeLine then some (.ref h.length,h++[.lst (xs++ys)])else none
theorem yD:OM X (binaryOp .Add) pC:=by with_unfolding_all exact Vq.imp ST fun x y H Q zz=>by obtain⟨ρ,h,d1,d2,d,h',S,R1,R2,e,k⟩:=zz;obtain⟨xs,e1,e⟩:=nA e;obtain⟨ys,e2,e⟩:=nA e;obtain⟨hz,e⟩:=QD e;cases e;obtain⟨l,vs,z1,q1,r1⟩:=tE S R1 e1;obtain⟨b,ws,z2,q2,r2⟩:=tE S R2 e2;exact⟨l,b,vs,ws,z1,z2,q1,q2,by rw[r1.length,r2.length];exact hz,fun p hp=>k ρ _ _ (QJ S (r1.append r2) hp) (S.fresh hp) (Ext.fresh hp)⟩
theorem M5:OM X (binaryOp .Add) xM:=by with_unfolding_all exact Vq.imp ST fun x y H Q zz=>by obtain⟨ρ,h,d1,d2,d,h',S,R1,R2,e,k⟩:=zz;obtain⟨xs,e1,e⟩:=nA e;obtain⟨ys,e2,e⟩:=nA e;obtain⟨hz,e⟩:=QD e;cases e;obtain⟨l,vs,z1,q1,r1⟩:=tE S R1 e1;obtain⟨b,ws,z2,q2,r2⟩:=tE S R2 e2;exact⟨l,b,vs,ws,z1,z2,q1,q2,by rw[r1.length,r2.length];exact hz,fun p hp=>k _ _ _ (DI S (r1.append r2) hp).1 (DI S (r1.append r2) hp).2 (Ext.own hp)⟩
noncomputable def HC(F:Dt->HI->Option (Dt×HI))(f:RE):RE:=fun l h=>(f l h).bind fun r=>F r.1 r.2
theorem GQ{x:Str}{id:String}{r:List V->Hp->VK->Prop}{F:Dt->HI->Option (Dt×HI)}(hc:Oq X (.builtin id) r)(hF:∀ρ h d v d' h' H Q,uq X.K ρ h H->lq X.K H ρ d v->F d h=some (d',h')->Out X.K ρ H d' h' Q->r [v] H Q)
 (hg:Gl X x) (hm:X.mg x=none) (hv:bootBuiltins x=some (.builtin id)) (ha:EM X e f) (hn:x ≠ "__name__" :=by decide) (hdb:(x==("__debug__" :Str))=false:=by decide) (hs:CB e=true:=by rfl) :
 EM X (.Call (.Name x p) [e] [] pos) (HC F f):=by
 with_unfolding_all exact PE.imp (BL hc hg hm hv (RC ha MD (HB hs _ _)) hn hdb (he:=HB hs _ _)) fun σ H Q zz=>by obtain⟨ρ,l,h,d,h',S,L,e,k⟩:=zz;obtain⟨⟨d1,h1⟩,e1,e⟩:=nA e;exact⟨ρ,l,h,d1,h1,S,L,e1,fun ρ1 v H1 R1 S1 E1=>hF ρ1 h1 d1 v d h' H1 Q S1 R1 e (k.ext E1)⟩
theorem HQ{x:Str}{T:String}{r:List V->Hp->VK->Prop}{F:Dt->HI->Option (Dt×HI)}(hc:Oq X (.type T) r)(hF:∀ρ h d v d' h' H Q,uq X.K ρ h H->lq X.K H ρ d v->F d h=some (d',h')->Out X.K ρ H d' h' Q->r [v] H Q)
 (hg:Gl X x) (hm:X.mg x=none) (hv:bootBuiltins x=some (.type T)) (ha:EM X e f) (hn:x ≠ "__name__" :=by decide) (hdb:(x==("__debug__" :Str))=false:=by decide) (hs:CB e=true:=by rfl) :
 EM X (.Call (.Name x p) [e] [] pos) (HC F f):=by
 with_unfolding_all exact PE.imp (FZ hc hg hm hv (RC ha MD (HB hs _ _)) hn hdb (he:=HB hs _ _)) fun σ H Q zz=>by obtain⟨ρ,l,h,d,h',S,L,e,k⟩:=zz;obtain⟨⟨d1,h1⟩,e1,e⟩:=nA e;exact⟨ρ,l,h,d1,h1,S,L,e1,fun ρ1 v H1 R1 S1 E1=>hF ρ1 h1 d1 v d h' H1 Q S1 R1 e (k.ext E1)⟩
def oB:Dt->HI->Option (Dt×HI):=fun d h=>match d with
 | .str z=>if z.length<=sizeLine then some (.int z.length,h)else none
 | d=>(MF h d).map fun xs=>(.int xs.length,h)
theorem QC (hg:Gl X "len") (hm:X.mg "len" =none) (ha:EM X e f) (hs:CB e=true:=by rfl):EM X (.Call (.Name "len" p) [e] [] pos) (HC oB f):=by
 with_unfolding_all
  exact GQ (Oq.or oX pX) (fun ρ h d v d' h' H Q S R e k=>by
   unfold oB at e;split at e
   · rename_i z;obtain⟨hz,e⟩:=QD e;cases e;exact .inr ⟨z,by rw[jq.mp R],hz,k ρ _ H (gq.mpr rfl) S (Ext.refl _ _)⟩
   · cases q:MF h d with
     | none=>rw[q]at e;cases e
     | some xs=>
      rw[q]at e;cases e;obtain⟨a,vs,z,sq,r⟩:=dQ S R q;exact .inl ⟨a,vs,by rw[z],sq,by rw[r.length];exact k ρ _ H (gq.mpr rfl) S (Ext.refl _ _)⟩) hg hm PySem.boot_len ha (hs:=hs)
noncomputable def zK:Dt->HI->Option (Dt×HI):=fun d h=>match d with
 | .int i=>some (.int i,h)
 | .bl b=>some (.int (if b then 1 else 0),h)
 | _=>none
theorem Q3 (hg:Gl X "int") (hm:X.mg "int" =none) (ha:EM X e f) (hs:CB e=true:=by rfl):EM X (.Call (.Name "int" p) [e] [] pos) (HC zK f):=by
 with_unfolding_all
  exact HQ UY (fun ρ h d v d' h' H Q S R e k=>by
   unfold zK at e;split at e
   · rename_i i;cases e;exact .inl ⟨i,by rw[gq.mp R],k ρ _ H (gq.mpr rfl) S (Ext.refl _ _)⟩
   · rename_i b;cases e;exact .inr ⟨b,by rw[pq.mp R],k ρ _ H (gq.mpr rfl) S (Ext.refl _ _)⟩
   · cases e) hg hm PyProof.Rows.boot_int ha (hs:=hs)
noncomputable def rF:List Dt->Option (List Int)
 | []=>some []
 | .int i::ds=>(rF ds).map fun ns=>i::ns
 | _::_=>none
theorem FS:∀{ds:List Dt}{ns:List Int},rF ds=some ns->ds=ns.map Dt.int
 | [],_,e=>by simp only[rF]at e;cases e;rfl
 | d::ds,_,e=>by
  cases d with
  | int i=>
   simp only[rF]at e;cases q:rF ds with
   | none=>rw[q]at e;cases e
   | some ns=>rw[q]at e;cases e;rw[FS q];rfl
  | _=>simp only[rF]at e<;>cases e
def AK:Dt->HI->Option (Dt×HI):=fun d h=>(uA h d).bind fun xs=>(rF xs).map fun ns=>(.int ns.sum,h)
theorem F7 (hc:X.calm=true) (hg:Gl X "sum") (hm:X.mg "sum" =none) (ha:EM X e f) (hs:CB e=true:=by rfl):EM X (.Call (.Name "sum" p) [e] [] pos) (HC AK f):=by
 with_unfolding_all
  exact GQ (XY hc) (fun ρ h d v d' h' H Q S R e k=>by
   obtain⟨xs,e1,e⟩:=nA e;cases q:rF xs with
   | none=>rw[q]at e;cases e
   | some ns=>
    rw[q]at e;cases e;obtain⟨a,vs,z,sq,r⟩:=tE S R e1;rw[FS q]at r;rw[r.Wv]at sq;exact⟨a,ns,by rw[z],sq,k ρ _ H (gq.mpr rfl) S (Ext.refl _ _)⟩) hg hm PyProof.Rows.boot_sum ha (hs:=hs)
noncomputable def PF(h:HI):Dt->Option String
 | .non=>some "NoneType"
 | .bl _=>some "bool"
 | .int _=>some "int"
 | .str _=>some "str"
 | .tup _=>some "tuple"
 | .lst _=>some "list"
 | .ref n=>match h[n]? with | some (.lst _)=>some "list" | _=>none
 | .jz _=>none
 | .err _ _ _=>none
 | .thr _ _ _=>none
noncomputable def VV (t T:String):Bool:=t==T || (t == "bool" && T == "int")
def VI(T:String)(f:RE):RE:=fun l h=>(f l h).bind fun r=>(PF r.2 r.1).map fun t=>(.bl (VV t T),r.2)
theorem N2 (K:Frag):∀t ∈ ["NoneType", "bool", "int", "str", "tuple", "list"],∀T ∈ ["bool", "int", "str", "tuple", "list"],PySem.W.kitOne K (.type t) (.type T)=some (VV t T):=by intro t ht T hT;simp only[mem_cons,mem_nil_iff,or_false]at ht hT;rcases ht with rfl | rfl | rfl | rfl | rfl | rfl<;>rcases hT with rfl | rfl | rfl | rfl | rfl<;>with_unfolding_all rfl
theorem x9 {h:HI} {d:Dt} {t:String} (e:PF h d=some t):t ∈ ["NoneType", "bool", "int", "str", "tuple", "list"]:=by
 cases d with
 | ref n=>
  simp only[PF]at e;split at e
  · cases e;decide
  · cases e
 | jz n=>simp only[PF]at e;cases e
 | err n m k=>simp only[PF]at e;cases e
 | thr n m k=>simp only[PF]at e;cases e
 | _=>simp only[PF]at e<;>cases e<;>decide
theorem Q9{K:Frag}{H:Hp}{ρ:Rg}{h:HI}{d:Dt}{v:V}{t:String}(S:uq K ρ h H)(R:lq K H ρ d v)(e:PF h d=some t):X9 K H v t:=by
 cases d with
 | non=>cases yq.mp R;simp only[PF]at e;cases e;rfl
 | bl b=>cases pq.mp R;simp only[PF]at e;cases e;rfl
 | int b=>cases gq.mp R;simp only[PF]at e;cases e;rfl
 | str b=>cases jq.mp R;simp only[PF]at e;cases e;rfl
 | tup xs=>obtain⟨a,vs,z,t,rs⟩:=xq.mp R;subst z;simp only[PF]at e;cases e;exact .inr ⟨rfl,vs,t.sq⟩
 | lst xs=>obtain⟨a,vs,z,t,rs⟩:=vq.mp R;subst z;simp only[PF]at e;cases e;exact .inl ⟨rfl,vs,t.sq⟩
 | ref n=>
  obtain⟨a,z,ha⟩:=Hq.mp R;subst z;simp only[PF]at e;split at e
  · rename_i xs q;cases e;obtain⟨vs,h1,_⟩:=S.lst ha q;exact .inl ⟨rfl,vs,yx.of h1⟩
  · cases e
 | jz n=>simp only[PF]at e;cases e
 | err n m k=>simp only[PF]at e;cases e
 | thr n m k=>simp only[PF]at e;cases e
theorem lU {T:Str} {TT:String} (hg:Gl X "isinstance") (hm:X.mg "isinstance" =none) (Ow:Gl X T) (Nk:X.mg T=none) (hv:bootBuiltins T=some (.type TT)) (hT:TT ∈ ["bool", "int", "str", "tuple", "list"]) (ha:EM X e f)
 (hnT:T ≠ "__name__" :=by decide) (hdT:(T==("__debug__" :Str))=false:=by decide)
 (hs:CB e=true:=by rfl) :
 EM X (.Call (.Name "isinstance" p) [e,.Name T p2] [] pos) (VI TT f):=by
 with_unfolding_all
  exact PE.imp (BL (zZ (T:=TT)) hg hm PyProof.Rows.boot_isinstance (RC ha (RC (VT Ow Nk hv (v:=.ty TT) rfl hnT hdT) MD (HB rfl _ _)) (HB hs _ _)) (he:=HB hs _ _)) fun σ H Q zz=>by
   obtain⟨ρ,l,h,d,h',S,L,e,k⟩:=zz;obtain⟨⟨d1,h1⟩,e1,e⟩:=nA e;refine⟨ρ,l,h,d1,h1,S,L,e1,fun ρ1 v H1 R1 S1 E1=>?_⟩;cases q:PF h1 d1 with
   | none=>rw[q]at e;cases e
   | some t=>rw[q]at e;cases e;exact⟨v,t,VV t TT,rfl,Q9 S1 R1 q,N2 X.K t (x9 q) TT hT,k ρ1 _ H1 (pq.mpr rfl) S1 E1⟩
abbrev RO:=LI->HI->Option (Option Int×HI)
noncomputable def jN:RO:=fun _ h=>some (none,h)
noncomputable def fF(f:RE):RO:=fun l h=>(f l h).bind fun r=>match r.1 with | .int i=>some (some i,r.2) | _=>none
def yj(K:Frag)(f:RO):TO:=fun σ H Q=>∃ρ l h o h',uq K ρ h H/\Kq K H ρ l σ/\f l h=some (o,h')/\Ov K ρ H h' (Q o)
@[irreducible] def yV(X:Cx)(e:Option Expr)(f:RO):Prop:=PO X e (yj X.K f)
theorem PO.imp{X:Cx}{e:Option Expr}{t t':TO}(h:PO X e t)(i:∀σ H Q,t' σ H Q->t σ H Q):PO X e t':=fun pins s σ H Q I q=>h pins s σ H Q I (i σ H Q q)
theorem PP:yV X none jN:=by with_unfolding_all exact PO.imp b6 fun σ H Q zz=>by obtain⟨ρ,l,h,o,h',S,L,e,k⟩:=zz;cases e;exact k ρ H S (Ext.refl _ _)
theorem ZF(ha:EM X a fa):yV X (some a) (fF fa):=by
 with_unfolding_all
  exact PO.imp (f6 ha) fun σ H Q zz=>by
   obtain⟨ρ,l,h,o,h',S,L,e,k⟩:=zz;obtain⟨⟨d1,h1⟩,e1,e⟩:=nA e;refine⟨ρ,l,h,d1,h1,S,L,e1,fun ρ1 v H1 R1 S1 E1=>?_⟩;cases d1 with
   | int i=>cases e;exact⟨i,gq.mp R1,k ρ1 H1 S1 E1⟩
   | _=>cases e
def xE(xs:List Dt)(lo hi:Option Int):List Dt:=(xs.drop (HT.Rx xs.length 0 lo)).take (HT.Rx xs.length xs.length hi-HT.Rx xs.length 0 lo)
def IH(f:RE)(lo hi:RO):RE:=fun l h=>(f l h).bind fun r=>(lo l r.2).bind fun o=>(hi l o.2).bind fun u=>(uA u.2 r.1).map fun xs=>(.lst (xE xs o.1 u.1),u.2)
theorem J3{K:Frag}{H:Hp}{ρ:Rg}{xs:List Dt}{vs:List V}(r:aq K H ρ xs vs)(lo hi:Option Int):aq K H ρ (xE xs lo hi) (OH vs lo hi):=by unfold xE OH;rw[r.length];exact(r.drop _).take _
theorem jI{lo hi:Option Expr}{fl fh:RO}(ha:EM X a fa)(hl:yV X lo fl)(hh:yV X hi fh):EM X (.Subscript a (.Slice lo hi none p2) pos) (IH fa fl fh):=by
 with_unfolding_all
  exact PE.imp (YZ Q4 ha hl hh) fun σ H Q zz=>by
   obtain⟨ρ,l,h,d,h',S,L,e,k⟩:=zz;obtain⟨⟨d1,h1⟩,e1,e⟩:=nA e;obtain⟨⟨o,h2⟩,e2,e⟩:=nA e;obtain⟨⟨u,h3⟩,e3,e⟩:=nA e;refine⟨ρ,l,h,d1,h1,S,L,e1,fun ρ1 v H1 R1 S1 E1=>⟨ρ1,l,h1,o,h2,S1,L.ext E1,e2,fun ρ2 H2 S2 E2=>⟨ρ2,l,h2,u,h3,S2,L.ext (E1.trans E2),e3,fun ρ3 H3 S3 E3=>?_⟩⟩⟩;cases q:uA h3 d1 with
   | none=>dsimp only at e;rw[q]at e;cases e
   | some xs=>dsimp only at e;rw[q]at e;cases e;obtain⟨x,vs,z,sq,r⟩:=tE S3 (lq.ext (E2.trans E3) _ R1) q;exact⟨x,vs,z,sq,fun p hp=>k ρ3 _ _ (QJ S3 (J3 r o u) hp) (S3.fresh hp) (E1.trans (E2.trans (E3.trans (Ext.fresh hp))))⟩
noncomputable def QV(fo fa:RE):RE:=fun l h=>(fo l h).bind fun r=>match r.1 with
 | .ref n=>(fa l r.2).bind fun q=>match q.2[n]? with
  | some (.lst xs)=>if xs.length<sizeLine then some (.non,q.2.set n (.lst (xs++[q.1])))else none
  | _=>none
 | _=>none
theorem wU {K:Frag} {H:Hp} {ρ:Rg} {h:HI} {n:Nat} {xs:List Dt} {v:V} (S:uq K ρ h H) (R:lq K H ρ (.ref n) v) (e:h[n]?=some (.lst xs)):EV K "list" v H:=by obtain⟨a,z,ha⟩:=Hq.mp R;subst z;obtain⟨vs,h1,_⟩:=S.lst ha e;exact .inl ⟨rfl,vs,yx.of h1⟩
def YF(fa fb:RE):RE:=fun l h=>(fa l h).bind fun r=>match r.1 with
 | .ref n=>match r.2[n]? with
  | some (.lst _)=>QV (eC (.ref n)) fb l r.2
  | _=>none
 | _=>none
theorem nI {apos cpos:Pos} (ho:EM X a fa) (hb:EM X b fb) (hbase:attributeBase a "append" X.env (eval a X.env)=eval a X.env:=by rfl)
 (hline:(apos.endLine==cpos.line)=true:=by rfl) (hs:CB b=true:=by rfl) :
 EM X (.Call (.Attribute a "append" apos) [b] [] cpos) (YF fa fb):=by
 with_unfolding_all
  exact PE.imp (eK PySem.F.plainAttrs_list PySem.F.slot_list_append PySem.F.type_list_append eS ho (RC hb MD (HB hs _ _)) hbase (sL hs) hline (HB hs _ _)) fun σ H Q zz=>by
   obtain⟨ρ,l,h,d,h',S,L,e,k⟩:=zz;obtain⟨⟨d1,h1⟩,e1,e⟩:=nA e;refine⟨ρ,l,h,d1,h1,S,L,e1,fun ρ1 v H1 R1 S1 E1=>?_⟩;cases d1 with
   | ref n=>
    dsimp only at e;split at e
    · rename_i xs0 q0;obtain⟨⟨d0,h0⟩,z0,e⟩:=nA e;cases z0;dsimp only at e;obtain⟨⟨d2,h2⟩,e2,e⟩:=nA e;refine⟨wU S1 R1 q0,ρ1,l,h1,d2,h2,S1,L.ext E1,e2,fun ρ2 y H2 R2 S2 E2=>?_⟩;dsimp only at e;split at e
      · rename_i xs q;obtain⟨hz,e⟩:=QD e;cases e;obtain⟨a,z,ha⟩:=Hq.mp R1;subst z;have ha2:=E2.get ha;obtain⟨vs,g1,g2⟩:=S2.lst ha2 q;have hm:=mem_of_getElem? ha2;refine⟨a,vs,y,rfl,rfl,g1,by rw[g2.length];exact hz,k ρ2 _ _ (yq.mpr rfl) (S2.write ha2 (SH g1) ⟨_,MC,?_⟩) (E1.trans (E2.trans (Ext.write hm (SH g1))))⟩;exact(g2.append (.cons R2 .nil)).ext (Ext.write hm (SH g1))
      · cases e
    · cases e
   | _=>cases e
end
def ME:List Dt->Dt->Option Nat
 | [],_=>none
 | y::ys,x=>if bC y x=true then some 0 else(ME ys x).map (· + 1)
theorem ES:∀{ys:List Dt}{x:Dt}{j:Nat},ME ys x=some j->(∃y,ys[j]?=some y/\bC y x=true)/\∀(m:Nat),m<j->∃y,ys[m]?=some y/\bC y x=false
 | [],_,_,e=>by simp only[ME]at e;cases e
 | y::ys,x,j,e=>by
  simp only[ME]at e;by_cases h:bC y x=true
  · rw[if_pos h]at e;cases e;exact⟨⟨y,rfl,h⟩,fun m hm=>absurd hm (Nat.not_lt_zero _)⟩
  · rw[if_neg h]at e;cases q:ME ys x with
    | none=>rw[q]at e;cases e
    | some k=>
     rw[q]at e;cases e;obtain⟨⟨z,z1,z2⟩,no⟩:=ES q;refine⟨⟨z,by simpa using z1,z2⟩,fun m hm=>?_⟩;cases m with
     | zero=>exact⟨y,rfl,by simpa using h⟩
     | succ m=>obtain⟨u,u1,u2⟩:=no m (Nat.lt_of_succ_lt_succ hm);exact⟨u,by simpa using u1,u2⟩
section
variable{X:Cx}{pins:List (Addr×Obj)}{σ:L2.St}{H:Hp}{s:Shared}{ρ:Rg}
def NI(xs:List Dt)(d:Dt)(k:Nat):Bool:=match xs[k]? with | some z=>bC z d | none=>false
theorem bL:∀{xs:List Dt}{k:Nat}{z:Dt},mC xs=true->xs[k]?=some z->MA z=true
 | [],_,_,_,e=>by simp at e
 | x::xs,0,z,h,e=>by simp only[mC,Bool.and_eq_true]at h;simp at e;subst e;exact h.1
 | x::xs,k+1,z,h,e=>by simp only[mC,Bool.and_eq_true]at h;exact bL h.2 (by simpa using e)
theorem xS:∀{xs:List Dt}{k:Nat}{z:Dt},xs[k]?=some z->oE z<=uC xs
 | [],_,_,e=>by simp at e
 | x::xs,0,z,e=>by simp at e;subst e;simp only[uC];exact Nat.le_max_left _ _
 | x::xs,k+1,z,e=>by simp only[uC];exact Nat.le_trans (xS (xs:=xs) (k:=k) (by simpa using e)) (Nat.le_max_right _ _)
open Classical in
theorem YU(I:Inv X pins σ H s){xs:List Dt}{d:Dt}{ws:List V}{v:V}{its:List Value}{u:Value}(A:Around)(p:mC xs=true)(p':MA d=true)(hu:A.units+uC xs<cLine)(rs:aq X.K H ρ xs ws)(rd:lq X.K H ρ d v)(rv:Vals ws its)(ru:RelV v u) :
 ∃e:Value->Bool,(∀(k:Nat)(hk:k<its.length),e its[k]=NI xs d k)/\∀y∈its,SeqAt.EqAt A s y u (e y):=by
 have key:∀(k:Nat)(y:Value),its[k]?=some y->∃z w,xs[k]?=some z/\ws[k]?=some w/\lq X.K H ρ z w/\RelV w y:=fun k y e=>by
  have hl:=rv.length;have hk:k<xs.length:=by have:=(Kc e).1;have h2:=rs.length;omega
  obtain⟨w,w1,w2⟩:=rs.get (getElem?_eq_getElem hk);obtain⟨y',y1,y2⟩:=rv.get w1;rw[e]at y1;cases y1;exact⟨_,w,getElem?_eq_getElem hk,w1,w2,y2⟩
 have same:∀(k m:Nat)(y:Value),its[k]?=some y->its[m]?=some y->NI xs d k=NI xs d m:=fun k m y e1 e2=>by obtain⟨z,w,a1,_,a3,a4⟩:=key k y e1;obtain⟨z',w',b1,_,b3,b4⟩:=key m y e2;have ew:=RelV.inj a4 b4;subst ew;have ez:=YL I z z' (bL p a1) (bL p b1) a3 b3;unfold NI;rw[a1,b1,ez]
 refine⟨fun y=>if h:∃k,its[k]?=some y then NI xs d h.choose else false,fun k hk=>?_,fun y hy=>?_⟩
 · have hex:∃m,its[m]?=some its[k]:=⟨k,getElem?_eq_getElem hk⟩
   dsimp only;rw[dif_pos hex];exact same _ _ _ hex.choose_spec (getElem?_eq_getElem hk)
 · obtain⟨k,hk⟩:=mem_iff_getElem?.mp hy;have hex:∃m,its[m]?=some y:=⟨k,hk⟩
   dsimp only;rw[dif_pos hex];obtain⟨z,w,a1,_,a3,a4⟩:=key _ y hex.choose_spec;have ec:NI xs d hex.choose=bC z d:=by unfold NI;rw[a1]
   rw[ec];exact mU I z d A (bL p a1) p' (by have:=xS a1;omega) a3 rd a4 ru
theorem l4{xs:List Dt}{d:Dt}{j:Nat}(h:ME xs d=some j):j<xs.length/\NI xs d j=true/\∀m,m<j->NI xs d m=false:=by obtain⟨⟨y,y1,y2⟩,no⟩:=ES h;refine⟨(Kc y1).1,by unfold NI;rw[y1];exact y2,fun m hm=>?_⟩;obtain⟨z,z1,z2⟩:=no m hm;unfold NI;rw[z1];exact z2
end
def dF(xs:List Dt)(d:Dt):Bool:=mC xs&&MA d&&decide (uC xs<=50)
def dW(K:Frag)(tup:Bool):V->List V->Hp->VK->Prop:=fun x vs H Q=>∃ρ xs d y a ws j,x=.ref a/\vs=[y]/\(if tup=true then SI K H a ws else yx K H a ws)/\aq K H ρ xs ws/\lq K H ρ d y/\dF xs d=true/\ME xs d=some j/\Q (.int (j:Nat)) H
section
variable{X:Cx}{a b:Expr}{fa fb:RE}
theorem NY (hu:X.A.units+64<cLine):NQ X "list.index" (dW X.K false):=by
 intro pins s σ H x vs v us Q I rx rv h;obtain⟨ρ,xs,d,y,p,ws,j,rfl,rfl,sq,rs,rd,ok,hj,q⟩:=h;rw[if_neg Rc]at sq;cases rx;obtain⟨u,rfl,ru⟩:=DF rv;simp only[dF,Bool.and_eq_true,decide_eq_true_eq]at ok;obtain⟨its,Dw,⟨⟨c1,d1,t1,Uh⟩,n,e0,k1,k2,k3⟩,z⟩:=I.list sq;simp only at k1 k2 k3;subst k1 k2 k3;obtain⟨e,e1,e2⟩:=YU I X.A.in1 ok.1.1 ok.1.2 (by have:=CJ X.A;omega) rs rd Dw ru;obtain⟨j1,j2,j3⟩:=l4 hj;have hl:its.length=xs.length:=by rw[<- Dw.length,rs.length]
 have hz:j<its.length:=by omega
 have hn:=uH;refine call_meets PySem.F.slot_list_index ⟨_,e0,rfl⟩ PySem.F.entry_list_index (PySem.F.args_list_index_2 _ _)
  (SeqAt.list_indexAt p its.toArray n none Uh u e j (by rw[size_toArray];exact hz) (by have:=Dw.length;omega) ?_ ?_) ⟨e0,fun y hy=>e2 y (by simpa using hy),⟨.int (j:Nat),H,I.tok _,⟨_,rfl⟩,q⟩⟩
 · have:=e1 j hz;rw[j2]at this;simpa using this
 · intro m hm Mf;rw[size_toArray]at hm;have:=e1 m hm;rw[j3 m Mf]at this;simpa using this
noncomputable def AC(K:Frag):Nat->Value->Option Dt
 | _,.none=>some .non
 | _,.bool b=>some (.bl b)
 | _,.int i _=>some (.int i)
 | _,.str x _=>some (.str x)
 | 0,_=>none
 | n+1,.ref a=>match K.lookup a with
  | some ⟨.type T,dd,.seq its _,_⟩=>if its.size<=sizeLine then
   if T = "tuple" then(its.toList.mapM (AC K n)).map .tup
   else if T = "list" then match dd with | none=>(its.toList.mapM (AC K n)).map .lst | some _=>none
   else none
   else none
  | _=>none
 | _,_=>none
noncomputable def SQ:Value->V
 | .none=>.non
 | .bool b=>.bl b
 | .int i _=>.int i
 | .str x _=>.str x
 | .ref a=>.ref a
 | _=>.non
theorem HP{K:Frag}{H:Hp}{ρ:Rg}{f:Value->Option Dt}(h:∀u d,f u=some d->RelV (SQ u) u/\lq K H ρ d (SQ u)):∀{us:List Value}{ds:List Dt},us.mapM f=some ds->Vals (us.map SQ) us/\aq K H ρ ds (us.map SQ)
 | [],_,e=>by simp at e;subst e;exact⟨.nil,.nil⟩
 | u::us,ds,e=>by
  rw[mapM_cons]at e;cases q:f u with
  | none=>rw[q]at e;cases e
  | some d=>
   rw[q]at e;cases q2:us.mapM f with
   | none=>rw[q2]at e;cases e
   | some ds'=>rw[q2]at e;cases e;obtain⟨h1,h2⟩:=h u d q;obtain⟨h3,h4⟩:=HP h q2;exact⟨.cons h1 h3,.cons h2 h4⟩
theorem iS{K:Frag}{H:Hp}{ρ:Rg}:∀(n:Nat)(u:Value)(d:Dt),AC K n u=some d->RelV (SQ u) u/\lq K H ρ d (SQ u):=by
 intro n
 induction n with
 | zero=>
  intro u d e;cases u with
  | none=>simp only[AC]at e;cases e;exact⟨rfl,yq.mpr rfl⟩
  | bool b=>simp only[AC]at e;cases e;exact⟨rfl,pq.mpr rfl⟩
  | int i t=>simp only[AC]at e;cases e;exact⟨⟨_,rfl⟩,gq.mpr rfl⟩
  | str x t=>simp only[AC]at e;cases e;exact⟨⟨_,rfl⟩,jq.mpr rfl⟩
  | _=>simp only[AC]at e<;>cases e
 | succ n ih=>
  intro u d e;cases u with
  | none=>simp only[AC]at e;cases e;exact⟨rfl,yq.mpr rfl⟩
  | bool b=>simp only[AC]at e;cases e;exact⟨rfl,pq.mpr rfl⟩
  | int i t=>simp only[AC]at e;cases e;exact⟨⟨_,rfl⟩,gq.mpr rfl⟩
  | str x t=>simp only[AC]at e;cases e;exact⟨⟨_,rfl⟩,jq.mpr rfl⟩
  | ref a=>
   simp only[AC]at e;split at e
   · rename_i T dd its m sl q;by_cases hz:its.size<=sizeLine
     · rw[if_pos hz]at e;by_cases hT:T = "tuple"
       · rw[if_pos hT]at e;cases q2:its.toList.mapM (AC K n)with
         | none=>rw[q2]at e;cases e
         | some ds=>rw[q2]at e;cases e;obtain⟨h1,h2⟩:=HP (K:=K) (H:=H) (ρ:=ρ) ih q2;subst hT;exact⟨rfl,xq.mpr ⟨a,_,rfl,.inr ⟨_,its,m,q,rfl,rfl,hz,h1⟩,h2⟩⟩
       · rw[if_neg hT]at e;by_cases hT2:T = "list"
         · rw[if_pos hT2]at e;split at e
           · cases q2:its.toList.mapM (AC K n)with
             | none=>rw[q2]at e;cases e
             | some ds=>rw[q2]at e;cases e;obtain⟨h1,h2⟩:=HP (K:=K) (H:=H) (ρ:=ρ) ih q2;subst hT2;exact⟨rfl,vq.mpr ⟨a,_,rfl,.inr ⟨_,its,m,q,rfl,rfl,rfl,hz,h1⟩,h2⟩⟩
           · cases e
         · rw[if_neg hT2]at e;cases e
     · rw[if_neg hz]at e;cases e
   · cases e
  | _=>simp only[AC]at e<;>cases e
structure GF(K:Frag)(mg:Str->Option Value)(x:Str)(d:Dt):Prop where
 ex:∃u n,mg x=some u/\AC K n u=some d
theorem nF {x:Str} {d:Dt} {pos:Pos} (hg:Gl X x) (c:GF X.K X.mg x d) (hd:(x==("__debug__" :Str))=false:=by decide):EM X (.Name x pos) (eC d):=by with_unfolding_all obtain⟨u,n,h1,h2⟩:=c.ex;exact P3 hg h1 (iS (H:=fun _=>none) (ρ:=.nil) n u d h2).1 (fun H ρ=>(iS n u d h2).2) hd
end
theorem b8{K:Frag}{F:fC}{n:Nat}(h:∀ns:List Int,ns.length<=n->∃h',F [.lst (ns.map Dt.int)] []=some (.bl true,h'))(H:Hp)(a:Addr)(ns:List Int)(hl:ns.length<=n)(hS:yx K H a (ns.map V.int)) :
 sK K 1 F [.ref a] H (fun v _=>v=.bl true) fun _ _ _=>False:=by
 obtain⟨h',e⟩:=h ns hl;have R:lq K H .nil (.lst (ns.map Dt.int)) (.ref a):=vq.mpr ⟨a,_,rfl,by
  rcases hS with hS | hS
  · exact .inl ⟨⟨by simp[Rg.nil],by simp[Rg.nil]⟩,hS⟩
  · exact .inr hS,aq.ints ns⟩
 exact⟨.nil,[.lst (ns.map Dt.int)],[],.bl true,h',uq.nil,.cons R .nil,rfl,e,fun ρ' v H' R' S' E'=>pq.mp R'⟩
structure fD(P:Program)(w:World)(K:Frag)(mg:Str->Option Value)(base:Heap)(k n:Nat)(x:Str)(F:fC):Prop where
 ex:∃f fd ps,Uq P w K mg base iF k f fd ps (sK K n F)/\mg x=some (.ref f)/\keepIn K (.ref f)=true/\Binds K fd ps []
 len:∀ds h r,F ds h=some r->ds.length=n
structure IB(K:Frag)(mg:Str->Option Value)(x:Str)(st:Stmt)(ps:List Str):Prop where
 ex:∃f fd,Mv K x x st f fd/\mg x=some (.ref f)/\Binds K fd ps []
section
variable{P:Program}{w:World}{K:Frag}{mg:Str->Option Value}{base:Heap}
theorem P7{x qual:Str}{st:Stmt}{f:Addr}{fd:FuncData}{N ps:List Str}{k n m:Nat}{body:RS}(F:Mv K x qual st f fd)(S:rB N ps (LA st))(hn:ps.length=n)(hm:N.length=m)
 (hb:∀(cdv:Value)(A:Around)(outer:List Env)(s:Shared)(H:Hp)(E:XK),Gq k (A.deeper (envOfC qual (LA st) s.heap.objs.size f cdv))->
  MI (kD iF P w K mg base N qual (LA st) f cdv A outer s H E).Iv (FD st) body):Uq P w K mg base iF (k+1) f fd ps (sK K n (DC n m body)):=by
 with_unfolding_all subst hn hm;exact VU F S hb
theorem QB{x:Str}{st:Stmt}{N ps:List Str}{k n m:Nat}{body:RS}(D:IB K mg x st ps)(S:rB N ps (LA st))(hn:ps.length=n)(hm:N.length=m)
 (hb:∀(f:Addr)(cdv:Value)(A:Around)(outer:List Env)(s:Shared)(H:Hp)(E:XK),Gq k (A.deeper (envOfC x (LA st) s.heap.objs.size f cdv))->
  MI (kD iF P w K mg base N x (LA st) f cdv A outer s H E).Iv (FD st) body):fD P w K mg base (k+1) n x (DC n m body):=by
 with_unfolding_all subst hn hm;obtain⟨f,fd,hF,hm,hB⟩:=D.ex;exact⟨⟨f,fd,ps,VU hF S fun cdv A outer s H E hr=>hb f cdv A outer s H E hr,hm,hF.kp,hB⟩,fun ds h r e=>DT e⟩
end
section
variable{X:Cx}{k k' n:Nat}{F:fC}{x:Str}{p pos:Pos}{e:Expr}{es:List Expr}{g:RA}
theorem O3 (c:fD X.prog X.w X.K X.mg X.base k n x F) (hr:Gq k' X.A) (hk:k<=k') (hg:Gl X x) (ha:AM X (e::es) g) (hdb:(x==("__debug__" :Str))=false:=by decide)
 (he:CB e=true:=by rfl) (hpl:es.all CB=true:=by rfl) :
 EM X (.Call (.Name x p) (e::es) [] pos) (UA F [] g):=by
 with_unfolding_all obtain⟨f,fd,ps,h1,h2,h3,h4⟩:=c.ex;exact iZ h1 (hr.mono hk) hg h2 h3 h4 .nil (fun _ _=>.nil) ha (fun F' e ds h r q=>c.len ds h r (e ▸ q)) hdb he hpl
theorem cT (c:fD X.prog X.w X.K X.mg X.base k n x F) (hr:Gq k' X.A) (hk:k<=k') (hg:Gl X x) (hdb:(x==("__debug__" :Str))=false:=by decide) :
 EM X (.Call (.Name x p) [] [] pos) (YJ F []):=by
 with_unfolding_all obtain⟨f,fd,ps,h1,h2,h3,h4⟩:=c.ex;exact eZ h1 (hr.mono hk) hg h2 h3 h4 .nil (fun _ _=>.nil) (fun F' e ds h r q=>c.len ds h r (e ▸ q)) hdb
end
theorem C1{l:PySem.W.OpenLaw}{q:Program}{loose:List Str}{XP:(Str->Option Value)->Heap->Prop}{YP:World->Heap->Prop}{d:DefRec}{K:Params->Frag}{F:fC}{k:Nat}{x:Str}(hn:l.most=some 63)(hdf:d.params.defaults=[])(hr:Gq k callerA)
 (hY:∀(w:World)(h:Heap),YP w h->(K w.params).In h)
 (hF:∀(w:World)(mg:Str->Option Value)(fa:Addr)(h:Heap),(K w.params).In h->h.Ns mainGlobals mg->mg d.name=some (.ref fa)->
  ∃fd:FuncData,(∀(s:Shared)(u:Value),BindsTo s fd ⟨[u],[]⟩ [(x,u)])/\∀base:Heap,(K w.params).In base->base.Ns mainGlobals mg->Uq l.prog w (K w.params) mg base iF k fa fd [x] (sK (K w.params) 1 F))
 (h:∀ns:List Int,ns.length<=63->∃h',F [.lst (ns.map Dt.int)] []=some (.bl true,h')):PySem.W.WalkO q loose XP YP l.row.toRowW d [] (fun f vs=>PySem.call f vs):=
 L2.j5 (n:=63) (k:=k) (x:=x) (CX:=fun _=>iF) (sp:=fun w=>sK (K w.params) 1 F) hn (by decide) hdf hr hY hF (fun w H a ns hl _ hS=>b8 h H a ns hl hS) fun _ _ _ _ _ z=>z
end SM
namespace L2
section
variable{X:Cx}
theorem yU:∀{bs:List Bool}{us:List Value},Vals (bs.map V.bl) us->∀(i:Nat)(v:Value),us[i]?=some v->v=.bool (bs.getD i false)
 | [],us,r,i,v,e=>by cases r;simp at e
 | b::bs,us,r,i,v,e=>by
  cases r with
  | cons r rr=>
   cases i with
   | zero=>simp at e;subst e;exact r
   | succ i=>simpa using yU rr i v (by simpa using e)
theorem vZ(bs:List Bool):(List.range bs.length).all (fun i=>bs.getD i false)=bs.all id:=by
 induction bs with
 | nil=>rfl
 | cons b bs ih=>
  rw[Zd,range_succ_eq_map,all_cons,all_map,all_cons];have:((fun i=>(b::bs).getD i false) ∘ Nat.succ)=fun i=>bs.getD i false:=by
   funext i
   simp
  rw[this,ih];simp
theorem TY (hc:X.calm=true):Oq X (.builtin "all") (fun xs H Q=>∃(p:Addr) (bs:List Bool),xs=[.ref p]/\yx X.K H p (bs.map V.bl)/\Q (.bl (bs.all id)) H):=by
 intro pins s σ H xs us Q I r h;obtain⟨p,bs,rfl,hq,q⟩:=h;obtain⟨u,rfl,rx⟩:=DF r;cases rx;obtain⟨its,r',pl,hz⟩:=I.list hq;have hlt:p<s.heap.objs.size:=by obtain⟨_,e,_⟩:=pl.isList;exact Heap.lt_size e
 refine call_all_walk (wpAny_pyIter_list pl.isList ?_);refine⟨_,_,_,_,_,_,fun i=>bs.getD i false,rfl,Walks.list (A:=X.A.in1) (I.ok.hd hc) s.heap.objs.size p (Nat.ne_of_lt hlt) its.toArray,⟨⟨_,Heap.get?_push_size _ rfl,rfl,rfl⟩,pl.isList.push _⟩,?_,fun h' tk k=>?_⟩
 · intro i v s2 Q2 E2 hv hQ;have e:=yU r' i v (by simpa using hv);subst e;exact wpAny_truthy_bool hQ
 · have hl:=r'.length;have e:(List.range its.toArray.size).all (fun i=>bs.getD i false)=bs.all id:=by rw[show its.toArray.size=bs.length by simp at hl ⊢;omega,vZ]
   rw[e];exact⟨.bl (bs.all id),H,I.kept (old_kept k),rfl,q⟩
end
end L2
namespace SM
noncomputable def xF:List Dt->Option (List Bool)
 | []=>some []
 | .bl b::ds=>(xF ds).map fun bs=>b::bs
 | _::_=>none
theorem XS:∀{ds:List Dt}{bs:List Bool},xF ds=some bs->ds=bs.map Dt.bl
 | [],bs,e=>by simp only[xF]at e;cases e;rfl
 | d::ds,bs,e=>by
  cases d with
  | bl b=>
   simp only[xF]at e;cases q:xF ds with
   | none=>rw[q]at e;cases e
   | some cs=>rw[q]at e;cases e;rw[XS q];rfl
  | _=>simp only[xF]at e<;>cases e
theorem aq.Jw{K:Frag}{H:Hp}{ρ:Rg}:∀{bs:List Bool}{vs:List V},aq K H ρ (bs.map Dt.bl) vs->vs=bs.map V.bl
 | [],_,h=>h.Pq
 | n::ns,_,h=>by obtain⟨v,r,rfl,h1,h2⟩:=aq.Bq h;simp only[lq]at h1;rw[h1,aq.Jw h2];rfl
def yK:Dt->HI->Option (Dt×HI):=fun d h=>(uA h d).bind fun xs=>(xF xs).map fun bs=>(.bl (bs.all id),h)
section
variable{X:Cx}{e:Expr}{f:RE}{p pos:Pos}
theorem N4 (hc:X.calm=true) (hg:Gl X "all") (hm:X.mg "all" =none) (ha:EM X e f) (hs:CB e=true:=by rfl):EM X (.Call (.Name "all" p) [e] [] pos) (HC yK f):=by
 with_unfolding_all
  exact GQ (TY hc) (fun ρ h d v d' h' H Q S R e k=>by
   obtain⟨xs,e1,e⟩:=nA e;cases q:xF xs with
   | none=>rw[q]at e;cases e
   | some ns=>
    rw[q]at e;cases e;obtain⟨a,vs,z,sq,r⟩:=tE S R e1;rw[XS q]at r;rw[r.Jw]at sq;exact⟨a,ns,by rw[z],sq,k ρ _ H (pq.mpr rfl) S (Ext.refl _ _)⟩) hg hm PyProof.Rows.boot_all ha (hs:=hs)
end
noncomputable def XB:Nat->List Dt->List Dt
 | _,[]=>[]
 | k,x::xs=>.tup [.int (k:Int),x]::XB (k+1) xs
noncomputable def aE(i j:Nat):RG:=fun d l=>match d with
 | .tup [a,b]=>some ((l.set i (some a)).set j (some b))
 | _=>none
end SM
namespace L2
section
variable{X:Cx}{pins:List (Addr×Obj)}{σ:List (Option V)}{H:Hp}{s:Shared}{h':Heap}
theorem Inv.Lw{t':Nat}{e it p:Addr}{xs:List V}(I:Inv X pins σ H s)(k:∀b o,b≠e->b≠it->s.heap.get? b=some o->h'.get? b=some o)(fe:vE X pins H e)(fi:vE X pins H it)(hp:s.heap.objs.size<=p)
 (new:Sq X.prog X.w (AB H p (.tup xs)) h' p (.tup xs)):Inv X pins σ (AB H p (.tup xs)) { s with heap:=h',toks:=t' }:=by
 obtain⟨e0,e1,e2,e3,e4,e5⟩:=fe;obtain⟨i0,i1,i2,i3,i4,i5⟩:=fi;have hn:H p=none:=I.hok.fresh hp;have ne:∀b u,H b=some u->b≠e:=fun b u q z=>by rw[z,e0]at q;cases q
 have ni:∀b u,H b=some u->b≠it:=fun b u q z=>by rw[z,i0]at q;cases q
 have nc:∀{b},b ∉ [e,it]->b≠e/\b≠it:=fun hc=>⟨fun z=>hc (by simp[z]),fun z=>hc (by simp[z])⟩
 refine I.step (g':=s.gens) (d':=s.drawn) (ch:=[e,it]) (fun b hb=>?_) (fun b o _ _ hc q _=>k b o (nc hc).1 (nc hc).2 q) (fun b o _ _ hc q _=>⟨o.slots,k b o (nc hc).1 (nc hc).2 q⟩)
  (fun b o _ q n=>by rw[lB (Nat.ne_of_lt (Nat.lt_of_lt_of_le (Heap.lt_size q) hp))];exact n)
  (fun b o hc q=>⟨o,k b o (nc hc).1 (nc hc).2 q⟩) (fun b ys q=>by rw[lB (XC q hn)];exact q) (fun b o u q=>by rw[lB (XC q hn)];exact q)
  (fun b ps q=>⟨#[],by rw[lB (XC q hn),q];simp⟩) (fun m hm=>?_) (fun b u q=>?_) I.bare
 · have z:b=e\/b=it:=by simpa using hb
   rcases z with rfl | rfl
   · exact⟨e3,e1,e4,e5⟩
   · exact⟨i3,i1,i4,i5⟩
 · obtain⟨o,es,ep,ho,r⟩:=hm;exact⟨o,es,ep,k _ o (Ne.symm e1) (Ne.symm i1) ho,r⟩
 · by_cases hb:b=p
   · subst hb;rw[MC]at q;cases q;exact new
   · rw[lB hb]at q;refine(I.hok b u q).stay (fun c v hc q'=>?_) (fun c q=>by rw[lB (XC q hn)];exact q) fun c ys q=>by rw[lB (XC q hn)];exact q
     rcases hc with z | z
     · subst z;exact k c v (ne c u q) (ni c u q) q'
     · exact k c v (ne c _ z) (ni c _ z) q'
theorem Inv.Ew{t':Nat}{e it:Addr}(I:Inv X pins σ H s)(k:∀b o,b≠e->b≠it->s.heap.get? b=some o->h'.get? b=some o)(fe:vE X pins H e)(fi:vE X pins H it):Inv X pins σ H { s with heap:=h',toks:=t' }:=by
 obtain⟨e0,e1,e2,e3,e4,e5⟩:=fe;obtain⟨i0,i1,i2,i3,i4,i5⟩:=fi;have ne:∀b u,H b=some u->b≠e:=fun b u q z=>by rw[z,e0]at q;cases q
 have ni:∀b u,H b=some u->b≠it:=fun b u q z=>by rw[z,i0]at q;cases q
 have nc:∀{b},b ∉ [e,it]->b≠e/\b≠it:=fun hc=>⟨fun z=>hc (by simp[z]),fun z=>hc (by simp[z])⟩
 refine I.step (g':=s.gens) (d':=s.drawn) (ch:=[e,it]) (fun b hb=>?_) (fun b o _ _ hc q _=>k b o (nc hc).1 (nc hc).2 q) (fun b o _ _ hc q _=>⟨o.slots,k b o (nc hc).1 (nc hc).2 q⟩)
  (fun b o _ q n=>n) (fun b o hc q=>⟨o,k b o (nc hc).1 (nc hc).2 q⟩) (fun b ys q=>q) (fun b o u q=>q)
  (fun b ps q=>⟨#[],by rw[q];simp⟩) (fun m hm=>?_) (fun b u q=>?_) I.bare
 · have z:b=e\/b=it:=by simpa using hb
   rcases z with rfl | rfl
   · exact⟨e3,e1,e4,e5⟩
   · exact⟨i3,i1,i4,i5⟩
 · obtain⟨o,es,ep,ho,r⟩:=hm;exact⟨o,es,ep,k _ o (Ne.symm e1) (Ne.symm i1) ho,r⟩
 · refine(I.hok b u q).stay (fun c v hc q'=>?_) (fun c q=>q) fun c ys q=>q
   rcases hc with z | z
   · subst z;exact k c v (ne c u q) (ni c u q) q'
   · exact k c v (ne c _ z) (ni c _ z) q'
end
section
variable{X:Cx}
end
end L2
namespace SM
theorem AS:∀(xs:List Dt)(k i:Nat),(XB k xs)[i]?=(xs[i]?).map fun x=>.tup [.int ((k+i:Nat):Int),x]
 | [],_,_=>by simp[XB]
 | x::xs,k,0=>by simp[XB]
 | x::xs,k,i+1=>by
  simp only[XB,Yd];rw[AS xs (k+1) i];have:k+1+i=k+(i+1):=by omega
  rw[this]
section
variable{X:Cx}
theorem tU(i j:Nat){x y:Str}{px py pos:Pos}{x1}(hc:X.calm=true)(hN:X.N.Nodup)(hi:X.N[i]?=some x:=by rfl)(hj:X.N[j]?=some y:=by rfl)
 (hx:NM X.env.scope x:=by first | exact Or.inl rfl | exact Or.inr rfl) (hy:NM X.env.scope y:=by first | exact Or.inl rfl | exact Or.inr rfl)
 (hf:X.fn x=true\/X.env.scope.names.lookup x=some .local:=by first | exact .inl rfl | exact .inr rfl | assumption)
 (hf':X.fn y=true\/X.env.scope.names.lookup y=some .local:=by first | exact .inl rfl | exact .inr rfl | assumption):GM X (.Tuple [.Name x px,.Name y py] x1 pos) (aE i j):=by
 with_unfolding_all
  refine PG.imp (C7 (n:=2) hc (GS (UP hN hi hx hf) (GS (UP hN hj hy hf') X5))) fun v σ H Q zz=>?_
  obtain⟨ρ,l,h,d,l',S,L,R,e,k⟩:=zz;unfold aE at e;split at e
  · cases e;obtain⟨a,vs,rfl,q,r⟩:=xq.mp R;obtain⟨v1,r1,rfl,R1,r⟩:=r.Bq;obtain⟨v2,r2,rfl,R2,r⟩:=r.Bq;cases r.Pq;exact⟨a,[v1,v2],rfl,q.sq,rfl,v1,[v2],rfl,v2,[],rfl,rfl,k _ ((L.set i R1).set j R2)⟩
  · cases e
end
def GG(fe fo fi:RE):RS:=fun l h=>(fe l h).bind fun v=>(fo l v.2).bind fun o=>(fi l o.2).bind fun i=>match o.1,i.1 with
 | .ref n,.int k=>match i.2[n]? with
  | some (.lst xs)=>(JH xs.length k).bind fun j=>some (.nx l (i.2.set n (.lst (xs.set j v.1))))
  | _=>none
 | _,_=>none
noncomputable def lN(g:RG)(fe:RE):RS:=fun l h=>(fe l h).bind fun v=>(g v.1 l).bind fun l'=>some (.nx l' v.2)
noncomputable def UG(d:Dt)(k:Int):List Dt:=List.replicate k.toNat d
def MG(fa fb:RE):RE:=fun l h=>(fa l h).bind fun a=>(fb l a.2).bind fun k=>match k.1 with
 | .int i=>if -(2^62)<=i/\i<=1000000 then some (.lst (UG a.1 i),k.2)else none
 | _=>none
def C8(fa fb:RE):RE:=fun l h=>(fa l h).bind fun a=>(fb l a.2).bind fun k=>match k.1 with
 | .int i=>if -(2^62)<=i/\i<=1000000 then some (.ref k.2.length,k.2++[.lst (UG a.1 i)])else none
 | _=>none
noncomputable def AD(f:Dt->Option Dt):List Dt->Option (List Dt)
 | []=>some []
 | x::xs=>(f x).bind fun y=>(AD f xs).map fun ys=>y::ys
def BB(h:HI):Nat->Dt->Option Dt
 | 0,_=>none
 | n+1,.tup xs=>(AD (BB h n) xs).map .tup
 | n+1,.lst xs=>(AD (BB h n) xs).map .lst
 | n+1,.ref k=>match h[k]? with | some (.lst xs)=>(AD (BB h n) xs).map .lst | _=>none
 | _+1,.jz _=>none
 | _+1,.err _ _ _=>none
 | _+1,.thr _ _ _=>none
 | _+1,d=>some d
def CD:GC:=fun a b h=>(BB h 8 a).bind fun a'=>(BB h 8 b).bind fun b'=>(QA a' b' []).map fun r=>(r.1,h)
def bJ:GC:=fun a b h=>(BB h 8 a).bind fun a'=>(BB h 8 b).bind fun b'=>(tD a' b' []).map fun r=>(r.1,h)
noncomputable def ZE(t:RT)(body:RS):Nat->RS
 | 0,_,_=>none
 | n+1,l,h=>(t l h).bind fun c=>if c.1=true then(body l c.2).bind fun r=>match r with
  | .nx l' h'=>ZE t body n l' h'
  | .ct l' h'=>ZE t body n l' h'
  | .bk l' h'=>some (.nx l' h')
  | .rt d h'=>some (.rt d h')
  else some (.nx l c.2)
def mQ(n:Nat)(t:RT)(body:RS):RS:=fun l h=>ZE t body n l h
noncomputable def Qj(fo fa:RE):RE:=fun l h=>(fo l h).bind fun r=>match r.1 with
 | .ref n=>match r.2[n]? with
  | some (.lst _)=>(fa l r.2).bind fun q=>match q.1 with
   | .ref m=>match q.2[n]?,q.2[m]? with
    | some (.lst xs),some (.lst ys)=>if xs.length+ys.length<=sizeLine then some (.non,q.2.set n (.lst (xs++ys)))else none
    | _,_=>none
   | _=>none
  | _=>none
 | _=>none
noncomputable def RV(F:Dt->Dt->Option Dt)(fa fb:RE):RE:=fun l h=>(fa l h).bind fun r=>(fb l r.2).bind fun q=>(F r.1 q.1).map fun d=>(d,q.2)
noncomputable def Gj:Dt->Dt->Option Dt:=fun a b=>match a,b with | .int i,.int j=>some (.int (if j>i then j else i)) | _,_=>none
noncomputable def KM:Dt->Dt->Option Dt:=fun a b=>match a,b with | .int i,.int j=>some (.int (if j<i then j else i)) | _,_=>none
noncomputable def IL(fo fi fe:RE):RE:=fun l h=>(fo l h).bind fun r=>match r.1 with
 | .ref n=>match r.2[n]? with
  | some (.lst _)=>(fi l r.2).bind fun i=>(fe l i.2).bind fun q=>match i.1,q.2[n]? with
   | .int k,some (.lst xs)=>if 0<=k/\k<=1000000/\xs.length<sizeLine then some (.non,q.2.set n (.lst (xs.take k.toNat++q.1::xs.drop k.toNat)))else none
   | _,_=>none
  | _=>none
 | _=>none
end SM
namespace L2
section
variable{X:Cx}
end
section
variable{X:Cx}{pins:List (Addr×Obj)}{σ:List (Option V)}{H:Hp}{s:Shared}{h':Heap}
end
section
variable{X:Cx}
end
end L2
namespace SM
section
variable{X:Cx}{e o i a b:Expr}{f g fe fo fi fa fb:RE}{p pos pos':Pos}
theorem KJ(he:EM X e fe)(ho:EM X o fo)(hi:EM X i fi)
 (hs:swapsWithSole [.Subscript o i pos'] e pos.line X.env=pure false:=by rfl) (hw:swappedStores [.Subscript o i pos'] e X.env=pure none:=by rfl) (h1:(assignEach [.Subscript o i pos'] X.env).map (·.2)=[assign (.Subscript o i pos') X.env]:=by rfl)
 (ha:∀v,assign (.Subscript o i pos') X.env v=(do
  let ov <- holding [v] (eval o X.env)
  let iv <- holding [v,ov] (eval i X.env)
  standAt pos'
  holding [v,ov,iv] (setItem ov iv v)
  release [v,ov,iv] []):=by intro _;rfl):ZM X (.Assign [.Subscript o i pos'] e pos) (GG fe fo fi):=by
 with_unfolding_all
  exact PS.imp (KU he (B7 ho hi R0 ha) hs hw h1) fun D σ H zz=>by
   obtain⟨ρ,l,h,r,S,L,e,k⟩:=zz;obtain⟨⟨v,hv⟩,e1,e⟩:=nA e;obtain⟨⟨d,hd⟩,e2,e⟩:=nA e;obtain⟨⟨j,hj⟩,e3,e⟩:=nA e;refine⟨ρ,l,h,v,hv,S,L,e1,fun ρ1 u H1 R1 S1 E1=>⟨ρ1,l,hv,d,hd,S1,L.ext E1,e2,fun ρ2 y H2 R2 S2 E2=>⟨ρ2,l,hd,j,hj,S2,L.ext (E1.trans E2),e3,fun ρ3 z H3 R3 S3 E3=>?_⟩⟩⟩;cases d with
   | ref n=>
    cases j with
    | int kk=>
     dsimp only at e;split at e
     · rename_i xs q;obtain⟨jj,e4,e⟩:=nA e;cases e;obtain⟨aa,zz,ha⟩:=Hq.mp (lq.ext E3 _ R2);obtain⟨vs,g1,g2⟩:=S3.lst ha q;have hm:=mem_of_getElem? ha;refine⟨aa,vs,kk,jj,zz,gq.mp R3,g1,by rw[g2.length];exact e4,?_⟩;exact k ρ3 σ _ (S3.write ha (SH g1) ⟨_,MC,(g2.set jj (lq.ext (E2.trans E3) _ R1)).ext (Ext.write hm (SH g1))⟩) (L.ext (E1.trans (E2.trans (E3.trans (Ext.write hm (SH g1)))))) (E1.trans (E2.trans (E3.trans (Ext.write hm (SH g1)))))
     · cases e
    | _=>cases e
   | _=>cases e
theorem A5{tg:Expr}{t:RG}(he:EM X e fe)(hg:GM X tg t)(hs:swapsWithSole [tg] e pos.line X.env=pure false:=by rfl)(hw:swappedStores [tg] e X.env=pure none:=by rfl)
 (h1:(assignEach [tg] X.env).map (·.2)=[assign tg X.env]:=by rfl):ZM X (.Assign [tg] e pos) (lN t fe):=by
 with_unfolding_all exact PS.imp (KU he hg hs hw h1) fun D σ H zz=>by obtain⟨ρ,l,h,r,S,L,e,k⟩:=zz;obtain⟨⟨v,hv⟩,e1,e⟩:=nA e;obtain⟨l',e2,e⟩:=nA e;cases e;exact⟨ρ,l,h,v,hv,S,L,e1,fun ρ1 u H1 R1 S1 E1=>⟨ρ1,l,hv,v,l',S1,L.ext E1,R1,e2,fun σ' L'=>k ρ1 σ' H1 S1 L' E1⟩⟩
theorem LS{α:Type}(v:α):∀k:Nat,(List.replicate k [v]).flatten=List.replicate k v
 | 0=>rfl
 | k+1=>by rw[replicate_succ,flatten_cons,LS v k];rfl
theorem nT{K:Frag}{H:Hp}{ρ:Rg}{d:Dt}{v:V}(r:lq K H ρ d v):∀k:Nat,aq K H ρ (List.replicate k d) (List.replicate k v)
 | 0=>.nil
 | k+1=>.cons r (nT r k)
theorem K0{σ:L2.St}{H:Hp}{Q:VK}(own:Bool)(h:tM X.K (if own=true then C8 fa fb else MG fa fb) σ H Q):qR oR (pR (qV (tM X.K fa) rN)) (tM X.K fb) σ H Q:=by
 obtain⟨ρ,l,h,d,h',S,L,e,k⟩:=h;have e0:∃d1 h1 d2 h2 i,fa l h=some (d1,h1)/\fb l h1=some (d2,h2)/\d2=.int i/\(-(2^62)<=i/\i<=1000000)/\(if own=true then(Dt.ref h2.length,h2++[.lst (UG d1 i)])else(Dt.lst (UG d1 i),h2))=(d,h'):=by
  cases own with
  | true=>
   rw[if_pos rfl]at e;obtain⟨⟨d1,h1⟩,e1,e⟩:=nA e;obtain⟨⟨d2,h2⟩,e2,e⟩:=nA e;cases d2 with
   | int i=>obtain⟨c,e⟩:=QD e;exact⟨d1,h1,_,h2,i,e1,e2,rfl,c,e⟩
   | _=>cases e
  | false=>
   rw[if_neg Rc]at e;obtain⟨⟨d1,h1⟩,e1,e⟩:=nA e;obtain⟨⟨d2,h2⟩,e2,e⟩:=nA e;cases d2 with
   | int i=>obtain⟨c,e⟩:=QD e;exact⟨d1,h1,_,h2,i,e1,e2,rfl,c,e⟩
   | _=>cases e
 obtain⟨d1,h1,d2,h2,i,e1,e2,rfl,c,ed⟩:=e0;refine⟨ρ,l,h,d1,h1,S,L,e1,fun ρ1 v H1 R1 S1 E1=>⟨by simp only[Zd,jc];rw[sizeLine_eq];decide,fun q hq=>?_⟩⟩;refine⟨ρ1,l,h1,.int i,h2,S1.fresh hq,L.ext (E1.trans (Ext.fresh hq)),e2,fun ρ2 y H2 R2 S2 E2=>?_⟩;have hk:=E2.keep q _ MC (S1.out hq).1;have hi:i.toNat<=1000000:=by omega
 refine⟨q,i,[v],rfl,gq.mp R2,hk,by omega,by omega,by simp only[Zd,jc];rw[sizeLine_eq];omega,fun q2 hq2=>?_⟩;rw[LS];have RR:aq X.K H2 ρ2 (UG d1 i) (List.replicate i.toNat v):=nT (lq.ext ((Ext.fresh hq).trans E2) _ R1) _;have EE:=E1.trans ((Ext.fresh hq).trans E2);cases own with
 | true=>rw[if_pos rfl]at ed;cases ed;exact k _ _ _ (DI S2 RR hq2).1 (DI S2 RR hq2).2 (EE.trans (Ext.own hq2))
 | false=>rw[if_neg Rc]at ed;cases ed;exact k ρ2 _ _ (QJ S2 RR hq2) (S2.fresh hq2) (EE.trans (Ext.fresh hq2))
theorem oQ(ha:EM X a fa)(hb:EM X b fb)(hs:CB a=true:=by rfl):EM X (.BinOp (.List [a] p) .Mult b pos) (MG fa fb):=by with_unfolding_all exact PE.imp (jV Z6 (kQ (RC ha MD (HB hs _ _))) hb) fun σ H Q h=>K0 (fa:=fa) (fb:=fb) false h
end
section
variable{K:Frag}{H:Hp}{ρ:Rg}{h:HI}
theorem uq.bare(S:uq K ρ h H):uq K ⟨[],ρ.z⟩ [] H:=⟨nodup_nil,rfl,fun _ _ _ e=>by simp at e,fun a ha=>⟨by simp,(S.zt a ha).2⟩⟩
theorem uL{f:Dt->Option Dt}(hf:∀d d' v,f d=some d'->lq K H ρ d v->lq K H ⟨[],ρ.z⟩ d' v):∀(xs:List Dt){ys:List Dt}{vs:List V},AD f xs=some ys->aq K H ρ xs vs->aq K H ⟨[],ρ.z⟩ ys vs
 | [],ys,vs,e,r=>by cases e;rw[r.Pq];exact .nil
 | x::xs,ys,vs,e,r=>by
  obtain⟨v,rr,rfl,r1,r2⟩:=r.Bq;obtain⟨y,e1,e⟩:=nA (show(f x).bind _=some ys from e);cases q:AD f xs with
  | none=>rw[q]at e;cases e
  | some zs=>rw[q]at e;cases e;exact .cons (hf _ _ _ e1 r1) (uL hf xs q r2)
theorem TupAt.bare{a:Addr}{vs:List V}(t:TupAt K H ρ a vs):TupAt K H ⟨[],ρ.z⟩ a vs:=by
 rcases t with⟨n,t⟩ | t
 · exact .inl ⟨⟨by simp,n.2⟩,t⟩
 · exact .inr t
theorem LstAt.bare{a:Addr}{vs:List V}(t:LstAt K H ρ a vs):LstAt K H ⟨[],ρ.z⟩ a vs:=by
 rcases t with⟨n,t⟩ | t
 · exact .inl ⟨⟨by simp,n.2⟩,t⟩
 · exact .inr t
theorem IJ(S:uq K ρ h H):∀(n:Nat)(d d':Dt)(v:V),BB h n d=some d'->lq K H ρ d v->lq K H ⟨[],ρ.z⟩ d' v
 | 0,_,_,_,e,_=>by simp[BB]at e
 | n+1,.non,_,_,e,r=>by simp only[BB]at e;cases e;simp only[lq]at r ⊢;exact r
 | n+1,.bl _,_,_,e,r=>by simp only[BB]at e;cases e;simp only[lq]at r ⊢;exact r
 | n+1,.int _,_,_,e,r=>by simp only[BB]at e;cases e;simp only[lq]at r ⊢;exact r
 | n+1,.str _,_,_,e,r=>by simp only[BB]at e;cases e;simp only[lq]at r ⊢;exact r
 | n+1,.tup xs,_,_,e,r=>by
  simp only[BB]at e;cases q:AD (BB h n) xs with
  | none=>rw[q]at e;cases e
  | some ys=>rw[q]at e;cases e;obtain⟨a,vs,z,t,rr⟩:=xq.mp r;exact xq.mpr ⟨a,vs,z,t.bare,uL (fun d d' v=>IJ S n d d' v) xs q rr⟩
 | n+1,.lst xs,_,_,e,r=>by
  simp only[BB]at e;cases q:AD (BB h n) xs with
  | none=>rw[q]at e;cases e
  | some ys=>rw[q]at e;cases e;obtain⟨a,vs,z,t,rr⟩:=vq.mp r;exact vq.mpr ⟨a,vs,z,t.bare,uL (fun d d' v=>IJ S n d d' v) xs q rr⟩
 | n+1,.jz m,_,_,e,r=>by simp only[BB]at e;cases e
 | n+1,.err m m' k,_,_,e,r=>by simp only[BB]at e;cases e
 | n+1,.thr m m' k,_,_,e,r=>by simp only[BB]at e;cases e
 | n+1,.ref m,_,_,e,r=>by
  simp only[BB]at e;split at e
  · rename_i xs q0;cases q:AD (BB h n) xs with
    | none=>rw[q]at e;cases e
    | some ys=>rw[q]at e;cases e;obtain⟨a,z,ha⟩:=Hq.mp r;obtain⟨vs,g1,g2⟩:=S.lst ha q0;refine vq.mpr ⟨a,vs,z,.inl ⟨⟨by simp,fun hz=>(S.zt a hz).1 (mem_of_getElem? ha)⟩,.inl g1⟩,uL (fun d d' v=>IJ S n d d' v) xs q g2⟩
  · cases e
theorem uq.grown{H':Hp}(S:uq K ρ h H)(g:∀a o,H a=some o->H' a=some o):uq K ρ h H':=by
 have sm:Tq ρ ρ H H':=⟨fun _ _ _ n=>n,fun a u e _=>g a u e,fun _ _ e=>e,fun a q u e=>g a _ e⟩;refine⟨S.nd,S.len,fun n a o e1 e2=>?_,fun a ha=>?_⟩
 · have q:=S.ob n a o e1 e2;obtain⟨u,hu⟩:=q.some;exact dz.same sm ((g a u hu).trans hu.symm) q
 · obtain⟨n,o,e⟩:=S.zt a ha;exact⟨n,o,g a _ e⟩
end
section
variable{X:Cx}
theorem kU{f:Value->Value->Sem Value}{op:GC}(hb:∀a b h d h',op a b h=some (d,h')->∃k,d=.bl k)(ho:OM X f op):OM X f (fun a b h=>(BB h 8 a).bind fun a'=>(BB h 8 b).bind fun b'=>(op a' b' []).map fun r=>(r.1,h)):=by
 with_unfolding_all
  exact Vq.imp ho fun x y H Q zz=>by
   obtain⟨ρ,h,d1,d2,d,h',S,R1,R2,e,k⟩:=zz;obtain⟨a',e1,e⟩:=nA e;obtain⟨b',e2,e⟩:=nA e;cases q:op a' b' []with
   | none=>rw[q]at e;cases e
   | some r=>
    obtain⟨r,hr⟩:=r;rw[q]at e;cases e;refine⟨⟨[],ρ.z⟩,[],a',b',r,hr,S.bare,IJ S _ _ _ _ e1 R1,IJ S _ _ _ _ e2 R2,q,fun ρ' v H' R' S' E'=>?_⟩;obtain⟨kk,rfl⟩:=hb _ _ _ _ _ q;have g:∀a o,H a=some o->H' a=some o:=fun a o ha=>E'.keep a o ha (by simp)
    exact k ρ v H' (pq.mpr (pq.mp R')) (S.grown g) ⟨⟨[],by simp,by simp⟩,rfl,fun a o ha _=>g a o ha,E'.live,fun a q u e=>g a _ e⟩
theorem J7(a b:Dt)(h:HI)(d:Dt)(h':HI)(e:QA a b h=some (d,h')):∃k,d=.bl k:=by
 unfold QA at e;split at e
 · obtain⟨_,e⟩:=QD e;cases e;exact⟨_,rfl⟩
 · obtain⟨_,e⟩:=QD e;cases e;exact⟨_,rfl⟩
 · unfold gR at e;split at e
   · obtain⟨_,e⟩:=QD e;cases e;exact⟨_,rfl⟩
   · cases e
theorem i8(a b:Dt)(h:HI)(d:Dt)(h':HI)(e:tD a b h=some (d,h')):∃k,d=.bl k:=by
 unfold tD at e;split at e
 · obtain⟨_,e⟩:=QD e;cases e;exact⟨_,rfl⟩
 · obtain⟨_,e⟩:=QD e;cases e;exact⟨_,rfl⟩
 · unfold iR at e;split at e
   · obtain⟨_,e⟩:=QD e;cases e;exact⟨_,rfl⟩
   · cases e
theorem RJ(hu:X.A.units+64<cLine):OM X (compareOp .Eq) CD:=kU J7 (zB hu)
theorem jU(hu:X.A.units+64<cLine):OM X (compareOp .NotEq) bJ:=kU i8 (vH hu)
end
section
variable{X:Cx}{e o i a b:Expr}{f g fe fo fi fa fb:RE}{p pos pos' apos cpos:Pos}
theorem WZ{c:Expr}{body:List Stmt}{t:RT}{u:RS}{n:Nat}(hp:PassesOwn (model X.prog X.w) X.A X.env X.xe)(hc:TM X c t)(hb:MI X body u):ZM X (.While c body [] pos) (mQ n t u):=by
 with_unfolding_all
  exact PS.imp (o0 hp hc hb) fun D σ H zz=>by
   obtain⟨ρ,l,h,r,S,L,e,k⟩:=zz;refine⟨fun m σ' H'=>∃ρ' l' h',uq X.K ρ' h' H'/\Kq X.K H' ρ' l' σ'/\Ext ρ ρ' H H'/\ZE t u m l' h'=some r,⟨n,ρ,l,h,S,L,Ext.refl _ _,e⟩,?_⟩;rintro m σ' H' ⟨ρ',l',h',S',L',E',e'⟩;cases m with
   | zero=>simp only[ZE]at e';cases e'
   | succ m=>
    simp only[ZE]at e';obtain⟨⟨b,h1⟩,e1,e'⟩:=nA e';refine⟨ρ',l',h',b,h1,S',L',e1,fun ρ2 H2 S2 E2=>?_⟩;cases b with
    | true=>
     rw[if_pos rfl]at e';obtain⟨r1,e2,e'⟩:=nA e';refine zE ⟨fun σ3 H3=>∃m',m'<m+1/\∃ρ' l' h',uq X.K ρ' h' H3/\Kq X.K H3 ρ' l' σ3/\Ext ρ ρ' H H3/\ZE t u m' l' h'=some r,fun σ3 H3 q=>q,ρ2,l',h1,r1,S2,L'.ext E2,e2,?_⟩;cases r1 with
     | nx l2 h2=>exact fun ρ5 σ5 H5 S5 L5 E5=>⟨m,Nat.lt_succ_self _,ρ5,l2,h2,S5,L5,E'.trans (E2.trans E5),e'⟩
     | ct l2 h2=>exact fun ρ5 σ5 H5 S5 L5 E5=>⟨m,Nat.lt_succ_self _,ρ5,l2,h2,S5,L5,E'.trans (E2.trans E5),e'⟩
     | bk l2 h2=>cases e';exact fun ρ5 σ5 H5 S5 L5 E5=>k ρ5 σ5 H5 S5 L5 (E'.trans (E2.trans E5))
     | rt d2 h2=>cases e';exact fun ρ5 v5 H5 R5 S5 E5=>k ρ5 v5 H5 R5 S5 (E'.trans (E2.trans E5))
    | false=>rw[if_neg Rc]at e';cases e';exact yE (k ρ2 σ' H2 S2 (L'.ext E2) (E'.trans E2))
theorem V3 (hc:X.calm=true) (hg:Gl X "min") (hm:X.mg "min" =none) (ha:EM X a fa) (hb:EM X b fb) (hs:CB a=true:=by rfl) (hs2:CB b=true:=by rfl):EM X (.Call (.Name "min" p) [a,b] [] pos) (RV KM fa fb):=by
 with_unfolding_all
  exact PE.imp (BL (VY hc) hg hm PyProof.Rows.boot_min (RC ha (RC hb MD (HB hs2 _ _)) (HB hs _ _)) (he:=HB hs _ _) (hpl:=tI (by rw[all_cons,hs2];rfl))) fun σ H Q zz=>by
   obtain⟨ρ,l,h,d,h',S,L,e,k⟩:=zz;obtain⟨⟨d1,h1⟩,e1,e⟩:=nA e;obtain⟨⟨d2,h2⟩,e2,e⟩:=nA e;refine⟨ρ,l,h,d1,h1,S,L,e1,fun ρ1 v H1 R1 S1 E1=>⟨ρ1,l,h1,d2,h2,S1,L.ext E1,e2,fun ρ2 u H2 R2 S2 E2=>?_⟩⟩;cases d1 with
   | int i=>
    cases d2 with
    | int j=>cases e;exact⟨i,j,by rw[gq.mp R1,gq.mp R2],k ρ2 _ H2 (gq.mpr rfl) S2 (E1.trans E2)⟩
    | _=>cases e
   | _=>cases e
end
end SM
namespace L2
section
variable{X:Cx}
def C6:V->List V->Hp->VK->Prop:=fun x vs H Q=>∃(l:Addr)(xs:List V)(i:Int)(y:V),x=.ref l/\vs=[.int i,y]/\H l=some (.lst xs)/\0<=i/\i<=1000000/\xs.length<sizeLine/\Q .non (AB H l (.lst (xs.take i.toNat++y::xs.drop i.toNat)))
theorem S7(its:List Value)(w:Value)(i:Int)(h0:0<=i):((fun xs:Array Value=>have k:=if i<0 then(i+(xs.size:Int)).toNat else min i.toNat xs.size;(xs.extract 0 k).push w++xs.extract k) its.toArray)=(its.take i.toNat++w::its.drop i.toNat).toArray:=by
 have hneg:¬(i<0):=by omega
 simp only[if_neg hneg,size_toArray];have e1:its.toArray.extract 0 (min i.toNat its.length)=(its.take i.toNat).toArray:=by simp[take_eq_take_iff]
 have e2:its.toArray.extract (min i.toNat its.length) its.length=(its.drop i.toNat).toArray:=by
  by_cases hh:i.toNat<=its.length
  · rw[Nat.min_eq_left hh];have:List.take (its.length-i.toNat) (List.drop i.toNat its)=List.drop i.toNat its:=take_of_length_le (by rw[length_drop];exact Uc _);simp[this]
  · rw[Nat.min_eq_right (by omega),drop_eq_nil_of_le (by omega)];simp
 rw[e1,e2];simp
theorem MY:U9 X "list.insert" C6:=by intro pins s σ H x vs v us Q I rx rv h;obtain⟨l,xs,i,y,rfl,rfl,hH,h0,hk,hz,q⟩:=h;cases rx;obtain⟨u,w,rfl,ru,Dw⟩:=rv.two;obtain⟨t,rfl⟩:=ru;obtain⟨z,its,n,r,hl,e⟩:=I.Tw hH;have hfit:Builtin.List.listFitsIndex i=true:=fitsIndex_both (by omega) (by omega);refine call_meets F.slot_list_insert ⟨_,e,rfl⟩ F.entry_list_insert (F.args_list_insert_3 _ _ _) (AutoSeq1.list_insert_list_int_val_1 l its.toArray n i t w (by simp[hfit]) (by rw[size_toArray];omega)) ⟨e,?_⟩;refine⟨.non,_,I.Qk (its':=its.take i.toNat++w::its.drop i.toNat) hH e (S7 its w i h0) ((r.take i.toNat).append (.cons Dw (r.drop i.toNat))) ?_,rfl,q⟩;rw[length_append,Zd,length_take,length_drop];omega
end
end L2
namespace SM
section
variable{X:Cx}{e o i a b:Expr}{f g fe fo fi fa fb:RE}{p pos pos' apos cpos:Pos}
theorem gZ (ho:EM X a fa) (hi:EM X i fi) (hb:EM X b fb) (hbase:attributeBase a "insert" X.env (eval a X.env)=eval a X.env:=by rfl)
 (hline:(apos.endLine==cpos.line)=true:=by rfl) (hs:CB i=true:=by rfl) (hs2:CB b=true:=by rfl) :
 EM X (.Call (.Attribute a "insert" apos) [i,b] [] cpos) (IL fa fi fb):=by
 with_unfolding_all
  exact PE.imp (eK PySem.F.plainAttrs_list PySem.F.slot_list_insert PySem.F.type_list_insert MY ho (RC hi (RC hb MD (HB hs2 _ _)) (HB hs _ _)) hbase (by rw[HB hs,HB hs2];rfl) hline (HB hs _ _) (tI (by rw[all_cons,hs2];rfl))) fun σ H Q zz=>by
   obtain⟨ρ,l,h,d,h',S,L,e,k⟩:=zz;obtain⟨⟨d1,h1⟩,e1,e⟩:=nA e;refine⟨ρ,l,h,d1,h1,S,L,e1,fun ρ1 v H1 R1 S1 E1=>?_⟩;cases d1 with
   | ref n=>
    dsimp only at e;split at e
    · rename_i xs0 q0;obtain⟨⟨d2,h2⟩,e2,e⟩:=nA e;obtain⟨⟨d3,h3⟩,e3,e⟩:=nA e;refine⟨wU S1 R1 q0,ρ1,l,h1,d2,h2,S1,L.ext E1,e2,fun ρ2 y H2 R2 S2 E2=>⟨ρ2,l,h2,d3,h3,S2,L.ext (E1.trans E2),e3,fun ρ3 z H3 R3 S3 E3=>?_⟩⟩;cases d2 with
      | int kk=>
       dsimp only at e;cases q1:h3[n]? with
       | none=>rw[q1]at e;cases e
       | some ob=>
        rw[q1]at e;cases ob with
        | lst xs=>obtain⟨⟨c1,c2,c3⟩,e⟩:=QD e;cases e;obtain⟨a,z0,ha⟩:=Hq.mp R1;subst z0;have ha2:=(E2.trans E3).get ha;obtain⟨vs,g1,g2⟩:=S3.lst ha2 q1;have hm:=mem_of_getElem? ha2;refine⟨a,vs,kk,z,rfl,by rw[gq.mp R2],g1,c1,c2,by rw[g2.length];exact c3,k ρ3 _ _ (yq.mpr rfl) (S3.write ha2 (SH g1) ⟨_,MC,?_⟩) (E1.trans (E2.trans (E3.trans (Ext.write hm (SH g1)))))⟩;exact((g2.take _).append (.cons R3 (g2.drop _))).ext (Ext.write hm (SH g1))
        | _=>cases e
      | _=>cases e
    · cases e
   | _=>cases e
end
end SM
namespace L2
section
variable{κ:Type}[DecidableEq κ]
noncomputable def tG(kvs:List (κ×V))(k:κ):Option V:=(kvs.find? fun kv=>decide (kv.1=k)).map (·.2)
noncomputable def JM(kvs:List (κ×V))(k:κ):List (κ×V):=kvs.filter fun kv=>decide (kv.1≠k)
theorem TZ{p:κ×V}{r:List (κ×V)}{k:κ}(e:p.1=k):tG (p::r) k=some p.2:=by simp[tG,find?_cons,e]
theorem SZ{p:κ×V}{r:List (κ×V)}{k:κ}(e:¬p.1=k):tG (p::r) k=tG r k:=by simp[tG,find?_cons,e]
theorem uw.getD{o:Option V}{u:Option Value}{d:V}{d':Value}(r:uw o u)(rd:RelV d d'):RelV (o.getD d) (u.getD d'):=by
 cases o with
 | none=>cases u with
  | none=>exact rd
  | some _=>exact(show False from r).elim
 | some _=>cases u with
  | none=>exact(show False from r).elim
  | some _=>exact r
theorem KV.drop{kvs:List (κ×V)}{vs:List (κ×Value)}(r:KV kvs vs)(k:κ):KV (JM kvs k) (without vs k):=by
 unfold KV at r ⊢;unfold JM without
 induction r with
 | nil=>exact .nil
 | @cons p q ps qs h t ih=>
  obtain⟨h1,h2⟩:=h;rw[filter_cons,filter_cons];by_cases e:p.1=k
  · have a:¬decide (p.1≠k)=true:=by simp[e]
    have b:¬decide (q.1≠k)=true:=by simp[h1.symm.trans e]
    rw[if_neg a,if_neg b];exact ih
  · have e':¬q.1=k:=fun z=>e (h1.trans z)
    have a:decide (p.1≠k)=true:=by simp[e]
    have b:decide (q.1≠k)=true:=by simp[e']
    rw[if_pos a,if_pos b];exact .cons ⟨h1,h2⟩ ih
theorem KV.keys{kvs:List (κ×V)}{vs:List (κ×Value)}(r:KV kvs vs):kvs.map (·.1)=vs.map (·.1):=by
 unfold KV at r
 induction r with
 | nil=>rfl
 | cons h t ih=>rw[uc,uc,ih,h.1]
theorem KV.length{kvs:List (κ×V)}{vs:List (κ×Value)}(r:KV kvs vs):kvs.length=vs.length:=Paired.length r
end
abbrev KT(H:Hp):List (List gC×V)->List (List gC×Addr×Value)->Prop:=Paired fun p q=>p.1=q.1/\H q.2.1=some (.tup (p.1.map kV))/\RelV p.2 q.2.2
theorem KT.keeps{H H':Hp}{kvs:List (List gC×V)}{xs:List (List gC×Addr×Value)}(r:KT H kvs xs)(ht:∀b ys,H b=some (.tup ys)->H' b=some (.tup ys)):KT H' kvs xs:=
 Paired.Vw r fun _ _ z=>⟨z.1,ht _ _ z.2.1,z.2.2⟩
section
variable{P:Program}{w:World}{H:Hp}{h:Heap}{a:Addr}
end
section
variable{X:Cx}{pins:List (Addr×Obj)}{σ:St}{H:Hp}{s:Shared}{a:Addr}{y v:V}{u r:Value}{o:Option V}{A:Around}{E:Value->Shared->Prop}
end
section
variable{X:Cx}{pins:List (Addr×Obj)}{σ:St}{H:Hp}{s:Shared}{a:Addr}{kvs:List (gC×V)}{k:gC}{u:Value}{A:Around}{E:Value->Shared->Prop}
end
section
variable{X:Cx}{o i e value:Expr}{pos pos' tpos:Pos}{td ty tv:TE}
end
section
variable{X:Cx}{pos:Pos}
end
structure M1(X:Cx)(o:Expr)(m:Str)(apos:Pos)(e:Expr)(cpos:Pos):Prop where
 base:attributeBase o m X.env (eval o X.env)=eval o X.env
 few:((backTo cpos (starEach [e] X.env)).all (fun x=>!x.1)&&(backToKw cpos (keywordEach [] X.env)).all (fun x=>x.1.isSome)
  && decide (([e]:List Expr).length+([]:List Keyword).length+(if([]:List Keyword).isEmpty then 0 else 1)<30))=true
 line:(apos.endLine==cpos.line)=true
 trees:backTo cpos (starEach [e] X.env)=[(false,eval e X.env)]
structure M2(X:Cx)(o:Expr)(m:Str)(apos:Pos)(e f:Expr)(cpos:Pos):Prop where
 base:attributeBase o m X.env (eval o X.env)=eval o X.env
 few:((backTo cpos (starEach [e,f] X.env)).all (fun x=>!x.1)&&(backToKw cpos (keywordEach [] X.env)).all (fun x=>x.1.isSome)
  && decide (([e,f]:List Expr).length+([]:List Keyword).length+(if([]:List Keyword).isEmpty then 0 else 1)<30))=true
 line:(apos.endLine==cpos.line)=true
 trees:backTo cpos (starEach [e,f] X.env)=[(false,eval e X.env),(false,eval f X.env)]
section
variable{X:Cx}{pins:List (Addr×Obj)}{σ:St}{H:Hp}{s:Shared}{a:Addr}{y d:V}{u r:Value}{o:Option V}{A:Around}{E:Value->Shared->Prop}
end
section
variable{X:Cx}{o e f:Expr}{apos cpos:Pos}{td ty tx:TE}
end
section
variable{X:Cx}{pins:List (Addr×Obj)}{σ:St}{H:Hp}{s:Shared}{a:Addr}{kvs:List (gC×V)}{A:Around}{E:Value->Shared->Prop}
end
section
variable{X:Cx}{pins:List (Addr×Obj)}{σ:St}{H:Hp}{s:Shared}{a:Addr}{y:V}{u:Value}{A:Around}{E:Value->Shared->Prop}
end
section
variable{prog:Program}{w:World}{A:Around}{E:Value->Shared->Prop}{s:Shared}
end
section
variable{X:Cx}
end
end L2
namespace SM
section
variable{K:Frag}{H:Hp}{ρ:Rg}
abbrev KD(K:Frag)(H:Hp)(ρ:Rg)(kvs:List (List Int×Dt))(vs:List (List gC×V)):Prop:=vs.map (·.1)=kvs.map (fun p=>p.1.map Sum.inl)/\aq K H ρ (kvs.map (·.2)) (vs.map (·.2))
theorem KD.Pq{vs:List (List gC×V)}(r:KD K H ρ [] vs):vs=[]:=by have:=r.1;simpa using this
theorem KD.Bq{p:List Int×Dt}{kvs:List (List Int×Dt)}{vs:List (List gC×V)}(r:KD K H ρ (p::kvs) vs):∃v rs,vs=(p.1.map Sum.inl,v)::rs/\lq K H ρ p.2 v/\KD K H ρ kvs rs:=by
 obtain⟨h1,h2⟩:=r;cases vs with
 | nil=>simp at h1
 | cons q rs=>simp only[uc,List.cons.injEq]at h1;obtain⟨v,r',e,g1,g2⟩:=aq.Bq (by simpa only[uc]using h2);simp only[uc,List.cons.injEq]at e;obtain⟨q1,q2⟩:=q;have h11:q1=p.1.map Sum.inl:=h1.1;have e1:q2=v:=e.1;subst e1;exact⟨q2,rs,by rw[h11],g1,h1.2,by rw[e.2];exact g2⟩
theorem KD.cons{p:List Int×Dt}{v:V}{kvs:List (List Int×Dt)}{vs:List (List gC×V)}(g:lq K H ρ p.2 v)(r:KD K H ρ kvs vs):KD K H ρ (p::kvs) ((p.1.map Sum.inl,v)::vs):=
 ⟨by simp only[uc];rw[r.1],.cons g r.2⟩
theorem KD.length{kvs:List (List Int×Dt)}{vs:List (List gC×V)}(r:KD K H ρ kvs vs):vs.length=kvs.length:=by have:=congrArg List.length r.1;simpa using this
end
section
variable{X:Cx}{e o i d a b f:Expr}{fe fo fi fa fb fy fx:RE}{pos pos' apos cpos:Pos}
end
end SM
namespace L2
section
variable{prog:Program}{w:World}{A:Around}{R:Result->Shared->Prop}{I:Addr}{fp wr:List Addr}{n:Nat}{P:Nat->Value->Prop}{St:Nat->Heap->Prop}
end
section
variable{prog:Program}{w:World}{A:Around}{E:Value->Shared->Prop}{s:Shared}
end
section
variable{X:Cx}{e d:Expr}{ta:TA}{td:TE}{p pos kp:Pos}
end
end L2
namespace SM
section
variable{X:Cx}{e d:Expr}{fa fd:RE}{p pos kp:Pos}
end
end SM
namespace L2
section
variable{X:Cx}
end
end L2
namespace SM
section
variable{X:Cx}{e:Expr}{f:RE}{p p' pos pos':Pos}
end
end SM
namespace L2
section
variable{X:Cx}{tg:Expr}
end
end L2
namespace SM
section
variable{X:Cx}{tg:Expr}
end
theorem XI{c:Prop}[Decidable c]{α:Type}{x:Option α}{b:α}(e:(if c then x else none)=some b):c/\x=some b:=by
 by_cases h:c
 · rw[if_pos h]at e;exact⟨h,e⟩
 · rw[if_neg h]at e;cases e
noncomputable def clsOf(K:Frag)(x:Str)(C:Addr):Prop:=nsIn K mainGlobals x=some (some (.ref C))
theorem clsOf.inj{K:Frag}{x:Str}{C C':Addr}(h:clsOf K x C)(h':clsOf K x C'):C=C':=by have:=h.symm.trans h';cases this;rfl
section
variable{P:Program}{w:World}{K:Frag}{mg:Str->Option Value}{base:Heap}
end
section
variable{X:Cx}{e o value:Expr}{es:List Expr}{x f m:Str}{fo fe:RE}{g:RA}{pos pos' apos p:Pos}{k k' n:Nat}{F:fC}
end
section
variable{P:Program}{w:World}{K:Frag}{mg:Str->Option Value}{base:Heap}
end
section
variable{X:Cx}{k k' n:Nat}{F:fC}{x:Str}{p pos:Pos}{e:Expr}{es:List Expr}{g:RA}{Vz:List Dt}
end
def JB(K:Frag)(x:Str)(st:Stmt):Prop:=∃(f:Addr)(oc:Value)(od:Option Addr)(kV dc pm:Value)(an:Option Addr)(cd ct:Value)(sl:Array (Option Value)),nsIn K mainGlobals x=some (some (.ref f))/\
 K.lookup f=some ⟨oc,od,.func (fnOf x x (BG st) (FD st) (LA st) .none kV dc pm an cd ct),sl⟩/\PySem.W.codeIn K cd x=true/\keepIn K (.ref f)=true
section
variable{K:Frag}{h:Heap}{mg:Str->Option Value}{x m qual:Str}{st:Stmt}{ps:List Str}{C:Addr}{d:Int}
theorem PB(X:K.In h)(G:h.Ns mainGlobals mg)(D:JB K x st)(hb:∀(kV doc pm:Value)(an:Option Addr)(cdv ct:Value)(us:List Value),us.length=ps.length->bindArgs (fnOf x x (BG st) (FD st) (LA st) .none kV doc pm an cdv ct) ⟨us,[]⟩=pure (ps.zip us)):IB K mg x st ps:=by obtain⟨f,oc,od,kV,dc,pm,an,cd,ct,sl,a,l,c,k⟩:=D;have F:=pQ l c k;exact⟨⟨f,_,F,PySem.W.mg_of X G a,F.binds hb⟩⟩
end
section
variable{Q:List Value->Prop}
theorem YI(h:Q []):∀us:List Value,us.length=0->Q us | [],_=>h
theorem NE{n:Nat}(h:∀a us,us.length=n->Q (a::us)):∀us:List Value,us.length=n+1->Q us | a::us,e=>h a us (Nat.succ.inj e)
theorem kF(h:∀a,Q [a]):∀us:List Value,us.length=1->Q us:=NE fun a=>YI (h a)
theorem OC(h:∀a b,Q [a,b]):∀us:List Value,us.length=2->Q us:=NE fun a=>NE fun b=>YI (h a b)
theorem RH(h:∀a b c,Q [a,b,c]):∀us:List Value,us.length=3->Q us:=NE fun a=>NE fun b=>NE fun c=>YI (h a b c)
theorem YV(h:∀a b c d,Q [a,b,c,d]):∀us:List Value,us.length=4->Q us:=NE fun a=>NE fun b=>NE fun c=>NE fun d=>YI (h a b c d)
theorem ZV(h:∀a b c d e,Q [a,b,c,d,e]):∀us:List Value,us.length=5->Q us:=NE fun a=>YV (h a)
end
theorem KB{N P:List Str}{sc:Scope}(a:sc.kind=.function:=by exact rfl)(b:sc.isCoroutine=false:=by exact rfl)(c:sc.isGenerator=false:=by exact rfl)(d:N.Nodup:=by decide +kernel)(e:N.take P.length=P:=by exact rfl)
 (f:∀x∈P,sc.names.lookup x=some .local\/sc.names.lookup x=some .cell:=by decide +kernel) (g:∀y∈sc.names,y.2≠.free:=by decide +kernel):rB N P sc:=⟨a,b,c,d,e,f,g⟩
theorem eB {X:Cx} {k k' n:Nat} {x:Str} {F:fC} {e:Expr} {es:List Expr} {g:RA} {p pos:Pos} (c:fD X.prog X.w X.K X.mg X.base k n x F) (hr:Gq k' X.A) (ha:AM X (e::es) g) (hk:k<=k':=by decide) (hg:Gl X x:=by exact rfl) (hdb:(x==("__debug__" :Str))=false:=by decide)
 (he:CB e=true:=by rfl) (hpl:es.all CB=true:=by rfl):EM X (.Call (.Name x p) (e::es) [] pos) (UA F [] g):=O3 c hr hk hg ha hdb he hpl
end SM
namespace L2
section
variable{X:Cx}
end
end L2
namespace SM
section
variable{X:Cx}{a b:Expr}{fa fb:RE}
end
end SM
namespace L2
section
variable{P:Program}{w:World}{A:Around}{E:Value->Shared->Prop}{h:Heap}{g:Array GenState}{d:Drawn}{t:Nat}{os:OsState}
variable{nm q:Str}{C N:Addr}{bs bm bt:List Value}{hd:Bool}{sn:List Str}{sub:List Value}{ab:Bool}{col:Option Bool}{dd:Option Addr}{k0 k1 k2 k3 k5:Option Value}{B nw ini:String}
noncomputable abbrev wR(h:Heap)(C:Addr):Obj:={ cls:=.ref C,data:=.fields #[.ref h.objs.size,.none,.none,.none,.bool false,.none] }
noncomputable abbrev xW (us:List Value):Obj:={ cls:=.type "tuple",data:=.seq us.toArray }
abbrev CH(h:Heap)(C:Addr)(us:List Value):Heap:=(h.push (xW us)).push (wR h C)
theorem AJ{us:List Value}{b:Addr}{o:Obj}(e:h.get? b=some o):(CH h C us).get? b=some o:=Heap.get?_push_of_some _ (Heap.get?_push_of_some _ e)
theorem qS{us:List Value}:(CH h C us).get? (h.objs.size+1)=some (wR h C):=by heap_get
theorem D1(F:ExcBaseFacts B nw ini bt)(T:OwnTail h bt bm){mN:Str->Option Value}{us:List Value}{f:Addr}{o:Obj}{Q:Fin->Shared->Prop}(hC:h.get? C=some (excClassObj nm q C N bs bm hd sn sub ab col dd k0 k1 k2 k3 k5 nw))(hn:h.Ns N mN)
 (hi:mN "__init__" =some (.ref f)) (hf:h.get? f=some o) (ho:o.cls=.type "function")
 (go:wpAny (model P w) A (call (.ref f) (.ref (h.objs.size+1)::us)) (fun r s'=>r=.none/\Q (.done (.ret (.ref (h.objs.size+1)))) s') E ⟨CH h C us,g,d,t,os⟩) (hz:us.length<=sizeLine:=by size_fits) :
 wpAny (model P w) A (Builtin.«type.__call__» ⟨.ref C::us,[]⟩) Q E ⟨h,g,d,t,os⟩:=by
 repeat (first | with_reducible refine wpAny_loadPart_at hC ?_ | with_reducible refine wpAny_madeBy_exc hC ?_ | wp_step)
 refine codeAny_call_builtin_code (Code.quiet_builtin _ F.quiet) (wpAny_check_new_subT F T hC (codeAny_exc_new_subT F T hC ?_ hz));show wpAny _ _ _ _ _ _;have c1:(CH h C us).get? C=some _:=AJ hC;have n1:(CH h C us).Ns N mN:=let ⟨o,es,ep,e,r⟩:=hn;⟨o,es,ep,AJ e,r⟩;have i1:(Value.ref C::bm).contains (.ref C)=true:=by simp
 have x1:=qS (h:=h) (C:=C) (us:=us);unfold isInstance
 repeat (first | with_reducible refine wpAny_loadPart_at x1 ?_ | (with_reducible refine wpAny_isSubtype_exc c1 ?_;rw[i1]) | wp_step)
 show wpAny _ _ (typeLookup (.ref C) _) _ _ _;refine wpAny_typeLookup_tail c1 n1 (T.keeps fun b o e=>AJ e) F.mroIs F.init.lookup ?_;rw[hi];refine wpAny_holding (wpAny_bind ?_);unfold bindSpecial;refine wpAny_bind (wpAny_typeOf (T := "function") ⟨_,AJ hf,ho⟩ ?_);rw[if_pos (by decide)];refine wpAny_pure (wpAny_bind (wpAny_mono go (fun r s' zz=>?_) fun _ _ x=>x));obtain⟨hr,hQ⟩:=zz;subst hr
 wp_walk
 exact hQ
theorem yZ(F:ExcBaseFacts B nw ini bt)(T:OwnTail h bt bm){mN:Str->Option Value}{us:List Value}{f:Addr}{o:Obj}{Q:Value->Shared->Prop}(hC:h.get? C=some (excClassObj nm q C N bs bm hd sn sub ab col dd k0 k1 k2 k3 k5 nw))(hn:h.Ns N mN)
 (hi:mN "__init__" =some (.ref f)) (hf:h.get? f=some o) (ho:o.cls=.type "function")
 (go:wpAny (model P w) (A.under (.builtin "type.__call__" ⟨.ref C::us,[]⟩)) (call (.ref f) (.ref (h.objs.size+1)::us)) (fun r s'=>r=.none/\Q (.ref (h.objs.size+1)) s') E ⟨CH h C us,g,d,t,os⟩) (hz:us.length<=sizeLine:=by size_fits) :
 wpAny (model P w) A (call (.ref C) us) Q E ⟨h,g,d,t,os⟩:=by
 have f1:=tc_lookup;have f2:=tc_bind (.ref C);have hT:(⟨h,g,d,t,os⟩:Shared).TypeIs (.ref C) "type" :=⟨_,hC,rfl⟩;refine wpAny_call (codeAny_of_tree ?_);show wpAny _ _ (callAny (.ref C) _) _ _ _
 repeat (any_goals (first | assumption | with_reducible refine wpAny_loadPart_at hC ?_ | wp_step))
 exact⟨rfl,codeAny_call_builtin_at (Code.quiet_builtin _ (by decide +kernel)) entry_typeCall (wpAny_check_type_call_sub hC (D1 F T hC hn hi hf ho go hz))⟩
end
open PySem.W
section
variable{P:Program}{w:World}{A:Around}{E:Value->Shared->Prop}{s:Shared}{K:Frag}{x C:Addr}{ox:Obj}{od:Option Obj}{n:Str}{ex:Bool}{Q:Value->Shared->Prop}{v:Value}
theorem zW (X:K.In s.heap) (I:InstAt s.heap x ox C od) (ha:findIn K (.ref C) "__getattribute__" =some (some (.builtin "BaseException.__getattribute__"))) (hk:findIn K (.ref C) "__getattr__" =some none)
 (hb:mroIn K C (.type "BaseException")=some true) (hf:findObj K C od n=some (.value v)) (hh:handedIn v=true) (h:Q v { s with toks:=s.toks+1 }):wpAny (model P w) A (getAttr (.ref x) n ex) Q E s:=by
 obtain⟨hp,g,d,t,os⟩:=s;have L0:=I.type (M:=model P w);have L1:=looks_findIn (M:=model P w) X ha;have L2:=looks_find (M:=model P w) X I hf;have e1:(Value.builtin "BaseException.__getattribute__" ==Value.builtin "object.__getattribute__")=false:=by decide +kernel
 unfold getAttr getAttrBy;refine wpAny_bind (wpAny_mkText (wpAny_holding (wpAny_bind (L0.at (wpAny_bind (L1.at ?_))))));dsimp only;rw[e1,Bool.and_false,if_neg Rc];refine wpAny_bind ((looks_hook X (mc:=.ref C) (r:=none) (by rw[if_pos (by rfl)];exact hk)).at (wpAny_bind (wpAny_attempt (wpAny_holding ?_))));unfold callGetattribute;rw[show(ex&&onTheHeap (Value.builtin "BaseException.__getattribute__"))=false from Bool.and_false _,if_neg Rc];unfold boundAndCalled;rw[PySem.F.attr_ValueError.ga.bind];refine wpAny_bind (wpAny_pure ?_);show wpAny _ _ (call (.builtin "BaseException.__getattribute__") [.ref x,.str n t]) _ _ _;refine wpAny_call (codeAny_call_builtin PySem.F.attr_ValueError.ga.plain PySem.F.entry_bexc_ga ?_);refine @check_slot (model P w) _ _ ⟨hp,g,d,t+1,os⟩ "BaseException.__getattribute__" "BaseException" "__getattribute__" (.ref x) [.str n t] [] _ (by decide +kernel) (by decide +kernel) (L0.andThen (looks_mroIn X hb)) (PySem.F.args_bexc_ga _ _) ?_;unfold Builtin.«object.__getattribute__»;refine wpAny_bind (wpAny_pure (wpAny_bind (wpAny_pure (wpAny_bind (L0.at (wpAny_bind (L2.at (wpAny_pure ?_))))))));show wpAny _ _ (handedOut v) _ _ _;rw[handedOut_of hh];exact wpAny_pure h
end
open PySem.W
noncomputable def jE:List Value->Bool
 | .ref _::r=>jE r
 | l=>l == [.type "ValueError", .type "Exception", .type "BaseException", .type "object"]
theorem VR (y:Value):∀{l:List Value},jE l=true->PySem.refuseLoop y "__setattr__" l=pure ()
 | .ref c::r,e=>by rw[PySem.refuseLoop_ref];exact VR y (l:=r) e
 | [],e=>by cases e
 | .none::_,e=>by cases e
 | .type x::r,e=>by rw[beq_iff_eq.mp (show(Value.type x::r==_)=true from e)];exact PySem.F.store_ValueError.passes y
 | .bool _::_,e=>by simp[jE]at e
 | .int _ _::_,e=>by simp[jE]at e
 | .float _ _::_,e=>by simp[jE]at e
 | .str _ _::_,e=>by simp[jE]at e
 | .bytes _ _::_,e=>by simp[jE]at e
 | .ellipsis::_,e=>by simp[jE]at e
 | .notImplemented::_,e=>by simp[jE]at e
 | .builtin _::_,e=>by simp[jE]at e
theorem Z1:∀{l:List Value},jE l=true->l.contains (.type "object")=true:=by
 intro l
 induction l with
 | nil=>intro e;cases e
 | cons a r ih=>
  intro e;cases a with
  | ref c=>rw[contains_cons,ih e,Bool.or_true]
  | _=>rw[beq_iff_eq.mp (show(_::r==_)=true from e)];decide
section
variable{P:Program}{w:World}{A:Around}{E:Value->Shared->Prop}{s:Shared}{K:Frag}{x C:Addr}{ox:Obj}{n:Str}{Q:Unit->Shared->Prop}{v:Value}{cd:ClassData}
theorem BW (X:K.In s.heap) (hx:s.heap.get? x=some ox) (hc:ox.cls=.ref C) (hn:ox.dict=none) {vs:Array Value} (hd:ox.data=.fields vs) (hs:findIn K (.ref C) "__setattr__" =some (some (.builtin "object.__setattr__")))
 (hk:clsIn K C=some cd) (ho:jE cd.mro=true) (hh:cd.hasDict=true) (ht:takerIn K C n=some none)
 (h:∀h' tk,h'.get? x=some { ox with dict:=some s.heap.objs.size }->h'.Ns1 s.heap.objs.size (fun y=>if y=n then some v else none)->(∀b o,b≠x->s.heap.get? b=some o->h'.get? b=some o)->Q () { s with heap:=h',toks:=tk }) :
 wpAny (model P w) A (setAttr (.ref x) n v) Q E s:=by
 have I:InstAt s.heap x ox C none:=⟨hx,hc,by unfold notCls;rw[hd],by rw[hn];trivial⟩;refine PySem.W.set_plain X I hs ?_;have SF:=PySem.F.store_object;have ne:cd.mro.isEmpty=false:=by cases q:cd.mro with | nil=>rw[q]at ho;cases ho | cons _ _=>rfl
 have sub:Looks (model P w) s.heap (isInstance (.ref x) (.type "object")) true:=I.type.andThen (looks_mroIn X (by unfold mroIn;rw[hk,Dc,if_neg (by rw[ne];decide),Z1 ho]));refine codeAny_call_builtin SF.slot.plain SF.entry (@check_slot (model P w) _ _ { s with toks:=s.toks+1 } "object.__setattr__" "object" "__setattr__" (.ref x) [.str n s.toks,v] [] _ SF.kind SF.split sub (SF.args (.ref x) (.str n s.toks) v) ?_);obtain⟨attr,ha,hr⟩:=Option.bind_eq_some_iff.mp ht;have hm:Looks (model P w) s.heap (mroOf (.ref C)) cd.mro:=(looks_clsIn X hk).andThen .now;have L3:Looks (model P w) s.heap (PySem.Builtin.ObjectAttr.storeTaker? attr) none:=by
  cases attr with
  | none=>exact .now
  | some a=>
   obtain⟨b,hb,e⟩:=Option.map_eq_some_iff.mp hr;refine(looks_takesIn X hb).andThen ?_;cases b with
   | false=>exact .now
   | true=>cases e
 rw[osa_eq,PySem.refuse_eq];obtain⟨hp,g,d,t,os⟩:=s;refine wpAny_bind (wpAny_bind (I.type.at (wpAny_bind (hm.at ?_))));rw[VR _ ho];refine wpAny_pure (wpAny_bind (I.type.at (wpAny_bind ((looks_findIn X ha).at (wpAny_bind (L3.at ?_))))));dsimp only;unfold PySem.Builtin.ObjectAttr.storeInOwnDict;obtain⟨oc,odi,oda,osl⟩:=ox;dsimp only at hc hn hd;subst hc hn hd;refine wpAny_bind (wpAny_pure (wpAny_bind (wpAny_bind (wpAny_loadPart hx ?_))));refine wpAny_bind ((looks_clsIn X hk).at ?_);rw[hh,if_neg (by decide)];dsimp only;rw[if_neg (by simp[typeHasDict])];have x1:(hp.push { cls:=.type "dict",data:=.dict #[] }).get? x=some _:=Heap.get?_push_of_some _ hx;have xn:x≠hp.objs.size:=Nat.ne_of_lt (Heap.lt_size hx);refine wpAny_bind (wpAny_alloc' (wpAny_bind (wpAny_update' x1 (wpAny_pure ?_))));have d1:((hp.push { cls:=.type "dict",data:=.dict #[] }).update x fun o=>{ cls:=o.cls,dict:=some hp.objs.size,data:=o.data,slots:=o.slots }).get? hp.objs.size=some { cls:=.type "dict",data:=.dict #[] }:=
  (Heap.get?_update_ne _ _ _ _ xn.symm).trans (Heap.get?_push_at rfl rfl)
 have u1:((hp.push { cls:=.type "dict",data:=.dict #[] }).update x fun o=>{ cls:=o.cls,dict:=some hp.objs.size,data:=o.data,slots:=o.slots }).get? x=some ⟨.ref C,some hp.objs.size,.fields vs,osl⟩:=Heap.get?_update_self _ x1 rfl;have n1:((hp.push { cls:=.type "dict",data:=.dict #[] }).update x fun o=>{ cls:=o.cls,dict:=some hp.objs.size,data:=o.data,slots:=o.slots }).Ns hp.objs.size (fun _=>none):=⟨_,#[],_,d1,rfl,fun e he=>absurd he (by simp),fun _=>rfl⟩;show wpAny _ _ (PySem.Builtin.ObjectAttr.storeInDict hp.objs.size (.str n t) n v) _ _ _;unfold PySem.Builtin.ObjectAttr.storeInDict PySem.Builtin.ObjectAttr.newKeyGuard;refine wpAny_bind (wpAny_pure (wpAny_bind (wpAny_nsSet1 (Heap.Ns1.of_empty n1) fun h' hn' hs=>?_)));obtain⟨oD,esD,epD,hoD,hdD,hcD⟩:=hn'.count (Within.cons n v Within.nil);refine wpAny_bind (wpAny_lookBehind hoD (by rw[hdD];exact pastItsLine_dict (Nat.le_trans hcD (by rw[Zd,jc,sizeLine_eq];omega))) ?_)
 wp_walk
 exact h h' _ ((hs.2 x xn).trans u1) hn' fun b o hb e=>(hs.2 b (Nat.ne_of_lt (Heap.lt_size e))).trans ((Heap.get?_update_ne _ _ _ _ hb).trans (Heap.get?_push_of_some _ e))
end
open PySem.W
section
variable{P:Program}{w:World}{A:Around}{E:Value->Shared->Prop}{h:Heap}{g:Array GenState}{d:Drawn}{t:Nat}{os:OsState}{x:Addr}{ox:Obj}{Q:Value->Shared->Prop}{v:Value}
variable{nm q:Str}{C N:Addr}{bs bm bt:List Value}{hd:Bool}{sn:List Str}{sub:List Value}{ab:Bool}{col:Option Bool}{dd:Option Addr}{k0 k1 k2 k3 k5:Option Value}{B nw ini:String}
theorem AW(F:ExcBaseFacts B nw ini bt)(T:OwnTail h bt bm)(hC:h.get? C=some (excClassObj nm q C N bs bm hd sn sub ab col dd k0 k1 k2 k3 k5 nw)){t0:Addr}(hx:h.get? x=some (iJ C t0 none))
 (go:∀h',h'.get? x=some (iJ C h.objs.size none)->(∀b o,b≠x->h.get? b=some o->h'.get? b=some o)->Q .none ⟨h',g,d,t,os⟩) :
 wpAny (model P w) A (call (.builtin ini) [.ref x,v]) Q E ⟨h,g,d,t,os⟩:=by
 refine wpAny_call (codeAny_call_builtin F.init.plain F.initEntry (wpAny_check_init_subT F T hC hx rfl ?_));unfold Builtin.«BaseException.__init__»;have x1:(h.push { cls:=.type "tuple",data:=.seq #[v] }).get? x=some (iJ C t0 none):=Heap.get?_push_of_some _ hx
 wp_walk
 refine go _ ?_ fun b o hb e=>?_
 · rw[Heap.get?_update_self _ x1 rfl];rfl
 · rw[Heap.get?_update_ne _ _ _ _ hb];exact Heap.get?_push_of_some _ e
end
open PySem.W
inductive Shows:Int->V->Str->Prop
 | int (i:Int) (h:i.natAbs.log2<1920):Shows (-1) (.int i) (Str.ofString (toString i))
 | rep (x:Str) (h:(reprText x).length<=100000):Shows 114 (.str x) (reprText x)
theorem Shows.len{c:Int}{y:V}{z:Str}(h:Shows c y z):z.length<=100000:=by
 cases h with
 | int i h=>have:=int_text_length_le (k:=1920) (by decide) h;rw[PySem.ofString_length];omega
 | rep x h=>exact h
section
variable{X:Cx}{v:Expr}{te:TE}{a b:Str}{c:Int}{pos p1 p2:Pos}{j1 j2:Nat}
noncomputable def FV(X:Cx)(pins:List (Addr×Obj))(σ:St)(Q:Str->Hp->Prop)(u:Value)(s':Shared):Prop:=∃z t H',u=.str z t/\Inv X pins σ H' s'/\z.length<=100000/\Q z H'
theorem eT(hc:c = -1\/c=114)(he:PE X v te){pins:List (Addr×Obj)}{s:Shared}{σ:St}{H:Hp}{Q:Str->Hp->Prop}(I:Inv X pins σ H s)(h:te σ H fun y H1=>∃z,Shows c y z/\Q z H1) :
 wpAny (model X.prog X.w) X.A (eval (.FormattedValue v c none pos) X.env) (FV X pins σ Q) X.xe s:=by
 rcases hc with rfl | rfl
 · refine wpAny_FormattedValue_plain (qB (he pins s σ H _ I h) fun u s1 zz=>?_);obtain⟨y,H1,I1,r,z,sh,q⟩:=zz;have hl:=sh.len;cases sh with
   | int i hi=>obtain⟨t,rfl⟩:=r;exact wpAny_formatField_int hi ⟨_,_,H1,rfl,I1.tok _,hl,q⟩
 · refine wpAny_FormattedValue_repr (qB (he pins s σ H _ I h) fun u s1 zz=>?_);obtain⟨y,H1,I1,r,z,sh,q⟩:=zz;have hl:=sh.len;cases sh with
   | rep x hx=>
    obtain⟨t,rfl⟩:=r;have hz:(reprText x).length<=sizeLine:=by rw[sizeLine_eq];omega
    refine wpAny_pyReprObj_str ?_ hz;exact wpAny_formatField_str ⟨_,_,H1,rfl,I1.tok _,hl,q⟩ ⟨_,_,H1,rfl,(I1.tok _).tok _,hl,q⟩ hz
noncomputable def pN(c:Int)(te:TE):TE:=fun σ H Q=>te σ H fun y H1=>∃z,Shows c y z/\∀x,Q (.str x) H1
theorem D2(hc:c = -1\/c=114)(he:PE X v te)(ha:a.length<=1000)(hb:b.length<=1000) :
 PE X (.JoinedStr [.Constant (.str a) j1 p1,.FormattedValue v c none pos,.Constant (.str b) j2 p2] p) (pN c te):=by
 intro pins s σ H Q I h;refine wpAny_JoinedStr ?_;show wpAny _ _ (eval (.Constant (.str a) j1 p1) X.env) _ _ _;have l0:Str.empty.length=0:=rfl;refine Calls.Constant_str ⟨a,_,rfl,by rw[strLen_append,l0,sizeLine_eq];omega,?_⟩;show wpAny _ _ (eval (.FormattedValue v c none pos) X.env) _ _ _;refine qB (eT hc he (I.tok _) (Q:=fun _ H1=>∀x,Q (.str x) H1) h) fun u s1 ⟨z,t,H1,e,I1,hz,q⟩=>⟨z,t,e,by rw[strLen_append,strLen_append,l0,sizeLine_eq];omega,?_⟩
 show wpAny _ _ (eval (.Constant (.str b) j2 p2) X.env) _ _ _;have hl:(Str.empty++a++z++b).length<=sizeLine:=by rw[strLen_append,strLen_append,strLen_append,l0,sizeLine_eq];omega
 exact Calls.Constant_str ⟨b,_,rfl,hl,hl,⟨.str _,H1,(I1.tok _).tok _,⟨_,rfl⟩,q _⟩⟩
theorem C2(hc:c = -1\/c=114)(he:PE X v te)(ha:a.length<=1000) :
 PE X (.JoinedStr [.Constant (.str a) j1 p1,.FormattedValue v c none pos] p) (pN c te):=by
 intro pins s σ H Q I h;refine wpAny_JoinedStr ?_;show wpAny _ _ (eval (.Constant (.str a) j1 p1) X.env) _ _ _;have l0:Str.empty.length=0:=rfl;refine Calls.Constant_str ⟨a,_,rfl,by rw[strLen_append,l0,sizeLine_eq];omega,?_⟩;show wpAny _ _ (eval (.FormattedValue v c none pos) X.env) _ _ _;refine qB (eT hc he (I.tok _) (Q:=fun _ H1=>∀x,Q (.str x) H1) h) fun u s1 zz=>?_
 obtain⟨z,t,H1,e,I1,hz,q⟩:=zz;have hl:(Str.empty++a++z).length<=sizeLine:=by rw[strLen_append,strLen_append,l0,sizeLine_eq];omega
 exact⟨z,t,e,hl,hl,⟨.str _,H1,I1.tok _,⟨_,rfl⟩,q _⟩⟩
end
open PySem.W
noncomputable abbrev rR:List Value:=[.type "ValueError", .type "Exception", .type "BaseException", .type "object"]
def jG(K:Frag)(C f:Addr):Bool:=match K.lookup C with
 | some ⟨.type "type",_,.cls cd,sl⟩=>(match cd.mro,sl.toList with
  | .ref D::bm,[_,_,_,_,some (.builtin n),_]=>D==C&&(n == "ValueError.__new__" && (!cd.hasDel&&(tailIn K rR bm&&(nsOkIn K cd.ns&&nsIn K cd.ns "__init__" ==some (some (.ref f))))))
  | _,_=>false)
 | _=>false
theorem P6{K:Frag}{h:Heap}{N:Addr}{m:Str->Option Value}{n:Str}{v:Value}(X:K.In h)(G:h.Ns N m)(e:nsIn K N n=some (some v)):m n=some v:=by
 obtain⟨o,es,ep,ho,hd,_,hf⟩:=G;unfold nsIn at e;split at e
 · rename_i q;have z:=X _ _ q;rw[ho]at z;cases z;cases hd;split at e
   · rename_i he;cases e;rw[<- hf];unfold nsFind findBy;rw[<- Array.find?_toList,he];rfl
   · split at e<;>cases e
 · cases e
theorem oU{K:Frag}{h:Heap}{C f:Addr}(X:K.In h)(q:jG K C f=true):∃nm qn N bs bm hd sn sub ab col dd k0 k1 k2 k3 k5,∃mN:Str->Option Value,
 h.get? C=some (excClassObj nm qn C N bs bm hd sn sub ab col dd k0 k1 k2 k3 k5 "ValueError.__new__")/\h.Ns N mN/\mN "__init__" =some (.ref f)/\OwnTail h rR bm:=by
 unfold jG at q;split at q
 · rename_i dd cd sl ho;split at q
   · rename_i D bm k0 k1 k2 k3 n k5 hm hs;simp only[Bool.and_eq_true,beq_iff_eq,Bool.not_eq_true']at q;obtain⟨rfl,rfl,hdel,ht,hok,hni⟩:=q;obtain⟨nm,bs,mro,ns,qn,hd,sn,sub,ab,col,del⟩:=cd;dsimp only at hm hdel hok hni;subst hm hdel;obtain⟨sl⟩:=sl;dsimp only at hs;subst hs;exact⟨nm,qn,ns,bs,bm,hd,sn,sub,ab,col,dd,k0,k1,k2,k3,k5,_,X _ _ ho,.of_isNs (isNs_of_in X hok),P6 X (.of_isNs (isNs_of_in X hok)) hni,tail_of_in X ht⟩
   · cases q
 · cases q
theorem MQ{P:Program}{w:World}{H:Hp}{h:Heap}{a C t0:Addr}{dx:Option Addr}(e:h.get? a=some (iJ C t0 dx)):Sq P w H h a (XO a C t0 dx):=⟨e,⟨_,e⟩,fun _ _ p k=>k _ p⟩
section
variable{X:Cx}{CX:JG}{k:Nat}{f C:Addr}{fd:FuncData}{ps:List Str}{sp:Sp}{E:XK}{x:Str}{p pos:Pos}{e:Expr}{es:List Expr}{t:TA}{uz:List V}{ds:List Value}
theorem MZ{pins:List (Addr×Obj)}{σ:St}{H:Hp}{s:Shared}{Q:VK}{us:List Value}{vs:List V}(M:jG X.K C f=true)(hfn:isFn X.K (.ref f)=true)(F:Uq X.prog X.w X.K X.mg X.base CX k f fd ps sp)(hr:Gq (k+1) X.A)(hb:Binds X.K fd ps [])
 (hx:wI CX X E) (hz:ps.length<=100) (I:Inv X pins σ H s) (r:Vals vs us)
 (h:∀x t0,H x=none->sp (.ref x::vs) (AB H x (XO x C t0 none)) (fun v H2=>v=.non/\Q (.ref x) H2) E) :
 wpAny (model X.prog X.w) X.A (call (.ref C) us) (EP X pins σ Q) X.xe s:=by
 have hq:=h (s.heap.objs.size+1) s.heap.objs.size (I.hok.fresh (Nat.le_succ _));obtain⟨nm,qn,N,bs,bm,hd,sn,sub,ab,col,dd,k0,k1,k2,k3,k5,mN,hC,hn,hi,T⟩:=oU I.Jx M;have I2:=I.laid (a:=s.heap.objs.size+1) (o:=XO (s.heap.objs.size+1) C s.heap.objs.size none) (h':=CH s.heap C us) (t':=s.toks) (fun b u q=>AJ q) (Nat.le_succ _) (MQ qS);have r2:Vals (V.ref (s.heap.objs.size+1)::vs) (Value.ref (s.heap.objs.size+1)::us):=.cons rfl r;have hl0:(Value.ref (s.heap.objs.size+1)::us).length=ps.length:=by have e:=r2.length;rw[F.len _ _ _ _ hq]at e;exact e.symm
 have hl:(Value.ref (s.heap.objs.size+1)::us++[]).length=ps.length:=by rw[Wc];exact hl0
 have hty:=looks_typeIn (M:=model X.prog X.w) I.Jx (beq_iff_eq.mp hfn);obtain⟨o,ho,hoc⟩:∃o,s.heap.get? f=some o/\o.cls=.type "function" :=by have z:=beq_iff_eq.mp hfn;obtain⟨o,ho,hc⟩:=Option.map_eq_some_iff.mp (show(X.K.lookup f).map (·.cls)=some (.type "function")from z);exact⟨o,I.Jx _ _ ho,hc⟩
 obtain⟨hp,g,d,tk,os⟩:=s;refine yZ PySem.F.excBase_ValueError T hC hn hi ho hoc ?_ (by rw[Zd]at hl0;rw[sizeLine_eq];omega);refine wpAny_call (codeAny_mono (F.run _ X.stack _ _ ⟨Value.ref (hp.objs.size+1)::us,[]⟩ (Value.ref (hp.objs.size+1)::us) _ _ E (hr.make C us [])
  (I2.env0.make C us []) (by have:=hb _ (Value.ref (hp.objs.size+1)::us) I2.Jx hl;rw[Wc]at this;exact this) r2 hq) fun r s' hq'=>?_)
 cases r with
 | error e=>exact hx pins σ _ _ e s' I2 hq'
 | ok fl=>
  cases fl with
  | ret u=>obtain⟨v,H',I3,rv,ev,q3⟩:=I2.after hq';subst ev;exact⟨rv,⟨V.ref (hp.objs.size+1),H',I3,rfl,q3⟩⟩
  | next=>exact False.elim hq'
  | brk=>exact False.elim hq'
  | cont=>exact False.elim hq'
def q9(C:Addr)(sp:Sp)(E:XK)(t:TA):TE:=fun σ H Q=>t σ H fun vs H1=>∀x t0,H1 x=none->sp (.ref x::vs) (AB H1 x (XO x C t0 none)) (fun v H2=>v=.non/\Q (.ref x) H2) E
theorem G2(M:jG X.K C f=true)(hfn:isFn X.K (.ref f)=true)(kp:keepIn X.K (.ref C)=true)(F:Uq X.prog X.w X.K X.mg X.base CX k f fd ps sp)(hr:Gq (k+1) X.A)(hg:Gl X x)(hm:X.mg x=some (.ref C))(hb:Binds X.K fd ps [])(hx:wI CX X E)(hz:ps.length<=100)
 (ha:PA X (e::es) t) (hdb:(x==("__debug__" :Str))=false) (he:starEach (e::es) X.env=(false,eval e X.env)::starEach es X.env) (hpl:(backTo pos (starEach es X.env)).any (·.1)=false) :
 PE X (.Call (.Name x p) (e::es) [] pos) (q9 C sp E t):=by
 intro pins s σ H Q I h;refine wpAny_Call_Name_kw (DG I hg hm ?_ hdb);refine PySem.W.callWith_K (h₀:=X.base) I.ok.mod.Pk kp (qB (ha pos pins s σ H _ I h) fun us s1 ⟨vs,H1,I1,r,q⟩=>⟨I1.Jx,?_⟩) he hpl;exact MZ M hfn F hr hb hx hz I1 r q
end
open PySem.W
def zI(K:Frag)(C:Addr):Bool:=
 findIn K (.ref C) "__getattribute__" ==some (some (.builtin "BaseException.__getattribute__"))&&(findIn K (.ref C) "__getattr__" ==some none&&(mroIn K C (.type "BaseException")==some true &&
 (findIn K (.ref C) "__setattr__" ==some (some (.builtin "object.__setattr__"))&&((clsIn K C).any fun cd=>jE cd.mro&&cd.hasDict))))
noncomputable def pH (K:Frag) (S:Addr):Bool:=specialIn K (.ref S) "__getattribute__" ==some (some (.builtin "type.__getattribute__"))&&(readsIn K S (.type "type")&&(match findCls K (.ref S) (.type "type") "__init__" with | some (.val v)=>v==.builtin "ValueError.__init__" | _=>false))
theorem GL {K:Frag} {S:Addr} (h:pH K S=true):specialIn K (.ref S) "__getattribute__" =some (some (.builtin "type.__getattribute__"))/\readsIn K S (.type "type")=true/\findCls K (.ref S) (.type "type") "__init__" =some (.val (.builtin "ValueError.__init__")):=by
 simp only[pH,Bool.and_eq_true,beq_iff_eq]at h;refine⟨h.1,h.2.1,?_⟩;have q:=h.2.2;split at q
 · rename_i v e;rw[e,beq_iff_eq.mp q]
 · cases q
section
variable{X:Cx}{C f S:Addr}{x fl:Str}{p pos apos pos':Pos}{e o value:Expr}{es:List Expr}{t:TA}{ta tv:TE}
def P9(K:Frag)(t:TA):TE:=fun σ H Q=>t σ H fun vs H1=>∃a C t0 z f,vs=[.ref a,.str z]/\H1 a=some (XO a C t0 none)/\jG K C f=true/\∀t1,Q .non (AB H1 a (XO a C t1 none))
theorem W5 {pl:Sem Bool} (hS:pH X.K S=true) (hg:Gl X x) (hm:X.mg x=some (.ref S)) (ha:PA X (e::es) t) (hdb:(x==("__debug__" :Str))=false)
 (hst:starEach (e::es) X.env=(false,eval e X.env)::starEach es X.env) (hpl:(backTo pos (starEach es X.env)).any (·.1)=false)
 (ht:eval (.Call (.Attribute (.Name x p) "__init__" apos) (e::es) [] pos) X.env=(do
  let ov <- eval (.Name x p) X.env
  standAt apos.atName
  let (f,first) <- holding [ov] (getMethod ov "__init__" pl)
  callWith pos f first (backTo pos (starEach (e::es) X.env)) (backToKw pos (keywordEach [] X.env)))) :
 PE X (.Call (.Attribute (.Name x p) "__init__" apos) (e::es) [] pos) (P9 X.K t):=by
 intro pins s σ H Q I h;have hS:=GL hS;refine PySem.W.methodCall_KW (pl:=pl) (DG I hg hm ?_ hdb) ht;refine method_cls I.Jx hS.1 (cls_value I.Jx hS.2.1 hS.2.2 (by decide +kernel) ?_);have hA:=ha pos pins _ σ H _ (I.tok (s.toks+1)) h;rw[hst]at hA ⊢;refine Calls.callWith_builtin (by show(false || (backTo pos (starEach es X.env)).any (·.1))=false;rw[hpl]<;>rfl) (Calls.evalArgs_plain ?_);refine qB hA fun us s1 zz=>?_
 obtain⟨vs,H1,I1,r,a,C,t0,z,f,ev,eh,er,q⟩:=zz;subst ev;obtain⟨u1,u2,rfl,r1,r2⟩:=Vals.two r;cases (show u1=Value.ref a from r1);obtain⟨nm,qn,N,bs,bm,hd,sn,sub,ab,col,dd,k0,k1,k2,k3,k5,mN,hC,hn,hi,T⟩:=oU I1.Jx er;have hx:=(I1.hok a _ eh).1;obtain⟨hp,g,d,tk,os⟩:=s1;refine AW PySem.F.excBase_ValueError T hC hx fun h' hx' hk=>?_
 exact⟨.non,_,I1.write (x:=a) (e:=a) (by rw[eh];exact True.intro) (.inl rfl) (fun b u hb e=>hk b u hb e) ⟨_,hx'⟩ (MQ hx'),rfl,q _⟩
def z8(K:Frag)(ta tv:TE)(f:Str):TS:=fun D σ H=>tv σ H fun y H1=>ta σ H1 fun x H2=>∃a C t0,x=.ref a/\H2 a=some (XO a C t0 none)/\zI K C=true/\findIn K (.ref C) f=some none/\
 ∀dx,H2 dx=none->D.nx σ (AB (AB H2 dx (.xd [(f,y)])) a (XO a C t0 (some dx)))
theorem tP {K:Frag} {C:Addr} (h:zI K C=true):findIn K (.ref C) "__getattribute__" =some (some (.builtin "BaseException.__getattribute__"))/\findIn K (.ref C) "__getattr__" =some none/\mroIn K C (.type "BaseException")=some true/\
 findIn K (.ref C) "__setattr__" =some (some (.builtin "object.__setattr__"))/\∃cd,clsIn K C=some cd/\jE cd.mro=true/\cd.hasDict=true:=by
 simp only[zI,Bool.and_eq_true,beq_iff_eq]at h;obtain⟨h1,h2,h3,h4,h5⟩:=h;obtain⟨cd,e,q⟩:=any_some h5;rw[Bool.and_eq_true]at q;exact⟨h1,h2,h3,h4,cd,e,q⟩
theorem i6(ha:PE X o ta)(hv:PE X value tv)(hs:swapsWith value (some (.Attribute o fl pos')) pos.line X.env=pure false):PS X (.Assign [.Attribute o fl pos'] value pos) (z8 X.K ta tv fl):=by
 intro pins s σ H D I h;refine plainObj_wpAny_Assign_Attribute (qB (hv pins s σ H _ I h) fun u s1 ⟨y,H1,I1,ry,q⟩=>qB (ha pins s1 σ H1 _ I1 q) fun ov s2 zz=>?_) hs;obtain⟨x,H2,I2,rx,a,C,t0,ex,ea,eg,en,q2⟩:=zz;subst ex;obtain rfl:ov=Value.ref a:=rx;obtain⟨_,_,_,g4,cd,g5,g6,g7⟩:=tP eg;have hx:=(I2.hok a _ ea).1;have ta:takerIn X.K C fl=some none:=Jz.taker (show Jz X.K C fl from en);refine BW I2.Jx hx rfl rfl rfl g4 g5 g6 g7 ta fun h' tk hx' hns hk=>?_
 have hf:H2 s2.heap.objs.size=none:=I2.hok.fresh (Uc _);have na:a≠s2.heap.objs.size:=XC ea hf;obtain⟨od,es,ep,hod,hns'⟩:=hns;have m1:(s2.heap.push od).get? s2.heap.objs.size=some od:=Heap.get?_push_at rfl (Heap.get?_some_iff.mp hod).2;have I3:=I2.laid (a:=s2.heap.objs.size) (o:=.xd [(fl,y)]) (h':=s2.heap.push od) (t':=s2.toks) (fun b u e=>Heap.get?_push_of_some _ e) (Uc _) ⟨_,⟨od,es,ep,m1,hns'⟩,fun g=>by
  by_cases z:g=fl
  · subst z;have zb:(g==g)=true:=beq_iff_eq.mpr rfl;simp only[List.lookup,zb];exact ry
  · have zb:(g==fl)=false:=by rw[<- Bool.not_eq_true,beq_iff_eq];exact z
    simp only[List.lookup,zb,if_neg z];exact True.intro⟩
 have Vr:AB H2 s2.heap.objs.size (.xd [(fl,y)]) a=some (XO a C t0 none):=by rw[lB na];exact ea
 have I4:=I3.write (x:=a) (e:=a) (o:=XO a C t0 (some s2.heap.objs.size)) (h':=h') (t':=tk) (by rw[Vr];exact True.intro) (.inl rfl) (fun b u hb e=>?_) ⟨_,hx'⟩ (MQ hx')
 · exact⟨σ,_,I4,q2 _ hf⟩
 · rcases Heap.get?_push_cases e with⟨rfl,rfl⟩ | e
   · exact hod
   · exact hk b u hb e
def O9(K:Frag)(ta:TE)(f:Str):TE:=fun σ H Q=>ta σ H fun x H1=>∃a C dx y,x=.ref a/\H1 a=some (XL a (.ref C) (some dx))/\H1 dx=some (.xd [(f,y)])/\zI K C=true/\findIn K (.ref C) f=some none/\(∃i,y=.int i\/∃z,y=.str z)/\Q y H1
theorem T2{h:Heap}{a:Addr}{m:Str->Option Value}{o:Obj}{n:Str}{v:Value}(N:h.Ns1 a m)(ho:h.get? a=some o)(e:m n=some v):lookIn n o=some (some v):=by obtain⟨o',es,ep,h1,h2,h3,h4,h5⟩:=N;rw[ho]at h1;cases h1;have z:=h5 n;rw[e]at z;unfold nsFind findBy at z;rw[<- Array.find?_toList]at z;unfold lookIn;rw[h2];dsimp only;obtain⟨en,q1,q2⟩:=Option.map_eq_some_iff.mp z;rw[q1];simp only[q2]
theorem V5(he:PE X e ta)(hb:attributeBase e fl X.env (eval e X.env)=eval e X.env):PE X (.Attribute e fl pos) (O9 X.K ta fl):=by
 intro pins s σ H Q I h;refine v3 hb (qB (he pins s σ H _ I h) fun u s1 zz=>?_);obtain⟨x,H1,I1,rx,a,C,dx,y,ex,ea,ed,eg,en,ey,q⟩:=zz;subst ex;obtain rfl:u=Value.ref a:=rx;obtain⟨g1,g2,g3,_,cd,g5,g6,g7⟩:=tP eg;obtain⟨ox,vx,hx,⟨x1,x2⟩,x3⟩:=(I1.hok a _ ea).1;obtain⟨mA,N,r⟩:=(show Sq X.prog X.w H1 s1.heap dx (.xd [(fl,y)])from I1.hok dx _ ed);obtain⟨od,es,ep,hod,N'⟩:=id N;have r1:=r fl;have zb:(fl==fl)=true:=beq_iff_eq.mpr rfl;simp only[List.lookup,zb]at r1;cases q0:mA fl with
 | none=>rw[q0]at r1;exact False.elim r1
 | some v=>
  rw[q0]at r1;have ll:=T2 N hod q0;have J:InstAt s1.heap a ox C (some od):=⟨hx,x1,by unfold notCls;rw[x3],by rw[x2];exact hod⟩;have hh:handedIn v=true:=by
   rcases ey with⟨i,rfl | ⟨z,rfl⟩⟩
   · obtain⟨t,rfl⟩:=(show ∃t,v=Value.int i t from r1);rfl
   · obtain⟨t,rfl⟩:=(show ∃t,v=Value.str z t from r1);rfl
  refine zW I1.Jx J g1 g2 g3 ?_ hh ⟨y,H1,I1.tok _,r1,q⟩;unfold findObj;rw[g5,Dc,en,Dc];simp[PySem.W.ownOf,g7,ll]
end
open PySem.W
section
variable{P:Program}{w:World}{A:Around}{E:Value->Shared->Prop}{s:Shared}{K:Frag}{x C:Addr}{ox:Obj}{od:Option Obj}{n:Str}{ex:Bool}{v:Value}
theorem yW {Q:Option Value->Shared->Prop} (X:K.In s.heap) (I:InstAt s.heap x ox C od) (hd:(clsIn K C).isSome=true) (ha:findIn K (.ref C) "__getattribute__" =some (some (.builtin "BaseException.__getattribute__"))) (hk:findIn K (.ref C) "__getattr__" =some none)
 (hb:mroIn K C (.type "BaseException")=some true) (c1:findIn K (.ref C) "__class__" =some (some (.builtin "object.__class__"))) (c2:specialIn K (.builtin "object.__class__") "__get__" =some (some (.builtin "getset_descriptor.__get__")))
 (c3:takesIn K (.builtin "object.__class__")=some true) (c4:mroIn K C (.type "object")=some true) (h:Q (some (.ref C)) { s with toks:=s.toks+1 }):wpAny (model P w) A (getAttr? (.ref x) "__class__") Q E s:=by
 obtain⟨hp,g,d,t,os⟩:=s;have L0:=I.type (M:=model P w);have L1:=looks_findIn (M:=model P w) X ha;have hf:findObj K C od "__class__" =some (.bind (.builtin "getset_descriptor.__get__") (.builtin "object.__class__")):=by obtain⟨cd,hc⟩:=Option.isSome_iff_exists.mp hd;unfold findObj;rw[hc,Dc,c1,Dc];simp[c2,c3]
 have L2:=looks_find (M:=model P w) X I hf;have e1:(Value.builtin "BaseException.__getattribute__" ==Value.builtin "object.__getattribute__")=false:=by decide +kernel
 unfold getAttr? getAttrBy? getAttrBy;refine wpAny_bind (wpAny_mkText (wpAny_bind (wpAny_attempt (wpAny_holding (wpAny_bind (L0.at (wpAny_bind (L1.at ?_))))))));dsimp only;rw[e1,Bool.and_false,if_neg Rc];refine wpAny_bind ((looks_hook X (mc:=.ref C) (r:=none) (by rw[if_pos (by rfl)];exact hk)).at (wpAny_bind (wpAny_attempt (wpAny_holding ?_))));unfold callGetattribute;rw[show(false&&onTheHeap (Value.builtin "BaseException.__getattribute__"))=false from rfl,if_neg Rc];unfold boundAndCalled;rw[PySem.F.attr_ValueError.ga.bind];refine wpAny_bind (wpAny_pure ?_);show wpAny _ _ (call (.builtin "BaseException.__getattribute__") [.ref x,.str "__class__" t]) _ _ _;refine wpAny_call (codeAny_call_builtin PySem.F.attr_ValueError.ga.plain PySem.F.entry_bexc_ga ?_);refine @check_slot (model P w) _ _ ⟨hp,g,d,t+1,os⟩ "BaseException.__getattribute__" "BaseException" "__getattribute__" (.ref x) [.str "__class__" t] [] _ (by decide +kernel) (by decide +kernel) (L0.andThen (looks_mroIn X hb)) (PySem.F.args_bexc_ga _ _) ?_;unfold Builtin.«object.__getattribute__»;refine wpAny_bind (wpAny_pure (wpAny_bind (wpAny_pure (wpAny_bind (L0.at (wpAny_bind (L2.at ?_)))))));show wpAny _ _ (holding [Value.builtin "object.__class__"] (call (.builtin "getset_descriptor.__get__") [.builtin "object.__class__", .ref x,.ref C]) >>=ret) _ _ _;refine wpAny_bind (wpAny_holding (wpAny_call (class_get (s:=⟨hp,g,d,t+1,os⟩) (ox:=ox) (od:=od) X I c4 (wpAny_pure ?_))));exact wpAny_mono (handed_on rfl (Q:=fun v s'=>v=.ref C/\s'=⟨hp,g,d,t+1,os⟩) ⟨rfl,rfl⟩) (fun v s' ⟨e1,e2⟩=>by subst e1 e2;exact wpAny_pure h) fun _ _ z=>z
theorem vU (hd:(clsIn K C).isSome=true) (ha:findIn K (.ref C) "__getattribute__" =some (some (.builtin "BaseException.__getattribute__"))) (hk:findIn K (.ref C) "__getattr__" =some none)
 (hb:mroIn K C (.type "BaseException")=some true) (c1:findIn K (.ref C) "__class__" =some (some (.builtin "object.__class__"))) (c2:specialIn K (.builtin "object.__class__") "__get__" =some (some (.builtin "getset_descriptor.__get__")))
 (c3:takesIn K (.builtin "object.__class__")=some true) (c4:mroIn K C (.type "object")=some true):KitX K (.ref x) (.ref C) (fun h=>InstAt h x ox C od):=by
 obtain⟨cd,hcd⟩:=Option.isSome_iff_exists.mp hd;have at_:∃c' d' sl',K.lookup C=some ⟨c',d',.cls cd,sl'⟩:=by
  unfold clsIn at hcd;split at hcd
  · rename_i c' d' cd' sl' ho;cases hcd;exact⟨c',d',sl',ho⟩
  · cases hcd
 obtain⟨c',d',sl',ho⟩:=at_;refine⟨fun _ _ _ I=>I.type,fun _ _ X _=>?_,fun h tp dd its n sl X htp=>?_,fun X I k=>yW X I hd ha hk hb c1 c2 c3 c4 k⟩
 · intro A1 Q1 E1 s1 k1 q1;unfold isType loadHead;refine wpAny_bind (wpAny_loadPart (k1 _ _ (X _ _ ho)) ?_);exact wpAny_pure q1
 · rw[Bool.eq_false_iff];intro q;cases Value.ref.inj (beq_iff_eq.mp q);cases (X _ _ ho).symm.trans htp
end
def gG (K:Frag) (C:Addr):Bool:=zI K C&&(findIn K (.ref C) "__class__" ==some (some (.builtin "object.__class__"))&&(specialIn K (.builtin "object.__class__") "__get__" ==some (some (.builtin "getset_descriptor.__get__")) &&
 (takesIn K (.builtin "object.__class__")==some true&&mroIn K C (.type "object")==some true)))
section
variable{X:Cx}{pins:List (Addr×Obj)}{σ:St}{H:Hp}{s:Shared}{A:Around}{E:Value->Shared->Prop}{Q:Value->Shared->Prop}{c:Value}{b:Bool}{a C:Addr}{dx:Option Addr}
theorem A4(I:Inv X pins σ H s)(ea:H a=some (XL a (.ref C) dx))(ed:dx=none\/∃b fl y,dx=some b/\H b=some (.xd [(fl,y)]))(ec:gG X.K C=true)(e:kitOne X.K (.ref C) c=some b)(h:∀tk,Q (.bool b) { s with toks:=tk }) :
 wpAny (model X.prog X.w) A (call (.builtin "isinstance") [.ref a,c]) Q E s:=by
 simp only[gG,Bool.and_eq_true,beq_iff_eq]at ec;obtain⟨eg,c1,c2,c3,c4⟩:=ec;obtain⟨g1,g2,g3,_,cd,g5,_⟩:=tP eg;obtain⟨ox,vx,hx,⟨x1,x2⟩,x3⟩:=(I.hok a _ ea).1;rcases ed with rfl | ⟨b',fl,y,rfl,ed⟩
 · have J:InstAt s.heap a ox C none:=⟨hx,x1,by unfold notCls;rw[x3],by rw[x2];exact trivial⟩;exact kia_one (vU (by rw[g5];rfl) g1 g2 g3 c1 c2 c3 c4) I.Jx J e (fun z=>nomatch z) h
 · obtain⟨mA,⟨od,es,ep,hod,_⟩,_⟩:=(show Sq X.prog X.w H s.heap b' (.xd [(fl,y)])from I.hok b' _ ed);have J:InstAt s.heap a ox C (some od):=⟨hx,x1,by unfold notCls;rw[x3],by rw[x2];exact hod⟩;exact kia_one (vU (by rw[g5];rfl) g1 g2 g3 c1 c2 c3 c4) I.Jx J e (fun z=>nomatch z) h
end
open PySem.W
section
variable{X:Cx}
theorem W4:∀{ts:List Str}{us:List Value},Vals (ts.map V.str) us->∃l:List (Str×Tok),us=strValues l/\l.map (·.1)=ts:=by
 intro ts
 induction ts with
 | nil=>intro us r;cases r;exact⟨[],rfl,rfl⟩
 | cons t ts ih=>
  intro us r;cases r with
  | cons r1 r2=>obtain⟨tk,rfl⟩:=r1;obtain⟨l,rfl,e⟩:=ih r2;exact⟨(t,tk)::l,rfl,by rw[uc,e]⟩
theorem U2:NQ X "str.join" (fun x xs H Q=>∃z p ts,x=.str z/\xs=[.ref p]/\yx X.K H p (ts.map V.str)/\JoinOk z ts=true/\Q (.str (Str.join z ts)) H):=by intro pins s σ H x xs v us Q I rx rs zz;obtain⟨z,p,ts,e1,e2,hq,hok,q⟩:=zz;subst e1 e2;obtain⟨t,rfl⟩:=rx;obtain⟨u,rfl,ru⟩:=Vals.one rs;cases (show u=Value.ref p from ru);obtain⟨its,r,pl,_⟩:=I.list hq;obtain⟨l,rfl,hl⟩:=W4 r;have ej:Txt.join z ts=Str.join z ts:=beq_iff_eq.mp (PyProof.Rows.join_plain_closes z ts);exact SC.join pl.isList hl hok fun t' k=>⟨.str _,H,I.tok k,⟨_,by rw[ej]⟩,q⟩
end
end L2
namespace SM
noncomputable def HG:List Dt->Option (List Str)
 | []=>some []
 | .str z::r=>(HG r).map fun ts=>z::ts
 | _::_=>none
theorem V0{K:Frag}{H:Hp}{ρ:Rg}:∀{ds:List Dt}{ts:List Str}{vs:List V},HG ds=some ts->aq K H ρ ds vs->vs=ts.map V.str:=by
 intro ds
 induction ds with
 | nil=>intro ts vs e r;cases e;exact r.Pq
 | cons d ds ih=>
  intro ts vs e r;obtain⟨v,w,rfl,r1,r2⟩:=aq.Bq r;cases d with
  | str z=>simp only[HG]at e;obtain⟨ts',e1,e2⟩:=Option.map_eq_some_iff.mp e;cases e2;rw[ih e1 r2,jq.mp r1];rfl
  | _=>simp[HG]at e
section
variable{X:Cx}{a b:Expr}{fa fb:RE}{apos cpos:Pos}
end
end SM
namespace L2
open PySem.W
def pV(C:Addr)(fl:Str)(c:Int):Sp:=fun vs H Q _=>∃a t0 y z,vs=[.ref a,y]/\H a=some (XO a C t0 none)/\Shows c y z/\
 ∀t1 dx,AB H a (XO a C t1 none) dx=none->Q .non (AB (AB (AB H a (XO a C t1 none)) dx (.xd [(fl,y)])) a (XO a C t1 (some dx)))
inductive EI(c:Int)(zx:Str):Expr->Prop
 | three {a b:Str} {j1 j2:Nat} {p1 p2 p3 p4 pos:Pos} (ha:a.length<=1000) (hb:b.length<=1000):EI c zx (.JoinedStr [.Constant (.str a) j1 p1,.FormattedValue (.Name zx p4) c none pos,.Constant (.str b) j2 p2] p3)
 | two {a:Str} {j1:Nat} {p1 p3 p4 pos:Pos} (ha:a.length<=1000):EI c zx (.JoinedStr [.Constant (.str a) j1 p1,.FormattedValue (.Name zx p4) c none pos] p3)
theorem A7{X:Cx}{c:Int}{zx:Str}{e:Expr}{te:TE}(t:EI c zx e)(hc:c = -1\/c=114)(he:∀p,PE X (.Name zx p) te):PE X e (pN c te):=by
 cases t with
 | three ha hb=>exact D2 hc (he _) ha hb
 | two ha=>exact C2 hc (he _) ha
theorem XT{c:Int}{zx:Str}{e:Expr}(t:EI c zx e)(es:List Expr)(env:Env):starEach (e::es) env=(false,eval e env)::starEach es env:=by cases t<;>rfl
section
variable{P:Program}{w:World}{K:Frag}{mg:Str->Option Value}{base:Heap}{qual B fl zx:Str}{st:Stmt}{f C S:Addr}{fd:FuncData}{k:Nat}{c:Int}{J:Expr}{p1 p2 p3 p4 p5 p6 p7 p8 p9:Pos}
theorem L7 {pl:Env->Sem Bool} (F:Mv K "__init__" qual st f fd) (Sc:rB ["self",zx] ["self",zx] (LA st))
 (hb:FD st=[.Expr (.Call (.Attribute (.Name B p1) "__init__" p2) [.Name "self" p3,J] [] p4) p5,.Assign [.Attribute (.Name "self" p6) fl p7] (.Name zx p8) p9])
 (hJ:EI c zx J) (hc:c = -1\/c=114) (hC:jG K C f=true) (hG:zI K C=true) (hN:findIn K (.ref C) fl=some none) (hS:pH K S=true) (hm:mg B=some (.ref S))
 (hs1:kK (LA st) "self") (hs2:kK (LA st) zx) (hd2:(zx==("__debug__" :Str))=false) (Kh:(zx==("__classdict__" :Str))=false) (Lh:(B==("__debug__" :Str))=false)
 (hg:∀(cdv:Value) (A:Around) (outer:List Env) (s:Shared) (H:Hp) (E:XK),Gl (kD iF P w K mg base ["self",zx] qual (LA st) f cdv A outer s H E).Iv B)
 (ht:∀env,eval (.Call (.Attribute (.Name B p1) "__init__" p2) [.Name "self" p3,J] [] p4) env=(do
  let ov <- eval (.Name B p1) env
  standAt p2.atName
  let (f,first) <- holding [ov] (getMethod ov "__init__" (pl env))
  callWith p4 f first (backTo p4 (starEach [.Name "self" p3,J] env)) (backToKw p4 (keywordEach [] env)))):Uq P w K mg base iF (k+1) f fd ["self",zx] (pV C fl c):=by
 refine F.ok Sc (fun vs H Q E ⟨a,t0,y,z,e,_⟩=>by rw[e];rfl) fun cdv A outer s H vs Q E hr zz=>?_
 obtain⟨a,t0,y,z,ev,ea,sh,q⟩:=zz;have v0:∀p,PE (kD iF P w K mg base ["self",zx] qual (LA st) f cdv A outer s H E).Iv (.Name "self" p) (LK 0):=fun p=>fM rfl hs1 (by decide) (by decide)
 have v1:∀p,PE (kD iF P w K mg base ["self",zx] qual (LA st) f cdv A outer s H E).Iv (.Name zx p) (LK 1):=fun p=>fM rfl hs2 hd2 Kh
 rw[hb];refine⟨_,JP (fT (W5 (pl:=pl (envOfC qual (LA st) s.heap.objs.size f cdv)) hS (hg cdv A outer s H E) hm (RC (v0 _) (RC (A7 hJ hc v1) MD (XT hJ _ _)) (by rfl)) Lh (by rfl) (by rw[XT hJ];rfl) ?_) (by rfl)) (VL (i6 (v0 _) (v1 _) (by rfl))),?_⟩
 · exact ht _
 · subst ev;refine⟨.ref a,rfl,y,rfl,z,sh,fun x=>⟨a,C,t0,x,f,rfl,ea,hC,fun t1=>⟨y,rfl,.ref a,rfl,a,C,t1,rfl,MC,hG,hN,fun dx hdx=>q t1 dx hdx⟩⟩⟩
end
end L2
namespace SM
noncomputable def nG(c:Int):Dt->Option (Sum Int Str)
 | .int i=>if c = -1/\i.natAbs<2^100 then some (.inl i)else none
 | .str z=>if c=114/\z.length<=1000/\∀n∈z.cps.toList,n<1000 then some (.inr z)else none
 | _=>none
theorem K7{K:Frag}{H:Hp}{ρ:Rg}{c:Int}{d:Dt}{i:Sum Int Str}{v:V}(e:nG c d=some i)(r:lq K H ρ d v):v=xV i/\∃z,Shows c v z:=by
 cases d with
 | int j=>
  simp only[nG]at e;obtain⟨⟨rfl,hj⟩,rfl⟩:=QD e;cases gq.mp r;refine⟨rfl,_,.int j ?_⟩;by_cases z:j.natAbs=0
  · rw[z];decide
  · exact Nat.lt_trans ((Nat.log2_lt z).mpr hj) (by decide)
 | str z=>
  simp only[nG]at e;obtain⟨⟨rfl,hl,hz⟩,rfl⟩:=QD e;cases jq.mp r;refine⟨rfl,_,.rep z ?_⟩;have:=PySem.StrLaws.reprText_len z fun n hn=>Nat.lt_trans (hz n hn) (by decide)
  omega
 | _=>simp[nG]at e
structure TQ(K:Frag)(x fl:Str):Prop where
 ex:∃C,clsOf K x C/\gG K C=true/\findIn K (.ref C) fl=some none
 ne:fl ≠ ""
structure QM(P:Program)(w:World)(K:Frag)(mg:Str->Option Value)(base:Heap)(k:Nat)(x fl:Str)(c:Int):Prop where
 ex:∃C f fd ps,clsOf K x C/\jG K C f=true/\PySem.W.isFn K (.ref f)=true/\keepIn K (.ref C)=true/\Uq P w K mg base iF k f fd ps (pV C fl c)/\mg x=some (.ref C)/\Binds K fd ps []/\ps.length<=100
noncomputable def xD:Sum Int Str->Dt
 | .inl i=>.int i
 | .inr z=>.str z
def cN(x fl:Str)(g:RE):RE:=fun l h=>(g l h).bind fun r=>match r.1 with
 | .err y f i=>if y=x/\f=fl then some (xD i,r.2)else none
 | _=>none
section
variable{X:Cx}{x fl:Str}{c:Int}{k k':Nat}{e:Expr}{g:RE}{p pos p2:Pos}
theorem aQ(cl:TQ X.K x fl)(ha:EM X e g)(hb:attributeBase e fl X.env (eval e X.env)=eval e X.env:=by rfl):EM X (.Attribute e fl pos) (cN x fl g):=by
 with_unfolding_all
  exact PE.imp (V5 ha hb) fun σ H Q zz=>by
   obtain⟨ρ,l,h,d,h',S,L,e,k⟩:=zz;obtain⟨⟨d1,h1⟩,e1,e0⟩:=nA e;clear e;refine⟨ρ,l,h,d1,h1,S,L,e1,fun ρ1 v H1 R1 S1 E1=>?_⟩;cases d1 with
   | err y f i=>
    dsimp only at e0;by_cases hy:y=x/\f=fl
    case neg=>rw[if_neg hy]at e0;cases e0
    rw[if_pos hy]at e0;obtain⟨hy,hf⟩:=hy;subst hy hf;cases e0;obtain⟨C',c2,c3,c4⟩:=cl.ex;obtain⟨a,C,Qd,z,c1,n1,q1,⟨q2,_⟩ | ⟨dx,rfl,n2,q2⟩⟩:=bx.mp R1
    · exact absurd q2 cl.ne
    have cc:C'=C:=clsOf.inj c2 c1;subst cc;rw[gG,Bool.and_eq_true]at c3;refine⟨a,C',dx,xV i,z,q1,q2,c3.1,c4,?_,k ρ1 _ _ ?_ S1 E1⟩
    · cases i with
      | inl j=>exact⟨j,.inl rfl⟩
      | inr j=>exact⟨0,.inr ⟨j,rfl⟩⟩
    · cases i with
      | inl j=>exact gq.mpr rfl
      | inr j=>exact jq.mpr rfl
   | _=>cases e0
noncomputable def lD(tab:List (Str×Bool))(g:RE):RE:=fun l h=>(g l h).bind fun r=>match r.1 with
 | .err y _ _=>(tab.lookup y).map fun b=>(.bl b,r.2)
 | _=>none
def IG(K:Frag)(D:Value)(tab:List (Str×Bool)):Prop:=∀y b,tab.lookup y=some b->∃C,clsOf K y C/\gG K C=true/\PySem.W.kitOne K (.ref C) D=some b
theorem AZ {D:Value} {Dv:V} (hD:∀u,RelV Dv u->u=D):Oq X (.builtin "isinstance") (fun xs H Q=>∃a C dx b,xs=[.ref a,Dv]/\H a=some (XL a (.ref C) dx)/\(dx=none\/∃b fl y,dx=some b/\H b=some (.xd [(fl,y)]))/\gG X.K C=true/\PySem.W.kitOne X.K (.ref C) D=some b/\Q (.bl b) H):=by intro pins s σ H vs us Q I r zz;obtain⟨a,C,dx,b,ev,ea,ed,ec,ek,q⟩:=zz;subst ev;obtain⟨u1,u2,rfl,r1,r2⟩:=Vals.two r;cases (show u1=Value.ref a from r1);rw[hD u2 r2];exact A4 I ea ed ec ek fun tk=>⟨.bl b,H,I.tok tk,rfl,q⟩
theorem US {tab:List (Str×Bool)} {D:Value} {Dv:V} {e2:Expr} (hD:∀u,RelV Dv u->u=D) (hN:PE X e2 (tC Dv)) (ht:IG X.K D tab) (hg:Gl X "isinstance") (hm:X.mg "isinstance" =none) (ha:EM X e g) (hs:CB e=true) (hs2:CB e2=true) :
 EM X (.Call (.Name "isinstance" p) [e,e2] [] pos) (lD tab g):=by
 with_unfolding_all
  exact PE.imp (BL (AZ hD) hg hm PyProof.Rows.boot_isinstance (RC ha (RC hN MD (HB hs2 _ _)) (HB hs _ _)) (he:=HB hs _ _) (hpl:=tI (by rw[all_cons,hs2];rfl))) fun σ H Q zz=>by
   obtain⟨ρ,l,h,d,h',S,L,e,k⟩:=zz;obtain⟨⟨d1,h1⟩,e1,e⟩:=nA e;refine⟨ρ,l,h,d1,h1,S,L,e1,fun ρ1 v H1 R1 S1 E1=>?_⟩;cases d1 with
   | err y f i=>dsimp only at e;obtain⟨b,q,e⟩:=Option.map_eq_some_iff.mp e;cases e;obtain⟨a,C,dx,z,c1,n1,q1,q2⟩:=bx.mp R1;obtain⟨C',c2,c3,c4⟩:=ht y b q;have cc:C'=C:=clsOf.inj c2 c1;subst cc;subst z;exact⟨a,C',dx,b,rfl,q1,q2.elim (fun w=>.inl w.2) (fun⟨b',w1,_,w2⟩=>.inr ⟨b',f,xV i,w1,w2⟩),c3,c4,k ρ1 _ H1 (pq.mpr rfl) S1 E1⟩
   | _=>cases e
theorem U3 {T:Str} {D:Addr} {tab:List (Str×Bool)} (hg:Gl X "isinstance") (hm:X.mg "isinstance" =none) (Ow:Gl X T) (Nk:X.mg T=some (.ref D)) (ht:IG X.K (.ref D) tab) (ha:EM X e g) (hdT:(T==("__debug__" :Str))=false:=by decide) (hs:CB e=true:=by rfl) :
 EM X (.Call (.Name "isinstance" p) [e,.Name T p2] [] pos) (lD tab g):=by
 have hN:PE X (.Name T p2) (tC (.ref D)):=fun pins s σ H Q I h=>DG I Ow Nk ⟨.ref D,H,I,rfl,h⟩ hdT
 exact US (Dv:=.ref D) (D:=.ref D) (fun u r=>r) hN ht hg hm ha hs rfl
theorem T3 {T:Str} {TT:String} {tab:List (Str×Bool)} (hg:Gl X "isinstance") (hm:X.mg "isinstance" =none) (Ow:Gl X T) (Nk:X.mg T=none) (hv:bootBuiltins T=some (.type TT)) (ht:IG X.K (.type TT) tab) (ha:EM X e g)
 (hnT:T ≠ "__name__" :=by decide) (hdT:(T==("__debug__" :Str))=false:=by decide) (hs:CB e=true:=by rfl) :
 EM X (.Call (.Name "isinstance" p) [e,.Name T p2] [] pos) (lD tab g):=
 US (Dv:=.ty TT) (D:=.type TT) (fun u r=>r) (VT Ow Nk hv (v:=.ty TT) rfl hnT hdT) ht hg hm ha hs rfl
end
def KH(K:Frag)(C:Addr)(x qual fl:Str)(st:Stmt):Prop:=∃(f:Addr)(oc:Value)(od:Option Addr)(kV dc pm:Value)(an:Option Addr)(cd ct:Value)(sl:Array (Option Value)),
 nsIn K mainGlobals x=some (some (.ref C))/\findIn K (.ref C) "__init__" =some (some (.ref f))/\PySem.W.isFn K (.ref f)=true/\
 K.lookup f=some ⟨oc,od,.func (fnOf "__init__" qual (BG st) (FD st) (LA st) .none kV dc pm an cd ct),sl⟩/\PySem.W.codeIn K cd qual=true/\keepIn K (.ref f)=true/\
 jG K C f=true/\keepIn K (.ref C)=true/\gG K C=true/\findIn K (.ref C) fl=some none
structure LG(K:Frag)(mg:Str->Option Value)(x B qual fl zx:Str)(st:Stmt):Prop where
 ex:∃C f fd S,clsOf K x C/\jG K C f=true/\PySem.W.isFn K (.ref f)=true/\keepIn K (.ref C)=true/\gG K C=true/\findIn K (.ref C) fl=some none/\Mv K "__init__" qual st f fd/\mg x=some (.ref C)/\
  Binds K fd ["self",zx] []/\pH K S=true/\mg B=some (.ref S)
structure UM(K:Frag)(mg:Str->Option Value)(T:Str)(tab:List (Str×Bool)):Prop where
 ex:∃D,mg T=some (.ref D)/\IG K (.ref D) tab
section
variable{K:Frag}{h:Heap}{mg:Str->Option Value}{x B qual fl zx y:Str}{st:Stmt}{C S:Addr}{b:Bool}{tab:List (Str×Bool)}{D:Value}
theorem RL(X:K.In h)(G:h.Ns mainGlobals mg)(E:KH K C x qual fl st)(b1:nsIn K mainGlobals B=some (some (.ref S)))(b2:pH K S=true)
 (hb:∀(kV doc pm:Value) (an:Option Addr) (cdv ct:Value) (us:List Value),us.length=2->bindArgs (fnOf "__init__" qual (BG st) (FD st) (LA st) .none kV doc pm an cdv ct) ⟨us,[]⟩=pure ((["self",zx]:List Str).zip us)):LG K mg x B qual fl zx st:=by
 obtain⟨f,oc,od,kV,dc,pm,an,cd,ct,sl,a,i,n,l,c,k,e1,e2,e3,e4⟩:=E;have F:=pQ l c k;exact⟨⟨C,f,_,S,a,e1,n,e2,e3,e4,F,PySem.W.mg_of X G a,F.binds hb,b2,PySem.W.mg_of X G b1⟩⟩
theorem bQ (E:LG K mg x B qual fl zx st) (ne:fl ≠ "" :=by decide):TQ K x fl:=by obtain⟨C,f,fd,S,c1,c2,c3,c4,c5,c6,_⟩:=E.ex;exact⟨⟨C,c1,c5,c6⟩,ne⟩
theorem rH:IG K D []:=fun _ _ e=>by cases e
theorem qC(E:KH K C x qual fl st)(k:PySem.W.kitOne K (.ref C) D=some b)(r:IG K D tab):IG K D ((x,b)::tab):=fun y' b' e=>by
 obtain⟨f,oc,od,kV,dc,pm,an,cd,ct,sl,a,i,n,l,c,k',e1,e2,e3,e4⟩:=E;by_cases z:y'=x
 · subst z;have zb:(y'==y')=true:=beq_iff_eq.mpr rfl;simp only[List.lookup,zb]at e;cases e;exact⟨C,a,e3,k⟩
 · have zb:(y'==x)=false:=by rw[<- Bool.not_eq_true,beq_iff_eq];exact z
   simp only[List.lookup,zb]at e;exact r y' b' e
end
section
variable{P:Program}{w:World}{K:Frag}{mg:Str->Option Value}{base:Heap}{qual B fl zx x:Str}{st:Stmt}{k:Nat}{c:Int}{J:Expr}{p1 p2 p3 p4 p5 p6 p7 p8 p9:Pos}
theorem X3 {pl:Env->Sem Bool} (E:LG K mg x B qual fl zx st) (Sc:rB ["self",zx] ["self",zx] (LA st))
 (hb:FD st=[.Expr (.Call (.Attribute (.Name B p1) "__init__" p2) [.Name "self" p3,J] [] p4) p5,.Assign [.Attribute (.Name "self" p6) fl p7] (.Name zx p8) p9])
 (hJ:EI c zx J) (hc:c = -1\/c=114)
 (ht:∀env,eval (.Call (.Attribute (.Name B p1) "__init__" p2) [.Name "self" p3,J] [] p4) env=(do
  let ov <- eval (.Name B p1) env
  standAt p2.atName
  let (f,first) <- holding [ov] (getMethod ov "__init__" (pl env))
  callWith p4 f first (backTo p4 (starEach [.Name "self" p3,J] env)) (backToKw p4 (keywordEach [] env))))
 (hg:∀(f:Addr) (cdv:Value) (A:Around) (outer:List Env) (s:Shared) (H:Hp) (E:XK),Gl (kD iF P w K mg base ["self",zx] qual (LA st) f cdv A outer s H E).Iv B)
 (hs1:kK (LA st) "self" :=by exact .inl rfl) (hs2:kK (LA st) zx:=by exact .inl rfl) (hd2:(zx==("__debug__" :Str))=false:=by decide) (Kh:(zx==("__classdict__" :Str))=false:=by decide) (Lh:(B==("__debug__" :Str))=false:=by decide) :
 QM P w K mg base (k+1) x fl c:=by
 obtain⟨C,f,fd,S,c1,c2,c3,c4,c5,c6,F,c7,c8,c9,Jr⟩:=E.ex;rw[gG,Bool.and_eq_true]at c5;exact⟨⟨C,f,fd,_,c1,c2,c3,c4,L7 F Sc hb hJ hc c2 c5.1 c6 c9 Jr hs1 hs2 hd2 Kh Lh (hg f) ht,c7,c8,by show 2<=100;decide⟩⟩
end
section
variable{X:Cx}{e:Expr}{g:RE}{p pos p2:Pos}
theorem xI {T:Str} {tab:List (Str×Bool)} (hg:Gl X "isinstance") (hm:X.mg "isinstance" =none) (Ow:Gl X T) (t:UM X.K X.mg T tab) (ha:EM X e g) (hdT:(T==("__debug__" :Str))=false:=by decide) (hs:CB e=true:=by rfl) :
 EM X (.Call (.Name "isinstance" p) [e,.Name T p2] [] pos) (lD tab g):=by
 obtain⟨D,h1,h2⟩:=t.ex;exact U3 hg hm Ow h1 h2 ha hdT hs
end
end SM
namespace L2
noncomputable def Mx(h:Heap)(e T:Addr)(cls:Value)(dx:Option Addr)(a0 fl:Value):Prop:=
 ∃oe vs oT ts,h.get? e=some oe/\(oe.cls=cls/\oe.dict=dx)/\(oe.data=.fields vs/\vs[0]?=some a0/\vs[1]?=some (.ref T))/\T≠e/\h.get? T=some oT/\oT.data=.fields ts/\ts[3]?=some fl
abbrev GV(h:Heap)(e T:Addr)(cls:Value)(dx:Option Addr)(a0:Value):Prop:=Mx h e T cls dx a0 .none
structure Az(fs xs:List Addr)(h h':Heap):Prop where
 keep:∀b o,h.get? b=some o->b∉fs->b∉xs->h'.get? b=some o
 slot:∀b o,h.get? b=some o->b∉xs->∃sl,h'.get? b=some { o with slots:=sl }
theorem Az.trans{fs xs ys:List Addr}{h h1 h2:Heap}(a:Az fs xs h h1)(b:Az fs ys h1 h2):Az fs (xs++ys) h h2 where
 keep:=fun c o q n m=>b.keep c o (a.keep c o q n fun z=>m (mem_append_left _ z)) n fun z=>m (mem_append_right _ z)
 slot:=fun c o q m=>by
  obtain⟨sl,e⟩:=a.slot c o q fun z=>m (mem_append_left _ z)
  obtain⟨sl',e'⟩:=b.slot c _ e fun z=>m (mem_append_right _ z)
  exact⟨sl',e'⟩
section
variable{M:Model}{A:Around}{E:Value->Shared->Prop}{s:Shared}{base:Heap}{env:Env}{outer:List Env}{L e:Addr}{Q:Unit->Shared->Prop}
theorem rT{oe:Obj}{vs:Array Value}{a0 hd0:Value}{hn:Bool}(fr:A.frames=some (env::outer))(ff:s.heap.FunFrames base (env::outer))(lf:env.frame=some L)
 (ho:s.heap.get? e=some oe) (dd:oe.data=.fields vs) (sz:1<vs.size) (v0:vs[0]?=some a0)
 (h:∀h' T,s.heap.objs.size<=T->Mx h' e T oe.cls oe.dict a0 (rawInt L)->Az (KG (env::outer)) [e] s.heap h'->Q () { s with heap:=h' }) :
 wpAny M A (do let a <- frameOf env;let pl <- entryPlaceOf L hn;let b <- EntryCells.newEntry hd0 a .none (rawInt L) .none pl;setField (.ref e) 1 b) Q E s:=by
 have out:e∉(env::outer).filterMap (·.frame):=fun hm=>by obtain⟨_,o,h1,h2⟩:=ff.mem hm;rw[ho]at h1;cases h1;exact h2 vs dd
 refine wpAny_bind (wpAny_frameOf_fun fr ff lf fun g so=>wpAny_bind (wpAny_entryPlaceOf fun pl ip=>?_));unfold EntryCells.newEntry newFields;refine wpAny_bind (wpAny_newObj_type ?_ (ip.sizeOk5 _ _ _ _ _));have e1:g.get? e=some oe:=(so.2.1 e out).trans ho;have e2:=Heap.get?_push_of_some (h:=g) { cls:=.type "traceback",dict:=none,data:=.fields ([hd0,.ref L,.none,rawInt L,.none]++(if pl.isEmpty then List.replicate 6 Value.none else pl)).toArray } e1;have ne:g.objs.size≠e:=Nat.ne_of_gt (Heap.lt_size e1);have d3:=Obj.data_mapFields dd (·.setIfInBounds 1 (Value.ref g.objs.size));have e3:=Heap.get?_update_self (Obj.mapFields (·.setIfInBounds 1 (Value.ref g.objs.size))) e2 (Obj.isFreed_of_fields d3);have t3:=(Heap.get?_update_other (g.push { cls:=.type "traceback",dict:=none,data:=.fields ([hd0,.ref L,.none,rawInt L,.none]++(if pl.isEmpty then List.replicate 6 Value.none else pl)).toArray }) (Obj.mapFields (·.setIfInBounds 1 (Value.ref g.objs.size))) (Ne.symm ne)).trans (Heap.get?_push_size g rfl);refine wpAny_setField e2 dd sz (h _ g.objs.size (Nat.le_of_eq so.1.symm) ⟨_,_,_,_,e3,⟨Obj.cls_mapFields _ _,by unfold Obj.mapFields;split<;>rfl⟩,⟨d3,by rw[Array.getElem?_setIfInBounds_ne (by decide)];exact v0,by simp[sz]⟩,ne,t3,rfl,by first | (simp;done) | (rcases ip with rfl | ⟨_,_,_,_,_,_,_,rfl⟩<;>simp)⟩ ?_);have kp:∀b o,b≠e->g.get? b=some o->((g.push { cls:=.type "traceback",dict:=none,data:=.fields ([hd0,.ref L,.none,rawInt L,.none]++(if pl.isEmpty then List.replicate 6 Value.none else pl)).toArray }).update e (Obj.mapFields (·.setIfInBounds 1 (Value.ref g.objs.size)))).get? b=some o:=fun b o nb hb=>by rw[Heap.get?_update_other _ _ (Ne.symm nb)];exact Heap.get?_push_of_some _ hb
 refine⟨fun b o q n m=>kp b o (fun z=>m (by simp[z])) ((so.2.1 b n).trans q),fun b o q m=>?_⟩;obtain⟨sl,z⟩:=so.2.2 b o q;exact⟨sl,kp b _ (fun z=>m (by simp[z])) z⟩
theorem SY{oe:Obj}{vs:Array Value}{a0:Value}(fr:A.frames=some (env::outer))(ff:s.heap.FunFrames base (env::outer))(lf:env.frame=some L)
 (ho:s.heap.get? e=some oe) (dd:oe.data=.fields vs) (v1:vs[1]?=some .none) (v0:vs[0]?=some a0)
 (h:∀h' T,s.heap.objs.size<=T->Mx h' e T oe.cls oe.dict a0 (rawInt L)->Az (KG (env::outer)) [e] s.heap h'->Q () { s with heap:=h' }):wpAny M A (noteFrame (.ref e) env) Q E s:=by
 unfold noteFrame;simp only[lf];refine wpAny_bind (wpAny_field ho dd v1 ?_);rw[if_neg (by decide)];exact rT fr ff lf ho dd (Array.getElem?_eq_some_iff.mp v1).1 v0 h
theorem uZ{T:Addr}{cls a0:Value}{dx:Option Addr}(fr:A.frames=some (env::outer))(ff:s.heap.FunFrames base (env::outer))(lf:env.frame=some L)(a:GV s.heap e T cls dx a0)
 (h:∀h' T',s.heap.objs.size<=T'->Mx h' e T' cls dx a0 (rawInt L)->Az (KG (env::outer)) [T,e] s.heap h'->Q () { s with heap:=h' }):wpAny M A (noteFrame (.ref e) env) Q E s:=by
 obtain⟨oe,vs,oT,ts,he,⟨c1,c2⟩,⟨dd,v0,v1⟩,ne,hT,dT,t3⟩:=a;subst c1 c2;unfold noteFrame;simp only[lf];refine wpAny_bind (wpAny_field he dd v1 ?_);rw[if_pos (show(Value.ref T !=Value.none)=true from by simp)];refine wpAny_bind (wpAny_field hT dT t3 ?_);rw[if_neg (show ¬((Value.none==rawInt L)=true)from by simp[rawInt])];refine wpAny_bind (wpAny_setField hT dT (Array.getElem?_eq_some_iff.mp t3).1 ?_);have ot:∀b,b≠T->(s.heap.update T (Obj.mapFields (·.setIfInBounds 3 Value.none))).get? b=s.heap.get? b:=fun b hb=>Heap.get?_update_other _ _ (Ne.symm hb)
 have nr:∀b o,s.heap.get? b=some o->(∀vs,o.data≠.fields vs)->b≠T:=fun b o hb hnf q=>by rw[q,hT]at hb;cases hb;exact hnf ts dT
 refine rT fr (ff.of_keeps fun b o hb hnf=>⟨o,(ot b (nr b o hb hnf)).trans hb,rfl⟩) lf ((ot e (Ne.symm ne)).trans he) dd (Array.getElem?_eq_some_iff.mp v1).1 v0 fun h' T' lt a n=>?_
 refine h h' T' (by rw[<- Heap.size_update s.heap T (Obj.mapFields (·.setIfInBounds 3 Value.none))];exact lt) a ?_;exact Az.trans (xs:=[T]) (ys:=[e]) ⟨fun b o q _ m=>(ot b fun z=>m (by simp[z])).trans q,fun b o q m=>⟨o.slots,(ot b fun z=>m (by simp[z])).trans q⟩⟩ n
end
theorem uV{P:Program}{w:World}{H:Hp}{h:Heap}{e:Addr}{cls:Value}{dx:Option Addr}(x:∃oe vs,h.get? e=some oe/\(oe.cls=cls/\oe.dict=dx)/\oe.data=.fields vs):Sq P w H h e (XL e cls dx):=by obtain⟨oe,vs,a,b,c⟩:=x;exact⟨⟨oe,vs,a,b,c⟩,⟨oe,a⟩,fun _ _ ⟨o,v,a,b,c⟩ k=>⟨o,v,k _ a,b,c⟩⟩
def F9(s0:Nat)(L:Addr)(ps:List (Addr×Obj))(H:Hp)(h:Heap)(e:Addr)(cls:Value)(dx:Option Addr)(a0:Value):Prop:=
 (∃oe vs,h.get? e=some oe/\(oe.cls=cls/\oe.dict=dx)/\oe.data=.fields vs/\vs[0]?=some a0/\vs[1]?=some .none)\/
 ∃T fl,Mx h e T cls dx a0 fl/\(fl=.none\/fl=rawInt L)/\s0<=T/\H T=none/\∀p∈ps,p.1≠T
def vK(P:Program)(w:World):JG:=fun outer H s E v s'=>∃e T cls dx a0 H',v=.ref e/\s'.os=s.os/\AllBare s'.gens/\Un (KG outer) [] H H' s.heap s'.heap/\Zx P w H' s'.heap/\H' e=some (XL e cls dx)/\
 s.heap.objs.size<=T/\H' T=none/\GV s'.heap e T cls dx a0/\E cls dx H'
def Fl(X:Cx)(S:List (Addr×Obj)->St->Prop)(E:XK)(v:Value)(s':Shared):Prop:=∃e cls dx a0 pins σ H',v=.ref e/\S pins σ/\Inv X pins σ H' s'/\H' e=some (XL e cls dx)/\F9 X.s₀.heap.objs.size X.env.locals (X.pn++pins) H' s'.heap e cls dx a0/\E cls dx H'
theorem Mx.obj{h:Heap}{e T:Addr}{cls a0 fl:Value}{dx:Option Addr}(a:Mx h e T cls dx a0 fl):∃oe vs,h.get? e=some oe/\(oe.cls=cls/\oe.dict=dx)/\oe.data=.fields vs:=by obtain⟨oe,vs,_,_,h1,h2,⟨h3,_⟩,_⟩:=a;exact⟨oe,vs,h1,h2,h3⟩
theorem Mx.tr{h:Heap}{e T:Addr}{cls a0 fl:Value}{dx:Option Addr}(a:Mx h e T cls dx a0 fl):∃o vs,h.get? T=some o/\o.data=.fields vs:=by obtain⟨_,_,oT,ts,_,_,_,_,h1,h2,_⟩:=a;exact⟨oT,ts,h1,h2⟩
section
variable{X:Cx}{pins:List (Addr×Obj)}{σ:St}{H:Hp}{s:Shared}{h':Heap}{e:Addr}{cls:Value}{dx:Option Addr}{xs:List Addr}
theorem Inv.near(I:Inv X pins σ H s)(he:H e=some (XL e cls dx))(n:Az (KG X.stack) xs s.heap h')(hx:∀b∈xs,b=e\/(X.s₀.heap.objs.size<=b/\H b=none/\(∃o vs,s.heap.get? b=some o/\o.data=.fields vs)/\∀p∈X.pn++pins,p.1≠b))
 (ob:∃oe vs,h'.get? e=some oe/\(oe.cls=cls/\oe.dict=dx)/\oe.data=.fields vs):Inv X pins σ H { s with heap:=h' }:=by
 obtain⟨m,⟨oL,es,ep,hoL,hdL,rL⟩,_⟩:=id I.loc;have Uk:∀b∈xs,b≠X.env.locals:=fun b hb z=>by
  rcases hx b hb with q | ⟨_,_,⟨o,vs,ho,hd⟩,_⟩
  · have:=I.free;rw[<- z,q,he]at this;cases this
  · rw[z,hoL]at ho;cases ho;rw[hdL]at hd;cases hd
 obtain⟨sl,hL⟩:=n.slot _ _ hoL fun z=>Uk _ z rfl
 refine I.step (g':=s.gens) (d':=s.drawn) (t':=s.toks) (ch:=xs.filter fun b=>decide (b≠e)) (fun b hb=>?_) (fun b o h1 h2 h3 h4 h5=>?_) (fun b o h1 h2 h3 h4 h5=>?_) (fun b o _ _ z=>z) (fun b o h3 h4=>?_) (fun _ _ z=>z) (fun _ _ _ z=>z) (fun _ ps z=>⟨#[],by rw[z];simp⟩) (fun m' hm=>?_) (fun b u q=>?_) I.bare
 · obtain⟨h1,h2⟩:=mem_filter.mp hb;have h2:=of_decide_eq_true h2;rcases hx b h1 with z | ⟨a1,a2,⟨o,vs,ho,hd⟩,a3⟩
   · exact absurd z h2
   · refine⟨.inr a1,Uk b h1,fun x c q z=>?_,fun p hp'=>a3 p hp'⟩;obtain⟨v,oc,hoc,hdc⟩:=I.cell x c q;rw[z,ho]at hoc;cases hoc;rw[hd]at hdc;cases hdc
 · have nx:b∉xs:=fun z=>h3 (mem_filter.mpr ⟨z,decide_eq_true fun z=>by rw[z,he]at h5;cases h5⟩)
   exact n.keep b o h4 (fun z=>by rcases mem_cons.mp (I.Mz b z)with q | q;exact h1 q;exact h2 q) nx
 · have nx:b∉xs:=fun z=>h3 (mem_filter.mpr ⟨z,decide_eq_true fun z=>by rw[z,he]at h5;cases h5⟩)
   exact n.slot b o h4 nx
 · by_cases z:b=e
   · obtain⟨oe,_,q,_⟩:=ob;exact⟨oe,by rw[z];exact q⟩
   · obtain⟨sl,q⟩:=n.slot b o h4 fun y=>h3 (mem_filter.mpr ⟨y,decide_eq_true z⟩)
     exact⟨_,q⟩
 · obtain⟨o',es',ep',ho',r'⟩:=hm;rw[hoL]at ho';cases ho';exact⟨_,es',ep',hL,r'⟩
 · by_cases z:b=e
   · subst z;rw[he]at q;cases q;exact uV ob
   · refine(I.hok b u q).stay (fun c v hc r=>?_) (fun _ q=>q) fun _ _ q=>q
     have tr:H c≠none:=fun y=>by
      rcases hc with w | w
      · rw[w,q]at y;cases y
      · rw[w]at y;cases y
     refine n.keep c v r (fun y=>tr (I.Lz c y)) fun y=>?_
     rcases hx c y with w | ⟨_,w,_⟩
     · rcases hc with x | x
       · exact z (x.symm.trans w)
       · rw[w,he]at x;cases x
     · exact tr w
end
section
variable{X:Cx}{S:List (Addr×Obj)->St->Prop}{E:XK}
structure oH(X:Cx):Prop where
 stk:X.stack=X.env::X.outer
 fr:X.env.frame=some X.env.locals
 ex:X.ex=[]
theorem Fl.Nq{E':Value->Shared->Prop}{v:Value}{s:Shared}(h:Fl (X.wish E') S E v s):Fl X S E v s:=by obtain⟨e,cls,dx,a0,pins,σ,H,r,z,I,q⟩:=h;exact⟨e,cls,dx,a0,pins,σ,H,r,z,I.Nq,q⟩
theorem Fl.noted(B:oH X){v:Value}{s:Shared}{Q:Unit->Shared->Prop}{E1:Value->Shared->Prop}{A:Around}(hA:A.frames=some X.stack)(f:Fl X S E v s)
 (h:∀e T cls dx a0 pins σ H' h',v=.ref e->S pins σ->Inv X pins σ H' { s with heap:=h' }->H' e=some (XL e cls dx)->Mx h' e T cls dx a0 (rawInt X.env.locals)->(X.s₀.heap.objs.size<=T/\H' T=none/\∀p∈X.pn++pins,p.1≠T)->E cls dx H'->Q () { s with heap:=h' }) :
 wpAny (model X.prog X.w) A (noteFrame v X.env) Q E1 s:=by
 obtain⟨e,cls,dx,a0,pins,σ,H',rfl,zS,I,he,w,q⟩:=f;have pl:∀T,s.heap.objs.size<=T->∀p∈X.pn++pins,p.1≠T:=fun T lt p hp=>Nat.ne_of_lt (Nat.lt_of_lt_of_le (Heap.lt_size (I.pin p hp).1) lt)
 have ff:=I.stack;rw[B.stk]at hA ff;rcases w with⟨oe,vs,ho,⟨rfl,rfl⟩,hd,v0,v1⟩ | ⟨T,fl,a,hf,lt,hT,hP⟩
 · refine SY hA ff B.fr ho hd v1 v0 fun h' T lt a n=>?_
   exact h e T _ _ a0 pins σ H' h' rfl zS (I.near (xs:=[e]) he (by rw[B.stk];exact n) (fun b hb=>.inl (by simpa using hb)) a.obj) he a ⟨Nat.le_trans I.sz lt,I.hok.fresh lt,pl T lt⟩ q
 · rcases hf with rfl | rfl
   · refine uZ hA ff B.fr a fun h' T' lt' a' n=>?_
     exact h e T' _ _ a0 pins σ H' h' rfl zS (I.near (xs:=[T,e]) he (by rw[B.stk];exact n) (fun b hb=>by
      rcases mem_cons.mp hb with z | z
      · subst z;exact .inr ⟨lt,hT,a.tr,hP⟩
      · exact .inl (by simpa using z)) a'.obj) he a' ⟨Nat.le_trans I.sz lt',I.hok.fresh lt',pl T' lt'⟩ q
   · obtain⟨oe,vs,oT,ts,h1,h2,⟨h3,h4,h5⟩,h6,h7,h8,h9⟩:=id a;unfold noteFrame;simp only[B.fr];refine wpAny_bind (wpAny_field h1 h3 h5 ?_);rw[if_pos (show(Value.ref T !=Value.none)=true from by simp)];refine wpAny_bind (wpAny_field h7 h8 h9 ?_);rw[if_pos (show(rawInt X.env.locals==rawInt X.env.locals)=true from by simp)];exact wpAny_pure (h e T cls dx a0 pins σ H' s.heap rfl zS I he a ⟨lt,hT,hP⟩ q)
end
section
variable{M:Model}{A:Around}{E1:Value->Shared->Prop}{s:Shared}{e:Addr}{Q:Unit->Shared->Prop}
theorem Y2{T:Addr}{cls a0 fl:Value}{dx:Option Addr}(f:Option Addr)(a:Mx s.heap e T cls dx a0 fl)(h:∀h',Mx h' e T cls dx a0 (f.elim Value.none fun f=>rawInt f)->(∀fs,Az fs [T] s.heap h')->Q () { s with heap:=h' }):wpAny M A (setFlight (.ref e) f) Q E1 s:=by
 obtain⟨oe,vs,oT,ts,he,c,⟨dd,v0,v1⟩,ne,hT,dT,t3⟩:=a;have sz:3<ts.size:=(Array.getElem?_eq_some_iff.mp t3).1;have ot:∀b,b≠T->(s.heap.update T (Obj.mapFields (·.setIfInBounds 3 (f.elim Value.none fun f=>rawInt f)))).get? b=s.heap.get? b:=fun b hb=>Heap.get?_update_other _ _ (Ne.symm hb)
 unfold setFlight;refine wpAny_bind (wpAny_field he dd v1 ?_);rw[if_pos (show(Value.ref T !=Value.none)=true from by simp)];exact wpAny_setField hT dT sz (h _ ⟨oe,vs,_,_,(ot e (Ne.symm ne)).trans he,c,⟨dd,v0,v1⟩,ne,Heap.get?_update_self _ hT (Obj.isFreed_of_fields (Obj.data_mapFields dT _)),Obj.data_mapFields dT _,by simp[sz]⟩ (fun fs=>⟨fun b o q _ m=>(ot b fun z=>m (by simp[z])).trans q,fun b o q m=>⟨o.slots,(ot b fun z=>m (by simp[z])).trans q⟩⟩))
end
section
variable{X:Cx}{S:List (Addr×Obj)->St->Prop}{E:XK}
theorem pM{M:Model}{A:Around}{E1:Value->Shared->Prop}{s:Shared}{Q:Unit->Shared->Prop}{e T:Addr}{cls a0 fl:Value}{dx:Option Addr}{pins:List (Addr×Obj)}{σ:St}{H:Hp}(f:Option Addr)(I:Inv X pins σ H s)(he:H e=some (XL e cls dx))(a:Mx s.heap e T cls dx a0 fl)(lt:X.s₀.heap.objs.size<=T/\H T=none/\∀p∈X.pn++pins,p.1≠T)
 (h:∀h',Inv X pins σ H { s with heap:=h' }->Mx h' e T cls dx a0 (f.elim Value.none fun f=>rawInt f)->Q () { s with heap:=h' }):wpAny M A (setFlight (.ref e) f) Q E1 s:=by
 refine Y2 f a fun h' a' n=>h h' (I.near (xs:=[T]) he (n _) (fun b hb=>?_) a'.obj) a'
 have z:b=T:=by simpa using hb
 subst z;exact .inr ⟨lt.1,lt.2.1,a.tr,lt.2.2⟩
theorem N7(B:oH X):PassesOwn (model X.prog X.w) X.A X.env (Fl X S E):=fun v s f=>by
 have ok:X.A.frames=some X.stack:=by obtain⟨_,_,_,_,_,_,_,_,_,I,_⟩:=id f;exact I.ok.frames
 refine f.noted B ok fun e T cls dx a0 pins σ H' h' hv zS I he a lt q=>?_
 subst hv;show wpAny _ _ _ _ _ _;obtain⟨oe,vs,oT,ts,h1,h2,⟨h3,h4,h5⟩,h6,h7,h8,h9⟩:=id a;refine wpAny_bind (wpAny_field h1 h3 h5 ?_);rw[if_neg (show ¬((Value.ref T==Value.none)=true)from by simp)];refine pM X.env.frame I he a lt fun h2 I2 a2=>?_
 rw[B.fr]at a2;exact⟨e,cls,dx,a0,pins,σ,H',rfl,zS,I2,he,.inr ⟨T,_,a2,.inr rfl,lt⟩,q⟩
theorem Y3{pins:List (Addr×Obj)}{σ:St}{H:Hp}{s s':Shared}{v:Value}(I:Inv X pins σ H s)(zS:S pins σ)(h:vK X.prog X.w X.stack H s E v s'):Fl X S E v s':=by obtain⟨e,T,cls,dx,a0,H',rfl,os,bare,un,hok,he,lt,hT,a,q⟩:=h;have I2:=I.call' os un hok bare (fun b z=>absurd z (by simp));exact⟨e,cls,dx,a0,pins,σ,H',rfl,zS,I2,he,.inr ⟨T,_,a,.inl rfl,Nat.le_trans I.sz lt,hT,fun p hp=>Nat.ne_of_lt (Nat.lt_of_lt_of_le (Heap.lt_size (I.pin p hp).1) lt)⟩,q⟩
theorem nZ{pins:List (Addr×Obj)}{σ:St}{H:Hp}{s:Shared}{a:Addr}{oe:Obj}{vs:Array Value}{a0:Value}(I:Inv X pins σ H s)(zS:S pins σ)(mu:VQ (H a))(ho:s.heap.get? a=some oe)(hd:oe.data=.fields vs)(v0:vs[0]?=some a0)(v1:vs[1]?=some .none)
 (q:E oe.cls oe.dict (AB H a (XL a oe.cls oe.dict))):Fl X S E (.ref a) s:=by
 have I2:=I.write (x:=a) (e:=a) (o:=XL a oe.cls oe.dict) (h':=s.heap) (t':=s.toks) mu (.inl rfl) (fun b u _ z=>z) ⟨_,ho⟩ (uV ⟨oe,vs,ho,⟨rfl,rfl⟩,hd⟩);exact⟨a,_,_,a0,pins,σ,_,rfl,zS,I2,MC,.inl ⟨oe,vs,ho,⟨rfl,rfl⟩,hd,v0,v1⟩,q⟩
end
theorem mZ{P:Program}{w:World}{K:Frag}{mg:Str->Option Value}{base:Heap}{N:List Str}{qual:Str}{scope:Scope}{f:Addr}{cd:Value}{A:Around}{outer:List Env}{s s':Shared}{H:Hp}{E:XK}{v:Value}
 {S:List (Addr×Obj)->St->Prop} (h:Fl (kD (vK P w) P w K mg base N qual scope f cd A outer s H E) S E v s'):(kD (vK P w) P w K mg base N qual scope f cd A outer s H E).xe v s':=by
 have B:oH (kD (vK P w) P w K mg base N qual scope f cd A outer s H E):=⟨rfl,rfl,rfl⟩;have fr:(A.deeper (envOfC qual scope s.heap.objs.size f cd)).frames=some (envOfC qual scope s.heap.objs.size f cd::outer):=by obtain⟨_,_,_,_,_,_,_,_,_,I,_⟩:=id h;exact I.ok.frames
 show wpAny _ _ (leaving _ _) _ _ _;unfold leaving;refine wpAny_bind (h.noted B fr fun e T cls dx a0 pins σ H' h' hv zS I he a lt q=>?_);subst hv;refine pM none I he a lt fun h2 I2 a2=>?_
 exact⟨e,T,cls,dx,a0,H',rfl,I2.os,I2.bare,I2.base,I2.hok,he,lt.1,lt.2.1,a2,q⟩
open PySem.W
section
variable{X:Cx}{pins:List (Addr×Obj)}{σ:St}{H:Hp}{s:Shared}
theorem sZ{M:Model}{A:Around}{E:Value->Shared->Prop}{j:Nat}{n:Str}{v:V}{Q:Unit->Shared->Prop}(I:Inv X pins σ H s)(hN:X.N.Nodup)(hj:X.N[j]?=some n)(hk:X.env.scope.names.lookup n=some .local)(hv:σ[j]?=some (some v))
 (h:∀s',Inv X pins (σ.set j none) H s'->Q () s'):wpAny M A (unbindName X.env n) Q E s:=by
 obtain⟨m,hn,hl⟩:=id I.loc;have hcls:(X.env.scope.kind==.class || (X.env.scope.kind==.module&&X.env.locals !=X.env.globals))=false:=by rw[I.ok.kind];rfl
 obtain⟨u,_,lk⟩:=hl j n v hj hv (.inl hk);have hm:m n=some u:=by
  rcases lk with⟨_,z⟩ | ⟨z,_⟩
  · exact z
  · have e:X.env.kindOf n=some .local:=hk;rw[e]at z;rcases z with z | z<;>cases z
 obtain⟨oL,_,_,hoL,_⟩:=id hn;refine wpAny_unbindName_local hk hn hm hcls fun h' u' hn' hs=>?_
 have tracked:Zx X.prog X.w H h':=fun b ob e=>by
  refine(I.hok b ob e).stay (fun c w' hc q=>(hs.2 c ?_).trans q) (fun _ q=>q) fun _ _ q=>q
  rintro rfl;rcases hc with rfl | hc
  · rw[I.free]at e;cases e
  · rw[I.free]at hc;cases hc
 have ne:∀b o,X.s₀.heap.get? b=some o->b≠X.env.locals:=fun b o e=>Nat.ne_of_lt (Nat.lt_of_lt_of_le (Heap.lt_size e) I.ok.above)
 refine h _ ⟨I.ok,I.os,I.bare,⟨fun b o e n hb hx=>(hs.2 b (ne b o e)).trans (I.base.keep b o e n hb hx),fun b o e n hb hx=>?_,I.base.free,fun b o e hx=>?_,I.base.tups,I.base.Px,I.base.Xx⟩,⟨_,hn',fun i y v' e1 e2 e3=>?_⟩,fun y c e=>?_,I.free,I.ux,fun p hp=>?_,tracked,by simpa using I.len⟩
 · obtain⟨sl,e1⟩:=I.base.slot b o e n hb hx;exact⟨sl,(hs.2 b (ne b o e)).trans e1⟩
 · obtain⟨o',e1⟩:=I.base.there b o e hx;exact⟨o',(hs.2 b (ne b o e)).trans e1⟩
 · by_cases z:i=j
   · subst z;have jl:=(Kc hv).1;rw[getElem?_set_self jl]at e2;cases e2
   · rw[getElem?_set_ne (Ne.symm z)]at e2;obtain⟨u',r',q⟩:=hl i y v' e1 e2 e3;refine⟨u',r',?_⟩;rcases q with⟨k,e⟩ | ⟨k,c,e,y'⟩
     · refine .inl ⟨k,?_⟩;have:y≠n:=fun e=>z (IP hN e1 (e ▸ hj))
       simp[this,e]
     · exact .inr ⟨k,c,e,y'.sameBut hs (I.Aw y c e)⟩
 · obtain⟨w',z⟩:=I.cell y c e;exact⟨w',z.sameBut hs (I.Aw y c e)⟩
 · obtain⟨e,n,ne,nf,d⟩:=I.pin p hp;exact⟨(hs.2 p.1 ne).trans e,n,ne,nf,d⟩
end
noncomputable abbrev Cx.hd(X:Cx)(v:Value):Cx:={ X with A:=X.A.mark (some v),calm:=false }
section
variable{X:Cx}{pins:List (Addr×Obj)}{σ:St}{H:Hp}{s:Shared}{v:Value}
theorem Cx.Ok.hd'(ok:X.Ok)(v:Value):(X.hd v).Ok:=
 ⟨ok.mod,ok.kind,ok.glob,ok.blt,ok.above,ok.inj,ok.has,ok.cab,(fun z=>nomatch z),ok.frames,ok.stk,ok.Ek,ok.bs,ok.yw,ok.Hv,ok.Gv,ok.Wx,ok.Hw⟩
theorem Inv.hd(I:Inv X pins σ H s)(v:Value):Inv (X.hd v) pins σ H s:=⟨I.ok.hd' v,I.os,I.bare,I.base,I.loc,I.cell,I.free,I.ux,I.pin,I.hok,I.len⟩
theorem Inv.Yh(ok:X.Ok)(I:Inv (X.hd v) pins σ H s):Inv X pins σ H s:=⟨ok,I.os,I.bare,I.base,I.loc,I.cell,I.free,I.ux,I.pin,I.hok,I.len⟩
end
section
variable{X:Cx}{pins:List (Addr×Obj)}{σ:St}{H:Hp}{s:Shared}{e T C0:Addr}{cls a0:Value}{dx:Option Addr}{i j:Nat}{x n cn:Str}{px pn pa pc ph:Pos}{Q:Flow->Shared->Prop}
theorem O2(I:Inv X pins σ H s)(he:H e=some (XL e cls dx))(a:GV s.heap e T cls dx a0)(lt:X.s₀.heap.objs.size<=T/\H T=none/\∀p∈X.pn++pins,p.1≠T)
 (hg:Gl X cn) (hm:X.mg cn=some (.ref C0)) (hx:exmOne X.K cls (.ref C0)=some true) (hN:X.N.Nodup) (hi:X.N[i]?=some x) (hj:X.N[j]?=some n) (hij:i≠j) (kx:X.env.scope.names.lookup x=some .local) (kn:X.env.scope.names.lookup n=some .local)
 (hQ:∀s',Inv X pins ((σ.set i (some (.ref e))).set j none) H s'->Q .next s')
 (hs:swapsWith (.Name n pn) (some (.Name x px)) pa.line X.env=pure false:=by rfl) (hdc:(cn==("__debug__" :Str))=false:=by decide) (hd1:(n==("__debug__" :Str))=false:=by decide) (hd2:(n==("__classdict__" :Str))=false:=by decide) :
 wpAny (model X.prog X.w) X.A (handleBy (.ref e) X.env [.ExceptHandler (some (.Name cn pc)) (some n) [.Assign [.Name x px] (.Name n pn) pa] ph]) Q X.xe s:=by
 have jl:j<σ.length:=by rw[I.len];exact(Kc hj).1
 refine wpAny_handleBy_cons (codeAny_handlers_test (DG (X:=X.hd (.ref e)) (I.hd _) hg hm ?_ hdc)) (by intro q;cases q);obtain⟨oe,vs,h1,⟨h2,_⟩,h3⟩:=a.obj;have LT:Looks (model X.prog X.w) s.heap (typeOf (.ref e)) cls:=h2 ▸ (Looks.ld h1).andThen .now;refine(exm_one I.Jx LT hx).here ?_;show codeAny _ _ _ _ _;refine codeAny_handlers_suite_as (pM none I he a lt fun h' I1 a1=>?_);refine tL (v:=.ref e) I1 hN hj (.inl kn) rfl (fun s2 I2=>?_) (.inr kn);have P:rz (X.hd (.ref e)).Iv [.Assign [.Name x px] (.Name n pn) pa] (JK (LK j) (jK i)):=VL (MU (X:=(X.hd (.ref e)).Iv) hN hi (.inl kx) (fM hj (.inl kn) hd1 hd2) hs (.inr kx));refine wpAny_mono (P pins s2 _ H { nx:=fun σ' H'=>σ'=((σ.set j (some (.ref e))).set i (some (.ref e)))/\H'=H,rt:=fun _ _=>False } ((I2.hd _).wish _) ⟨.ref e,by rw[getElem?_set_self jl],rfl,rfl⟩) (fun f s3 z=>?_) fun x' s3 z=>?_
 · cases f with
   | next=>
    obtain⟨σ',H',I3,rfl,rfl⟩:=z;show wpAny _ _ _ _ _ _;refine wpAny_bind (wpAny_bindName (tL (v:=.non) (I3.Nq.Yh I.ok) hN hj (.inl kn) rfl (fun s4 I4=>?_) (.inr kn)));refine wpAny_onRaise (sZ (v:=.non) I4 hN hj kn (by rw[getElem?_set_self (by simpa using jl)]) fun s5 I5=>hQ s5 ?_);have e9:(((σ.set j (some (V.ref e))).set i (some (V.ref e))).set j (some V.non)).set j none=(σ.set i (some (V.ref e))).set j none:=by rw[set_set,set_comm _ _ hij,set_set,set_comm _ _ (Ne.symm hij)]
    rw[<- e9];exact I5
   | brk=>obtain⟨_,_,_,q⟩:=z;exact q.elim
   | cont=>obtain⟨_,_,_,q⟩:=z;exact q.elim
   | ret u=>obtain⟨_,_,_,_,_,q⟩:=z;exact q.elim
 · exact z.elim
end
open PySem.W
noncomputable def AH (K:Frag) (C:Addr):Bool:=(mroIn K C (.type "BaseException")==some true)&&((K.lookup C).map (·.cls)==some (.type "type"))
def t9(K:Frag)(S:List (Addr×Obj)->St->Prop)(E:XK)(tc:TE):TS:=fun _ σ H=>(∀pins,S pins σ)/\tc σ H fun v H1=>∃a C t0 dx,v=.ref a/\H1 a=some (XO a C t0 dx)/\AH K C=true/\E (.ref C) dx (AB H1 a (XL a (.ref C) dx))
section
variable{X:Cx}{S:List (Addr×Obj)->St->Prop}{E:XK}{c:Expr}{tc:TE}{pos:Pos}
theorem n0(cm:X.calm=true)(he:PE (X.wish (Fl X S E)) c tc):PS (X.wish (Fl X S E)) (.Raise (some c) none pos) (t9 X.K S E tc):=by
 intro pins s σ H D I h;obtain⟨zS,h⟩:=h;have hh:X.A.handled=none:=I.ok.hd cm;rw[arm_exec_Raise];refine wpAny_bind (wpAny_standAt ?_);show wpAny _ _ (raiseStmt X.env (some (do let v <- eval c X.env;standAt pos;pure v)) none) _ _ _;unfold raiseStmt;refine wpAny_bind (wpAny_bind (wpAny_mono (he pins s σ H _ I h) (fun v s1 z=>wpAny_bind (wpAny_standAt (wpAny_pure ?_))) fun _ _ z=>z));obtain⟨v',H1,I1,r,a,C,t0,dx,e,ea,tC,q⟩:=z;subst e;obtain rfl:v=Value.ref a:=r;have ho:=(I1.hok a _ ea).1;unfold AH at tC;rw[Bool.and_eq_true,beq_iff_eq,beq_iff_eq]at tC;obtain⟨t1,t2⟩:=tC;obtain⟨oC,hk,hcl⟩:=Option.map_eq_some_iff.mp t2;have hC:=I1.Jx _ _ hk;have fl:Fl X S E (.ref a) s1:=nZ (a0:=.ref t0) I1.Nq (zS _) (by rw[ea];exact True.intro) ho rfl rfl rfl q;have LM:=looks_mroIn (M:=model X.prog X.w) I1.Jx t1;obtain⟨hp,g,d,tk,os⟩:=s1
 repeat (first | with_reducible refine wpAny_loadPart_at ho ?_ | with_reducible refine wpAny_loadPart_at hC ?_ | with_reducible refine LM.at ?_ | wp_step)
 exact wpAny_raiseNew_none hh fl
end
open PySem.W
def cQ(CX:JG)(X:Cx)(E:XK)(pins:List (Addr×Obj))(σ:St):Prop:=∀(H:Hp)(s:Shared)(e:Value)(s':Shared),Inv X pins σ H s->CX X.stack H s E e s'->X.xe e s'
section
variable{X:Cx}{CX:JG}{k:Nat}{f C:Addr}{fd:FuncData}{ps:List Str}{sp:Sp}{uz:List V}{ds:List Value}{E:XK}{x m:Str}{p pos apos:Pos}{e o:Expr}{es:List Expr}{ta:TE}{t:TA}{pins:List (Addr×Obj)}{σ:St}{H:Hp}{s:Shared}{Q:VK}
theorem k9{us:List Value}{vs:List V}(F:Uq X.prog X.w X.K X.mg X.base CX k f fd ps sp)(hr:Gq k X.A)(hb:Binds X.K fd ps ds)(hd:Vals uz ds)(hx:cQ CX X E pins σ)
 (I:Inv X pins σ H s) (r:Vals vs us) (h:sp (vs++uz) H Q E):wpAny (model X.prog X.w) X.A (call (.ref f) us) (EP X pins σ Q) X.xe s:=by
 have r2:Vals (vs++uz) (us++ds):=r.append hd;refine wpAny_call (codeAny_mono (F.run X.A X.stack s H ⟨us,[]⟩ (us++ds) (vs++uz) Q E hr I.env0 (hb s us I.Jx (by rw[<- r2.length];exact F.len _ _ _ _ h)) r2 h) fun r s' hq=>?_);cases r with
 | error e=>exact hx H s e s' I hq
 | ok fl=>
  cases fl with
  | ret u=>exact I.after hq
  | next=>exact False.elim hq
  | brk=>exact False.elim hq
  | cont=>exact False.elim hq
theorem C3(F:Uq X.prog X.w X.K X.mg X.base CX k f fd ps sp)(hr:Gq k X.A)(hg:Gl X x)(hm:X.mg x=some (.ref f))(hk:keepIn X.K (.ref f)=true)(hb:Binds X.K fd ps ds)(hd:Vals uz ds)(hx:cQ CX X E pins σ)
 (ha:PA X (e::es) t) (I:Inv X pins σ H s) (h:FM sp uz E t σ H Q) (hdb:(x==("__debug__" :Str))=false:=by decide) (he:starEach (e::es) X.env=(false,eval e X.env)::starEach es X.env:=by rfl) (hpl:(backTo pos (starEach es X.env)).any (·.1)=false:=by rfl) :
 wpAny (model X.prog X.w) X.A (eval (.Call (.Name x p) (e::es) [] pos) X.env) (EP X pins σ Q) X.xe s:=by
 refine wpAny_Call_Name_kw (DG I hg hm ?_ hdb);exact PySem.W.callWith_K (h₀:=X.base) I.ok.mod.Pk hk (qB (ha pos pins s σ H _ I h) fun us s1 ⟨vs,H1,I1,r,q⟩=>⟨I1.Jx,k9 F hr hb hd hx I1 r q⟩) he hpl
end
def tW(K:Frag)(C0:Addr)(i j:Nat)(tc:XK->TE):TS:=fun D σ H=>tc (fun cls dx H'=>exmOne K cls (.ref C0)=some true/\∀e,H' e=some (XL e cls dx)->D.nx ((σ.set i (some (.ref e))).set j none) H') σ H fun _ H'=>D.nx σ H'
section
variable{X:Cx}{c:Expr}{tc:XK->TE}{C0:Addr}{i j:Nat}{x n cn:Str}{p1 px pn pa pc ph pos:Pos}
theorem F6(B:oH X)(hc:∀(xe:Value->Shared->Prop)(pins:List (Addr×Obj))(σ:St)(E:XK),cQ (vK X.prog X.w) (X.wish xe) E pins σ->∀s H Q,Inv (X.wish xe) pins σ H s->tc E σ H Q->wpAny (model X.prog X.w) X.A (eval c X.env) (EP (X.wish xe) pins σ Q) xe s)
 (hg:Gl X cn) (hm:X.mg cn=some (.ref C0)) (hN:X.N.Nodup) (hi:X.N[i]?=some x) (hj:X.N[j]?=some n) (hij:i≠j) (kx:X.env.scope.names.lookup x=some .local) (kn:X.env.scope.names.lookup n=some .local)
 (hw:swapsWith c none p1.line X.env=pure false:=by rfl) (hs:swapsWith (.Name n pn) (some (.Name x px)) pa.line X.env=pure false:=by rfl) (hdc:(cn==("__debug__" :Str))=false:=by decide) (hd1:(n==("__debug__" :Str))=false:=by decide) (hd2:(n==("__classdict__" :Str))=false:=by decide) :
 PS X (.Try [.Expr c p1] [.ExceptHandler (some (.Name cn pc)) (some n) [.Assign [.Name x px] (.Name n pn) pa] ph] [] [] pos) (tW X.K C0 i j tc):=by
 intro pins s σ H D I h
 let E:XK:=fun cls dx H'=>exmOne X.K cls (.ref C0)=some true/\∀e,H' e=some (XL e cls dx)->D.nx ((σ.set i (some (.ref e))).set j none) H'
 have b:=hc (Fl X (fun p q=>p=pins/\q=σ) E) pins σ E (fun H s e s' I h=>Y3 I.Nq ⟨rfl,rfl⟩ h) s H (fun _ H'=>D.nx σ H') (I.wish _) h;refine wpAny_Try_except (wpAny_execs_cons (wpAny_Expr_any (wpAny_mono b (fun v s1 z=>?_) fun v s1 fl=>?_) I.quiet hw))
 · obtain⟨x,H1,I1,r1,q1⟩:=z;exact wpAny_execs_nil (wpAny_execs_nil ⟨σ,H1,I1.Nq,q1⟩)
 · refine fl.noted B I.ok.frames fun e T cls dx a0 Sv σ' H' h' hv zS I1 he a lt q=>?_
   obtain⟨rfl,rfl⟩:=zS;subst hv;exact pM none I1 he a lt fun h2 I2 a2=>O2 I2 he a2 lt hg hm q.1 hN hi hj hij kx kn (fun s' I'=>⟨_,H',I',q.2 e he⟩) hs hdc hd1 hd2
end
end L2
namespace SM
theorem uq.Iw{K:Frag}{ρ:Rg}{h:HI}{H:Hp}(S:uq K ρ h H){p:Addr}{u:HO}(e:H p=some u)(hu:(∃φ,u=.ext φ)\/∃fs,u=.xd fs):ρ.no p:=by
 refine⟨fun ha=>?_,fun ha=>?_⟩
 · obtain⟨n,hn⟩:=mem_iff_getElem?.mp ha;have hl:n<h.length:=by rw[<- S.len];exact(Kc hn).1
   have o:=S.ob n p _ hn (getElem?_eq_getElem hl);generalize h[n]=ob at o;cases ob with
   | lst xs=>obtain⟨vs,h1,_⟩:=o;rw[e]at h1;cases h1;rcases hu with⟨_,z⟩ | ⟨_,z⟩<;>cases z
   | ins y fs=>obtain⟨C,dx,vs,_,h1,_⟩:=o;rw[e]at h1;cases h1;rcases hu with⟨_,z⟩ | ⟨_,z⟩<;>cases z
   | dk kvs=>obtain⟨vs,h1,_⟩:=o;rw[e]at h1;cases h1;rcases hu with⟨_,z⟩ | ⟨_,z⟩<;>cases z
   | dt kvs=>obtain⟨vs,h1,_⟩:=o;rw[e]at h1;cases h1;rcases hu with⟨_,z⟩ | ⟨_,z⟩<;>cases z
   | df kvs=>obtain⟨o,vs,h1,_⟩:=o;rw[e]at h1;cases h1;rcases hu with⟨_,z⟩ | ⟨_,z⟩<;>cases z
   | Ck kvs=>obtain⟨o,vs,h1,_⟩:=o;rw[e]at h1;cases h1;rcases hu with⟨_,z⟩ | ⟨_,z⟩<;>cases z
 · obtain⟨_,vs,h1⟩:=S.zt p ha;rw[e]at h1;cases h1;rcases hu with⟨_,z⟩ | ⟨_,z⟩<;>cases z
def HV (H:Hp) (f:Str) (i:Sum Int Str) (dx:Option Addr):Prop:=(f = "" /\ dx=none)\/∃b,dx=some b/\H b=some (.xd [(f,xV i)])
def MV(K:Frag)(ρ:Rg)(H:Hp)(E:XK)(x f:Str)(i:Sum Int Str)(h':HI):Prop:=
 ∀ρ' C dx H',nsIn K mainGlobals x=some (some (.ref C))->HV H' f i dx->uq K ρ' h' H'->Ext ρ ρ' H H'->E (.ref C) dx H'
def Vx(K:Frag)(ρ:Rg)(H:Hp)(Q:VK)(E:XK):Dt->HI->Prop
 | .thr x f i,h'=>MV K ρ H E x f i h'
 | d,h'=>Out K ρ H d h' Q
def Fv(K:Frag)(ρ:Rg)(H:Hp)(D:HF)(E:XK):Rs->Prop
 | .rt d h'=>Vx K ρ H D.rt E d h'
 | r=>Kz K ρ H D r
section
variable{K:Frag}{ρ ρ1:Rg}{H H1:Hp}{D:HF}{E:XK}{Q:VK}{d:Dt}{h':HI}{r:Rs}
theorem Vx.out(k:Vx K ρ H Q E d h'):Out K ρ H d h' Q:=by
 cases d with
 | thr x f i=>exact fun ρ' v H' R=>(Gx.mp R).elim
 | _=>exact k
theorem Vx.ext(k:Vx K ρ H Q E d h')(x:Ext ρ ρ1 H H1):Vx K ρ1 H1 Q E d h':=by
 cases d with
 | thr y f i=>exact fun ρ' C dx H' a b s e=>k ρ' C dx H' a b s (x.trans e)
 | _=>exact Out.ext k x
theorem Vx.mono{Q':VK}(k:Vx K ρ H Q E d h')(m:∀v H',Q v H'->Q' v H'):Vx K ρ H Q' E d h':=by
 cases d with
 | thr y f i=>exact k
 | _=>exact fun ρ' v H' R S e=>m _ _ (k ρ' v H' R S e)
theorem Fv.out(k:Fv K ρ H D E r):Kz K ρ H D r:=by
 cases r with
 | rt d h=>exact Vx.out k
 | _=>exact k
theorem Fv.ext(k:Fv K ρ H D E r)(x:Ext ρ ρ1 H H1):Fv K ρ1 H1 D E r:=by
 cases r with
 | rt d h=>exact Vx.ext k x
 | nx l h=>exact Kz.ext (r:=.nx l h) k x
 | bk l h=>exact Kz.ext (r:=.bk l h) k x
 | ct l h=>exact Kz.ext (r:=.ct l h) k x
end
def sX(K:Frag)(E:XK)(f:RS):TS:=fun D σ H=>∃ρ l h r,uq K ρ h H/\Kq K H ρ l σ/\f l h=some r/\Fv K ρ H D E r
abbrev xw(X:Cx)(E:XK):Cx:=X.wish (Fl X (fun _ _=>True) E)
@[irreducible] def ZX(X:Cx)(E:XK)(st:Stmt)(f:RS):Prop:=PS (xw X E) st (sX X.K E f)
@[irreducible] def xK(X:Cx)(E:XK)(st:List Stmt)(f:RS):Prop:=rz (xw X E) st (sX X.K E f)
section
variable{X:Cx}{E:XK}{st:Stmt}{rest:List Stmt}{t u:RS}{c:RT}{pos:Pos}{tg iter:Expr}
theorem DH(h:ZM (xw X E) st t):ZX X E st t:=by with_unfolding_all exact PS.imp h fun D σ H ⟨ρ,l,h,r,S,L,e,k⟩=>⟨ρ,l,h,r,S,L,e,k.out⟩
theorem E9(h:MI (xw X E) rest t):xK X E rest t:=by with_unfolding_all exact rz.imp h fun D σ H ⟨ρ,l,h,r,S,L,e,k⟩=>⟨ρ,l,h,r,S,L,e,k.out⟩
theorem vI(h1:ZX X E st t)(h2:xK X E rest u):xK X E (st::rest) (oA t u):=by
 with_unfolding_all
  exact rz.imp (JP h1 h2) fun D σ H zz=>by
   obtain⟨ρ,l,h,r,S,L,e,k⟩:=zz;obtain⟨r1,e1,e⟩:=nA e;refine⟨ρ,l,h,r1,S,L,e1,?_⟩;cases r1 with
   | nx l' h'=>exact fun ρ' σ' H' S' L' E'=>⟨ρ',l',h',r,S',L',e,k.ext E'⟩
   | rt d h'=>cases e;exact k
   | bk l' h'=>cases e;exact k
   | ct l' h'=>cases e;exact k
theorem OJ(h1:ZX X E st t):xK X E [st] t:=by with_unfolding_all exact VL h1
theorem vV{b:Expr}{ss ss':List Stmt}(hc:TM (xw X E) b c)(ha:xK X E ss t)(hb:xK X E ss' u):ZX X E (.If b ss ss' pos) (nC c t u):=by
 with_unfolding_all
  exact PS.imp (lV hc ha hb) fun D σ H zz=>by
   obtain⟨ρ,l,h,r,S,L,e,k⟩:=zz;obtain⟨⟨b1,h1⟩,e1,e⟩:=nA e;refine⟨ρ,l,h,b1,h1,S,L,e1,fun ρ1 H1 S1 E1=>?_⟩;cases b1 with
   | true=>rw[if_pos rfl]at e;exact zE ⟨ρ1,l,h1,r,S1,L.ext E1,e,k.ext E1⟩
   | false=>rw[if_neg Rc]at e;exact yE ⟨ρ1,l,h1,r,S1,L.ext E1,e,k.ext E1⟩
theorem D9{body:List Stmt}{g:RI}{bd:RG}{f:RS}(B:oH X)(hc:X.calm=true)(hi:IM (xw X E) tg iter g)(hg:GM (xw X E) tg bd)(hb:xK X E body f)
 (hs:∀x,foldedSetIterable iter X.env x=pure x:=by intro _;rfl):ZX X E (.For tg iter body [] pos) (sG g bd f):=by
 with_unfolding_all
  exact PS.imp (LU (X:=xw X E) (N7 B) hc hi hg hb hs) fun D σ H zz=>by
   obtain⟨ρ,l,h,r,S,L,e,k⟩:=zz;obtain⟨⟨s,h1⟩,e1,e⟩:=nA e;refine⟨ρ,l,h,s,h1,S,L,e1,fun ρ1 J H1 ok S1 E1=>?_⟩;refine⟨fun i m σ' H'=>∃ρ' l' h',uq X.K ρ' h' H'/\Kq X.K H' ρ' l' σ'/\Ext ρ1 ρ' H1 H'/\dE bd f s m i l' h'=some r,⟨_,ρ1,l,h1,S1,L.ext E1,Ext.refl _ _,e⟩,?_⟩;rintro i m σ' H' ⟨ρ',l',h',S',L',E',e'⟩;cases m with
   | zero=>simp only[dE]at e';cases e'
   | succ m=>
    simp only[dE]at e';have ok':=ok H' ρ' h' E'.same S' i;cases q:s.at h' i with
    | none=>rw[q]at e';cases e'
    | some o=>
     rw[q]at e' ok';cases o with
     | none=>cases e';exact .inl ⟨ok',k ρ' σ' H' S' L' (E1.trans E')⟩
     | some d=>
      dsimp only at e';obtain⟨l1,b1,e'⟩:=nA e';obtain⟨r1,b2,e'⟩:=nA e';refine .inr ⟨ok'.1,fun σ2 H2=>∃m',m'<m+1/\∃ρ' l' h',uq X.K ρ' h' H2/\Kq X.K H2 ρ' l' σ2/\Ext ρ1 ρ' H1 H2/\dE bd f s m' (i+1) l' h'=some r,fun σ2 H2 q=>q,fun v H3 y=>?_⟩;obtain⟨R3,E3,S3⟩:=ok'.2 v H3 y;refine⟨ρ',l',h',d,l1,S3,L'.ext E3,R3,b1,fun σ4 L4=>⟨ρ',l1,h',r1,S3,L4,b2,?_⟩⟩;cases r1 with
      | nx l2 h2=>exact fun ρ5 σ5 H5 S5 L5 E5=>⟨m,Nat.lt_succ_self _,ρ5,l2,h2,S5,L5,E'.trans (E3.trans E5),e'⟩
      | ct l2 h2=>exact fun ρ5 σ5 H5 S5 L5 E5=>⟨m,Nat.lt_succ_self _,ρ5,l2,h2,S5,L5,E'.trans (E3.trans E5),e'⟩
      | bk l2 h2=>cases e';exact fun ρ5 σ5 H5 S5 L5 E5=>k ρ5 σ5 H5 S5 L5 (E1.trans (E'.trans (E3.trans E5)))
      | rt d2 h2=>cases e';exact Vx.ext k (E1.trans (E'.trans E3))
end
def nN(x fl:Str)(c:Int)(g:RE):RS:=fun l h=>(g l h).bind fun r=>(nG c r.1).map fun i=>.rt (.thr x fl i) r.2
section
variable{X:Cx}{E:XK}{x fl:Str}{c:Int}{k k':Nat}{e:Expr}{g:RE}{p pos pos':Pos}
theorem XZ (ec:QM X.prog X.w X.K X.mg X.base k x fl c) (cm:X.calm=true) (hr:Gq k' X.A) (hk:k+1<=k') (hg:Gl X x) (ha:EM (xw X E) e g) (ht:∀C,nsIn X.K mainGlobals x=some (some (.ref C))->AH X.K C=true) (hdb:(x==("__debug__" :Str))=false:=by decide) (he:CB e=true:=by rfl) :
 ZX X E (.Raise (some (.Call (.Name x p) [e] [] pos)) none pos') (nN x fl c g):=by
 with_unfolding_all
  obtain⟨C,f,fd,ps,c1,c2,c3,c4,c5,c6,c7,c8⟩:=ec.ex;exact PS.imp (n0 (S:=fun _ _=>True) cm (G2 (X:=xw X E) c2 c3 c4 c5 (hr.mono hk) hg c6 c7 (E:=E0) DQ c8 (RC ha MD (HB he _ _)) hdb (HB he _ _) rfl)) fun D σ H zz=>by
   obtain⟨ρ,l,h,r,S,L,e,k⟩:=zz;obtain⟨⟨d1,h1⟩,e1,e⟩:=nA e;obtain⟨i,e2,e⟩:=Option.map_eq_some_iff.mp e;cases e;refine⟨fun _=>trivial,ρ,l,h,d1,h1,S,L,e1,fun ρ1 v H1 R1 S1 E1 a t0 ha=>?_⟩;obtain⟨ev,z,sh⟩:=K7 e2 R1;refine⟨a,t0,v,z,rfl,MC,sh,fun t1 dx hdx=>⟨rfl,?_⟩⟩;rw[ZT]at hdx ⊢;have na:dx≠a:=fun q=>by rw[q,MC]at hdx;cases hdx
   rw[lB na]at hdx;refine⟨a,C,t1,some dx,rfl,MC,ht C c1,?_⟩;rw[ZT];have eH:AB (AB (AB H1 a (XO a C t1 none)) dx (.xd [(fl,v)])) a (XL a (.ref C) (some dx))=AB (AB H1 dx (.xd [(fl,v)])) a (XL a (.ref C) (some dx)):=by
    funext b;unfold AB;by_cases q1:b=a
    · rw[if_pos q1,if_pos q1]
    · rw[if_neg q1,if_neg q1,if_neg q1]
   rw[eH];have ha2:AB H1 dx (.xd [(fl,v)]) a=none:=by rw[lB (Ne.symm na)];exact ha
   have E2:Ext ρ1 ρ1 H1 (AB H1 dx (.xd [(fl,v)])):=Ext.fresh hdx;have S2:uq X.K ρ1 h1 (AB H1 dx (.xd [(fl,v)])):=S1.fresh hdx;have E3:Ext ρ1 ρ1 (AB H1 dx (.xd [(fl,v)])) (AB (AB H1 dx (.xd [(fl,v)])) a (XL a (.ref C) (some dx))):=Ext.fresh ha2;refine k ρ1 C (some dx) _ c1 (.inr ⟨dx,rfl,?_⟩) (S2.fresh ha2) (E1.trans (E2.trans E3));rw[lB na,MC,ev]
end
def gW(K:Frag)(n:Nat)(F:fC):Sp:=fun vs H Q E=>∃ρ ds h d h',uq K ρ h H/\aq K H ρ ds vs/\ds.length=n/\F ds h=some (d,h')/\Vx K ρ H Q E d h'
theorem Kq.unset{K:Frag}{H:Hp}{ρ:Rg}{l:LI}{σ:L2.St}(L:Kq K H ρ l σ)(j:Nat):Kq K H ρ (l.set j none) (σ.set j none):=by
 obtain⟨h1,h2⟩:=L;refine⟨by simp[h1],fun i d e=>?_⟩;by_cases z:j=i
 · subst z;by_cases jl:j<l.length
   · rw[getElem?_set_self jl]at e;cases e
   · rw[getElem?_eq_none (by simpa using Nat.not_lt.mp jl)]at e;cases e
 · rw[getElem?_set_ne z]at e ⊢;exact h2 i d e
section
variable{P:Program}{w:World}{K:Frag}{mg:Str->Option Value}{base:Heap}
theorem Q7{x qual:Str}{st:Stmt}{f:Addr}{fd:FuncData}{N ps:List Str}{k:Nat}{body:RS}(F:Mv K x qual st f fd)(S:rB N ps (LA st))
 (hb:∀(cdv:Value)(A:Around)(outer:List Env)(s:Shared)(H:Hp)(E:XK),Gq k (A.deeper (envOfC qual (LA st) s.heap.objs.size f cdv))->
  xK (kD (vK P w) P w K mg base N qual (LA st) f cdv A outer s H E) E (FD st) body):Uq P w K mg base (vK P w) (k+1) f fd ps (gW K ps.length (DC ps.length N.length body)):=by
 with_unfolding_all
  obtain⟨oc,od,kV,doc,pm,an,cdv,ct,osl,rfl,lk,hcd⟩:=F.ex;refine UU lk hcd S (fun vs H Q E h=>?_) fun A outer s H vs Q E hr h=>?_
  · obtain⟨ρ,ds,h,d,h',S,R,hl,_⟩:=h;rw[R.length,hl]
  · obtain⟨ρ,ds,h,d,h',S,R,hl,e,k⟩:=h;have z:=hb cdv A outer s H E hr;refine⟨_,fun pins s' σ H' D I hw=>wpAny_mono (z pins s' σ H' D (I.wish _) hw) (fun _ _ q=>q.Nq) fun _ _ q=>mZ q,?_⟩;unfold DC at e;rw[if_pos hl]at e;rw[<- hl]at e;split at e
    · rename_i d1 h1 q;cases e;exact⟨ρ,_,h,_,S,lL R,q,k⟩
    · rename_i l1 h1 q;cases e;exact⟨ρ,_,h,_,S,lL R,q,fun ρ' σ' H' S' L' E'=>k ρ' _ H' (yq.mpr rfl) S' E'⟩
    · cases e
structure wK(P:Program)(w:World)(K:Frag)(mg:Str->Option Value)(base:Heap)(k n:Nat)(x:Str)(F:fC):Prop where
 ex:∃f fd ps,Uq P w K mg base (vK P w) k f fd ps (gW K n F)/\mg x=some (.ref f)/\keepIn K (.ref f)=true/\Binds K fd ps []
 len:∀ds h r,F ds h=some r->ds.length=n
theorem D3{x:Str}{st:Stmt}{N ps:List Str}{k n m:Nat}{body:RS}(D:IB K mg x st ps)(S:rB N ps (LA st))(hn:ps.length=n)(hm:N.length=m)
 (hb:∀(f:Addr)(cdv:Value)(A:Around)(outer:List Env)(s:Shared)(H:Hp)(E:XK),Gq k (A.deeper (envOfC x (LA st) s.heap.objs.size f cdv))->
  xK (kD (vK P w) P w K mg base N x (LA st) f cdv A outer s H E) E (FD st) body):wK P w K mg base (k+1) n x (DC n m body):=by
 with_unfolding_all subst hn hm;obtain⟨f,fd,hF,hm,hB⟩:=D.ex;exact⟨⟨f,fd,ps,Q7 hF S fun cdv A outer s H E hr=>hb f cdv A outer s H E hr,hm,hF.kp,hB⟩,fun ds h r e=>DT e⟩
end
noncomputable def fJ(F:fC)(g:RA)(tab:List Str)(i j:Nat):RS:=fun l h=>(g l h).bind fun r=>(F r.1 r.2).bind fun q=>match q.1 with
 | .thr x f y=>if x∈tab then some (.nx ((l.set i (some (.err x f y))).set j none) q.2)else none
 | _=>some (.nx l q.2)
noncomputable def bK(K:Frag)(C0:Addr)(tab:List Str):Prop:=∀y∈tab,∀C,nsIn K mainGlobals y=some (some (.ref C))->PySem.W.exmOne K (.ref C) (.ref C0)=some true
section
variable{X:Cx}{k k' nn:Nat}{F:fC}{fx:Str}{C0:Addr}{i j:Nat}{x n cn:Str}{p p1 px pn pa pc ph pos cpos:Pos}{e:Expr}{es:List Expr}{g:RA}{tab:List Str}
theorem C9(c:wK X.prog X.w X.K X.mg X.base k nn fx F)(B:oH X)(hr:Gq k' X.A)(hk:k<=k')(hgf:Gl X fx)(ha:∀xe,AM (X.wish xe) (e::es) g)
 (hg:Gl X cn) (hm:X.mg cn=some (.ref C0)) (ht:bK X.K C0 tab) (hN:X.N.Nodup) (hi:X.N[i]?=some x:=by rfl) (hj:X.N[j]?=some n:=by rfl) (hij:i≠j:=by decide) (kx:X.env.scope.names.lookup x=some .local:=by rfl) (kn:X.env.scope.names.lookup n=some .local:=by rfl)
 (hw:swapsWith (.Call (.Name fx p) (e::es) [] cpos) none p1.line X.env=pure false:=by rfl) (hs:swapsWith (.Name n pn) (some (.Name x px)) pa.line X.env=pure false:=by rfl) (hdf:(fx==("__debug__" :Str))=false:=by decide) (hdc:(cn==("__debug__" :Str))=false:=by decide) (hd1:(n==("__debug__" :Str))=false:=by decide) (hd2:(n==("__classdict__" :Str))=false:=by decide)
 (he:CB e=true:=by rfl) (hpl:es.all CB=true:=by rfl) :
 ZM X (.Try [.Expr (.Call (.Name fx p) (e::es) [] cpos) p1] [.ExceptHandler (some (.Name cn pc)) (some n) [.Assign [.Name x px] (.Name n pn) pa] ph] [] [] pos) (fJ F g tab i j):=by
 with_unfolding_all
  obtain⟨f,fd,ps,hF,Lf,hkp,hb⟩:=c.ex;exact PS.imp (F6 (tc:=fun E=>FM (gW X.K nn F) [] E (dj X.K g)) B (fun xe pins σ E hx s H Q I h=>C3 (X:=X.wish xe) hF (hr.mono hk) hgf Lf hkp hb .nil hx (ha xe) I h hdf (HB he _ _) (tI hpl)) hg hm hN hi hj hij kx kn hw hs hdc hd1 hd2) fun D σ H zz=>by
   obtain⟨ρ,l,h,r,S,L,e,k⟩:=zz;obtain⟨⟨ds,h1⟩,e1,e⟩:=nA e;obtain⟨⟨d,h2⟩,e2,e⟩:=nA e;refine⟨ρ,l,h,ds,h1,S,L,e1,fun ρ1 vs H1 R1 S1 E1=>⟨ρ1,ds,h1,d,h2,S1,by rw[Wc];exact R1,c.len _ _ _ e2,e2,?_⟩⟩;cases d with
   | thr y fl z=>
    dsimp only at e;split at e
    · rename_i yt;cases e;intro ρ' C dx H' hc hd S' E';refine⟨ht y yt C hc,fun a Tt=>k ρ' _ H' S' ((((L.ext E1).ext E').set i ?_).unset j) (E1.trans E')⟩;refine bx.mpr ⟨a,C,dx,rfl,hc,S'.Iw Tt (.inl ⟨_,rfl⟩),Tt,?_⟩;rcases hd with hd | ⟨b,hd,hb⟩
      · exact .inl hd
      · exact .inr ⟨b,hd,S'.Iw hb (.inr ⟨_,rfl⟩),hb⟩
    · cases e
   | _=>cases e;exact fun ρ' v H' R' S' E'=>k ρ' σ H' S' ((L.ext E1).ext E') (E1.trans E')
structure XQ(K:Frag)(mg:Str->Option Value)(cn:Str)(tab:List Str):Prop where
 ex:∃C0,mg cn=some (.ref C0)/\bK K C0 tab
theorem CY{K:Frag}{C0:Addr}:bK K C0 []:=fun _ h=>nomatch h
theorem yY{K:Frag}{C0 C:Addr}{y:Str}{tab:List Str}(n:nsIn K mainGlobals y=some (some (.ref C)))(h:PySem.W.exmOne K (.ref C) (.ref C0)=some true)(r:bK K C0 tab):bK K C0 (y::tab):=fun z hz D e=>by
 rcases mem_cons.mp hz with q | q
 · subst q;rw[n]at e;cases e;exact h
 · exact r z q D e
theorem v9{K:Frag}{C:Addr}{y:Str}(n:nsIn K mainGlobals y=some (some (.ref C)))(h:AH K C=true):∀D,nsIn K mainGlobals y=some (some (.ref D))->AH K D=true:=fun D e=>by rw[n]at e;cases e;exact h
theorem B5(c:wK X.prog X.w X.K X.mg X.base k nn fx F)(tc:XQ X.K X.mg cn tab)(B:oH X)(hr:Gq k' X.A)(hk:k<=k')(hgf:Gl X fx)(ha:∀xe,AM (X.wish xe) (e::es) g)
 (hg:Gl X cn) (hN:X.N.Nodup) (hi:X.N[i]?=some x:=by rfl) (hj:X.N[j]?=some n:=by rfl) (hij:i≠j:=by decide) (kx:X.env.scope.names.lookup x=some .local:=by rfl) (kn:X.env.scope.names.lookup n=some .local:=by rfl)
 (hw:swapsWith (.Call (.Name fx p) (e::es) [] cpos) none p1.line X.env=pure false:=by rfl) (hs:swapsWith (.Name n pn) (some (.Name x px)) pa.line X.env=pure false:=by rfl) (hdf:(fx==("__debug__" :Str))=false:=by decide) (hdc:(cn==("__debug__" :Str))=false:=by decide) (hd1:(n==("__debug__" :Str))=false:=by decide) (hd2:(n==("__classdict__" :Str))=false:=by decide)
 (he:CB e=true:=by rfl) (hpl:es.all CB=true:=by rfl) :
 ZM X (.Try [.Expr (.Call (.Name fx p) (e::es) [] cpos) p1] [.ExceptHandler (some (.Name cn pc)) (some n) [.Assign [.Name x px] (.Name n pn) pa] ph] [] [] pos) (fJ F g tab i j):=by
 obtain⟨C0,hm,ht⟩:=tc.ex;exact C9 c B hr hk hgf ha hg hm ht hN hi hj hij kx kn hw hs hdf hdc hd1 hd2 he hpl
end
noncomputable def mK(kvs:List (gC×Dt))(k:gC):Option Dt:=(kvs.find? fun p=>decide (p.1=k)).map (·.2)
noncomputable def aV(kvs:List (gC×Dt))(k:gC):List (gC×Dt):=kvs.filter fun p=>decide (p.1≠k)
section
variable{K:Frag}{H:Hp}{ρ:Rg}
abbrev KK(K:Frag)(H:Hp)(ρ:Rg)(kvs:List (gC×Dt))(vs:List (gC×V)):Prop:=kvs.map (·.1)=vs.map (·.1)/\aq K H ρ (kvs.map (·.2)) (vs.map (·.2))
theorem KK.Pq{vs:List (gC×V)}(r:KK K H ρ [] vs):vs=[]:=by have:=r.1;simpa using this.symm
theorem KK.Bq{p:gC×Dt}{kvs:List (gC×Dt)}{vs:List (gC×V)}(r:KK K H ρ (p::kvs) vs):∃v rs,vs=(p.1,v)::rs/\lq K H ρ p.2 v/\KK K H ρ kvs rs:=by
 obtain⟨h1,h2⟩:=r;cases vs with
 | nil=>simp at h1
 | cons q rs=>simp only[uc,List.cons.injEq]at h1;obtain⟨v,r',e,g1,g2⟩:=aq.Bq (by simpa only[uc]using h2);simp only[uc,List.cons.injEq]at e;obtain⟨q1,q2⟩:=q;have h11:p.1=q1:=h1.1;have e1:q2=v:=e.1;subst e1;exact⟨q2,rs,by rw[h11],g1,h1.2,by rw[e.2];exact g2⟩
theorem KK.cons{p:gC×Dt}{v:V}{kvs:List (gC×Dt)}{vs:List (gC×V)}(g:lq K H ρ p.2 v)(r:KK K H ρ kvs vs):KK K H ρ (p::kvs) ((p.1,v)::vs):=
 ⟨by simp only[uc];rw[r.1],.cons g r.2⟩
theorem KK.length{kvs:List (gC×Dt)}{vs:List (gC×V)}(r:KK K H ρ kvs vs):vs.length=kvs.length:=by have:=congrArg List.length r.1;simpa using this.symm
theorem KK.val(k:gC):∀{kvs:List (gC×Dt)}{vs:List (gC×V)},KK K H ρ kvs vs->(∀d,mK kvs k=some d->∃v,tG vs k=some v/\lq K H ρ d v)/\(mK kvs k=none->tG vs k=none)
 | [],_,r=>by rw[r.Pq];exact⟨fun d e=>by simp[mK]at e,fun _=>rfl⟩
 | p::kvs,_,r=>by
  obtain⟨v,rs,rfl,g,r'⟩:=r.Bq;by_cases c:p.1=k
  · have e1:mK (p::kvs) k=some p.2:=by simp[mK,find?_cons,c]
    rw[e1,TZ c];exact⟨fun d e=>by cases e;exact⟨v,rfl,g⟩,fun e=>by cases e⟩
  · have e1:mK (p::kvs) k=mK kvs k:=by simp[mK,find?_cons,c]
    rw[e1,SZ c];exact KK.val k r'
theorem KK.isSome(k:gC){kvs:List (gC×Dt)}{vs:List (gC×V)}(r:KK K H ρ kvs vs):(tG vs k).isSome=(mK kvs k).isSome:=by
 obtain⟨v1,v2⟩:=r.val k;cases c:mK kvs k with
 | none=>rw[v2 c];rfl
 | some d=>obtain⟨v,e,_⟩:=v1 d c;rw[e];rfl
theorem KK.drop(k:gC):∀{kvs:List (gC×Dt)}{vs:List (gC×V)},KK K H ρ kvs vs->KK K H ρ (aV kvs k) (JM vs k)
 | [],_,r=>by rw[r.Pq];exact⟨rfl,.nil⟩
 | p::kvs,_,r=>by
  obtain⟨u,rs,rfl,g',r'⟩:=r.Bq;unfold aV JM;by_cases c:p.1=k
  · rw[filter_cons_of_neg (by simpa using c),filter_cons_of_neg (by simpa using c)];exact KK.drop k r'
  · rw[filter_cons_of_pos (by simpa using c),filter_cons_of_pos (by simpa using c)];exact KK.cons g' (KK.drop k r')
end
section
variable{X:Cx}{e o i d a b f:Expr}{fe fo fi fa fb fy fx:RE}{pos pos' apos cpos:Pos}
end
end SM
namespace L2
open PySem.W
section
variable{P:Program}{w:World}{A:Around}{E:Value->Shared->Prop}{h:Heap}{g:Array GenState}{d:Drawn}{t:Nat}{os:OsState}
variable{nm q:Str}{C N:Addr}{bs bm bt:List Value}{hd:Bool}{sn:List Str}{sub:List Value}{ab:Bool}{col:Option Bool}{dd:Option Addr}{k0 k1 k2 k3 k5:Option Value}{B nw ini:String}
end
section
variable{X:Cx}{C:Addr}{x:Str}{p pos:Pos}{e:Expr}{es:List Expr}{t:TA}
end
end L2
namespace SM
section
variable{X:Cx}{E:XK}{x:Str}{e:Expr}{g:RE}{p pos pos':Pos}
end
section
variable{P:Program}{w:World}{K:Frag}{mg:Str->Option Value}{base:Heap}
end
section
variable{X:Cx}{K:Frag}{x m:Str}{F:fC}{fo:RE}{g:RA}{C:Addr}{nn:Nat}
end
section
variable{X:Cx}{E:XK}{k k' nn:Nat}{F:fC}{y m:Str}{fo:RE}{g:RA}{i j:Nat}{x n cn:Str}{apos p1 px pn pa pc ph pos pos' cpos:Pos}{o e:Expr}{es:List Expr}{tab:List Str}
end
end SM
namespace L2
section
variable{prog:Program}{w:World}{A:Around}{E:Value->Shared->Prop}{s:Shared}
end
section
variable{X:Cx}{pins:List (Addr×Obj)}{σ:St}{H:Hp}{s:Shared}{a:Addr}{o:Obj}{kvs:List (gC×V)}
end
end L2
namespace SM
section
variable{K:Frag}{H:Hp}{ρ:Rg}
end
section
variable{X:Cx}{tg d e:Expr}{fa f:RE}{apos cpos:Pos}
end
section
variable{K:Frag}{ρ:Rg}{H H':Hp}
end
section
variable{X:Cx}{pins:List (Addr×Obj)}{σ:L2.St}{H H':Hp}{s s':Shared}
end
section
variable{K:Frag}{ρ ρ':Rg}{h h':HI}{H H':Hp}
end
end SM
namespace L2
open PySem.W
section
variable{X:Cx}
end
end L2
namespace SM
section
variable{X:Cx}{e:Expr}{f:RE}{p pos:Pos}
end
section
variable{X:Cx}{k k' n:Nat}{F:fC}{x m:Str}{fo:RE}{apos pos:Pos}{o:Expr}
end
section
variable{X:Cx}{i oo:Expr}{fy fo:RE}{pos:Pos}
end
section
variable{K:Frag}{mg:Str->Option Value}{x:Str}{C:Addr}{b:Bool}{tab:List (Str×Bool)}{D:Value}
end
end SM
namespace L2
open PySem.W
section
variable{X:Cx}
end
end L2
namespace SM
section
variable{X:Cx}{e d:Expr}{f:RE}{p pos apos cpos:Pos}
end
section
variable{K:Frag}{x m qual:Str}{st:Stmt}{ps:List Str}{C:Addr}{d:Int}
end
section
variable{P:Program}{w:World}{K:Frag}{mg:Str->Option Value}{base:Heap}
end
end SM
namespace L2
open Builtin Builtin.Str
theorem zY(x y z:Str)(t u v k:Tok)(h0:(u==0 || v==0)=false)(huv:(u==v)=false)(hyz:(y==z)=false)(hl:tooLong (x.length+(occurrences x y 0 x.length 1).length*z.length)=false) :
 Gives («str.replace» ⟨[.str x t,.str y u,.str z v,.int 1 k],[]⟩) (if((occurrences x y 0 x.length 1).isEmpty || (y.length==0&&z.length==0))=true then .val (.str x t)else .str (glued z (partsBetween x (occurrences x y 0 x.length 1) y.length))):=by
 show Gives (countLimit "str.replace" (some (.int 1 k)) (x.length+1) >>=fun limit=>(if((occurrences x y 0 x.length limit).isEmpty || (y.length==0&&z.length==0))=true then(rule "str.replace.nothing" >>=fun _=>ret (.str x t))else(isSame (.str y u) (.str z v) >>=fun same=>if same=true then(rule "str.replace.old-is-new" >>=fun _=>ret (.str x t))else if tooLong (x.length+(occurrences x y 0 x.length limit).length*z.length)=true then unsupported "str.replace:memory" else retStr (glued z (partsBetween x (occurrences x y 0 x.length limit) y.length))))) _;have e:countLimit "str.replace" (some (.int 1 k)) (x.length+1)=pure 1:=by show(asSsize "str.replace" (.int 1 k) >>=fun i=>pure (if i<0 then x.length+1 else i.toNat))=pure 1;rw[asSsize_int "str.replace" 1 k (by decide)];rfl
 rw[e];show Gives (if((occurrences x y 0 x.length 1).isEmpty || (y.length==0&&z.length==0))=true then(rule "str.replace.nothing" >>=fun _=>ret (.str x t))else(isSame (.str y u) (.str z v) >>=fun same=>if same=true then(rule "str.replace.old-is-new" >>=fun _=>ret (.str x t))else if tooLong (x.length+(occurrences x y 0 x.length 1).length*z.length)=true then unsupported "str.replace:memory" else retStr (glued z (partsBetween x (occurrences x y 0 x.length 1) y.length)))) _;cases hc:((occurrences x y 0 x.length 1).isEmpty || (y.length==0&&z.length==0))
 · rw[isSame_str_other y z u v h0 huv hyz,hl];exact .of_eq rfl
 · exact .rule (.of_eq rfl)
noncomputable def qD(x y z:Str):Str:=if((occurrences x y 0 x.length 1).isEmpty || (y.length==0&&z.length==0))=true then x else glued z (partsBetween x (occurrences x y 0 x.length 1) y.length)
theorem WY{prog:Program}{w:World}{A:Around}{E:Value->Shared->Prop}{s:Shared}{x y z:Str}{t u v k:Tok}{Q:Value->Shared->Prop}(hu:u≠0)(hv:v≠0)(huv:u≠v)(hyz:(y==z)=false)(hx:x.length<=1000000)(hz:z.length<=10)(hf:(qD x y z).length<=sizeLine)
 (hq:∀t' k,Q (.str (qD x y z) t') { s with toks:=k }):wpAny (model prog w) A (call (.builtin "str.replace") [.str x t,.str y u,.str z v,.int 1 k]) Q E s:=by
 have hl:tooLong (x.length+(occurrences x y 0 x.length 1).length*z.length)=false:=by have h1:=StrLaws.occ_length_le x y 0 x.length 1;have h2:(occurrences x y 0 x.length 1).length*z.length<=1*10:=Nat.mul_le_mul h1 hz;unfold tooLong sizeLine;exact decide_eq_false (by omega)
 refine call_gives F.slot_str_replace (typeIs_str _ _ _) F.entry_str_replace (F.args_str_replace_4 _ _ _ _) (zY x y z t u v k (by simp[hu,hv]) (by simp[huv]) hyz hl) ?_;have hq':=hq;have hf':=hf;unfold qD at hq' hf';cases hc:((occurrences x y 0 x.length 1).isEmpty || (y.length==0&&z.length==0))
 · rw[hc]at hq' hf';simp only[Xc,if_false]at hq' hf' ⊢;exact⟨hf',hq' _ _⟩
 · rw[hc]at hq';simp only[if_true]at hq' ⊢;exact hq' t s.toks
section
variable{X:Cx}
theorem G1:NQ X "str.upper" (fun x xs H Q=>∃z,x=.str z/\xs=[]/\tooLong (Txt.upper z).length=false/\Q (.str (Txt.upper z)) H):=by intro pins s σ H x xs v us Q I rx rs zz;obtain⟨z,e1,e2,hf,q⟩:=zz;subst e1 e2;obtain⟨t,rfl⟩:=rx;cases rs;exact PySem.W.KXw.upper rfl hf fun t' k=>⟨.str (Txt.upper z),H,I.tok k,⟨_,rfl⟩,q⟩
def qW(i:Nat)(c y z:Str)(t:TA):TA:=fun σ H Q=>∃x,σ[i]?=some (some (.str x))/\x.length<=1000000/\(qD x y z).length<=sizeLine/\t σ H fun vs H1=>Q (.str c::.str (qD x y z)::vs) H1
theorem k7{i:Nat}{n c y z:Str}{es:List Expr}{t:TA}{j j1 j2 j3}{p0 p1 p2 p3 pn apos cpos:Pos}(hN:X.N[i]?=some n)(hv:kK X.env.scope n)(hyz:(y==z)=false)(hz:z.length<=10)(hr:PA X es t)
 (hs:starEach (.Constant (.str c) j p0::.Call (.Attribute (.Name n pn) "replace" apos) [.Constant (.str y) j1 p1,.Constant (.str z) j2 p2,.Constant (.int 1) j3 p3] [] cpos::es) X.env=(false,eval (.Constant (.str c) j p0) X.env)::(false,eval (.Call (.Attribute (.Name n pn) "replace" apos) [.Constant (.str y) j1 p1,.Constant (.str z) j2 p2,.Constant (.int 1) j3 p3] [] cpos) X.env)::starEach es X.env:=by rfl)
 (hd:(n==("__debug__" :Str))=false:=by decide) (hcd:(n==("__classdict__" :Str))=false:=by decide) (hbase:attributeBase (.Name n pn) "replace" X.env (eval (.Name n pn) X.env)=eval (.Name n pn) X.env:=by rfl) (hline:(apos.endLine==cpos.line)=true:=by rfl) :
 PA X (.Constant (.str c) j p0::.Call (.Attribute (.Name n pn) "replace" apos) [.Constant (.str y) j1 p1,.Constant (.str z) j2 p2,.Constant (.int 1) j3 p3] [] cpos::es) (qW i c y z t):=by
 intro pos pins s σ H Q I zz;obtain⟨x,ex,hx,hf,h⟩:=zz;rw[hs];show wpAny _ _ (spliced ((false,eval (.Constant (.str c) j p0) X.env)::(false,eval _ X.env)::backTo pos (starEach es X.env))) _ _ s;refine Calls.spliced_cons (Calls.Constant_str ?_);refine Calls.spliced_cons ?_;obtain⟨s1,hs1⟩:∃s1:Shared,s1={ s with toks:=s.toks+1 }:=⟨_,rfl⟩
 have tk:s1.toks=s.toks+1:=by rw[hs1]
 rw[<- hs1];have I1:Inv X pins σ H s1:=hs1 ▸ I.tok _;refine wpAny_Call_method_late hbase rfl hline rfl ?_;obtain⟨m,hn,hl⟩:=I1.loc;obtain⟨u,r,l⟩:=hl i n (.str x) hN ex hv;obtain⟨tx,rfl⟩:=r;have key:MethodOn X.prog X.w X.A "replace" cpos (.str x tx) (backTo cpos (starEach [.Constant (.str y) j1 p1,.Constant (.str z) j2 p2,.Constant (.int 1) j3 p3] X.env)) (fun v s₁=>wpAny (model X.prog X.w) X.A (spliced (backTo pos (starEach es X.env))) (fun vs s₂=>AP X pins σ Q (.str c s.toks::v::vs) s₂) X.xe s₁) X.xe s1:=by
  refine⟨"str", "str.replace",PySem.F.plainAttrs_str,PySem.F.slot_str_replace,PySem.F.type_str_replace,typeIs_str _ _ _,(fun b q=>nomatch q),?_⟩;refine Calls.callWith_builtin rfl (Calls.evalArgs_plain ?_);refine Calls.spliced_cons (Calls.Constant_str (k:=j1) (pos:=p1) ?_);refine Calls.spliced_cons (Calls.Constant_str (k:=j2) (pos:=p2) ?_);refine Calls.spliced_cons ?_;show wpAny _ _ (eval (.Constant (.int 1) j3 p3) X.env) _ _ _;refine wpAny_Constant_int ?_;refine Calls.spliced_nil ?_;refine WY (by show s1.toks≠0;omega) (by show s1.toks+1≠0;omega) (by show s1.toks≠s1.toks+1;omega) hyz hx hz hf fun t' k=>?_
  refine qB (hr pos pins _ σ H _ (I1.tok _) h) fun us s2 zz=>?_
  obtain⟨vs,H2,I2,r2,q2⟩:=zz;exact⟨.str c::.str (qD x y z)::vs,H2,I2,.cons ⟨_,rfl⟩ (.cons ⟨_,rfl⟩ r2),q2⟩
 rcases l with⟨hk,hm⟩ | ⟨hk,c',hc,hcell⟩
 · exact wpAny_Name (wpAny_loadName_local I1.ok.kind hk hn hm key) hd
 · rcases hk with hk | hk
   · exact wpAny_Name (wpAny_loadName_cell I1.ok.kind hk hc hcell key) hd
   · exact wpAny_Name (wpAny_loadName_free I1.ok.kind hk hc hcell key hcd) hd
end
end L2
namespace SM
open Builtin Builtin.Str
noncomputable def bR(f:RE):RE:=fun l h=>(f l h).bind fun r=>match r.1 with
 | .str z=>if tooLong (Txt.upper z).length=false then some (.str (Txt.upper z),r.2)else none
 | _=>none
def iK(y z:Str)(f:RE):RE:=fun l h=>(f l h).bind fun r=>match r.1 with
 | .str x=>if x.length<=1000000/\(qD x y z).length<=sizeLine then some (.str (qD x y z),r.2)else none
 | _=>none
section
variable{X:Cx}{a:Expr}{fa:RE}{apos cpos:Pos}
theorem kZ (ho:EM X a fa) (hbase:attributeBase a "upper" X.env (eval a X.env)=eval a X.env:=by rfl) (hline:(apos.endLine==cpos.line)=true:=by rfl):EM X (.Call (.Attribute a "upper" apos) [] [] cpos) (bR fa):=by
 with_unfolding_all
  exact PE.imp (o7 PySem.F.plainAttrs_str PySem.F.slot_str_upper PySem.F.type_str_upper G1 ho hbase hline) fun σ H Q zz=>by
   obtain⟨ρ,l,h,d,h',S,L,e,k⟩:=zz;obtain⟨⟨d1,h1⟩,e1,e⟩:=nA e;refine⟨ρ,l,h,d1,h1,S,L,e1,fun ρ1 v H1 R1 S1 E1=>?_⟩;cases d1 with
   | str z=>obtain⟨c,e⟩:=XI e;cases e;cases jq.mp R1;exact⟨rfl,z,rfl,rfl,c,k ρ1 _ _ (jq.mpr rfl) S1 E1⟩
   | _=>cases e
theorem D5{n c y z:Str}{es:List Expr}{g:RA}{j j1 j2 j3}{p0 p1 p2 p3 pn:Pos}(i:Nat)(hyz:(y==z)=false)(hz:z.length<=10)(hr:AM X es g)(hN:X.N[i]?=some n:=by rfl)(hv:kK X.env.scope n:=by first | exact Or.inl rfl | exact Or.inr (Or.inl rfl) | exact Or.inr (Or.inr rfl))
 (hs:starEach (.Constant (.str c) j p0::.Call (.Attribute (.Name n pn) "replace" apos) [.Constant (.str y) j1 p1,.Constant (.str z) j2 p2,.Constant (.int 1) j3 p3] [] cpos::es) X.env=(false,eval (.Constant (.str c) j p0) X.env)::(false,eval (.Call (.Attribute (.Name n pn) "replace" apos) [.Constant (.str y) j1 p1,.Constant (.str z) j2 p2,.Constant (.int 1) j3 p3] [] cpos) X.env)::starEach es X.env:=by rfl)
 (hd:(n==("__debug__" :Str))=false:=by decide) (hcd:(n==("__classdict__" :Str))=false:=by decide) (hbase:attributeBase (.Name n pn) "replace" X.env (eval (.Name n pn) X.env)=eval (.Name n pn) X.env:=by rfl) (hline:(apos.endLine==cpos.line)=true:=by rfl) :
 AM X (.Constant (.str c) j p0::.Call (.Attribute (.Name n pn) "replace" apos) [.Constant (.str y) j1 p1,.Constant (.str z) j2 p2,.Constant (.int 1) j3 p3] [] cpos::es) (cA (eC (.str c)) (cA (iK y z (eV i)) g)):=by
 with_unfolding_all
  exact PA.imp (k7 hN hv hyz hz hr hs hd hcd hbase hline) fun σ H Q zz=>by
   obtain⟨ρ,l,h,ds,h',S,L,e,k⟩:=zz;obtain⟨⟨d0,h0⟩,e0,e⟩:=nA e;cases e0;obtain⟨⟨Jt,h1⟩,e1,e⟩:=nA e;cases e;obtain⟨⟨d2,h2⟩,e2,e⟩:=nA e1;obtain⟨⟨Rr,h3⟩,e3,e⟩:=nA e;cases e;obtain⟨⟨d4,h4⟩,e4,e⟩:=nA e2;unfold eV at e4;split at e4
   · rename_i q;cases e4;cases d4 with
     | str x=>obtain⟨c,e⟩:=XI e;cases e;obtain⟨v,ev,rv⟩:=L.val i _ q;cases jq.mp rv;exact⟨x,ev,c.1,c.2,ρ,l,_,Rr,_,S,L,e3,fun ρ1 vs H1 R1 S1 E1=>k ρ1 _ H1 (.cons (jq.mpr rfl) (.cons (jq.mpr rfl) R1)) S1 E1⟩
     | _=>cases e
   · cases e4
end
noncomputable def FB{α β:Type}(o:Option α)(f:α->Option β):Option β:=o.bind f
@[simp] theorem iA{α β:Type}(a:α)(f:α->Option β):FB (some a) f=f a:=by rfl
@[simp] theorem Pj{α β:Type}{c:Prop}[Decidable c](a b:Option α)(k:α->Option β):FB (if c then a else b) k=if c then FB a k else FB b k:=by split<;>rfl
section
variable{l:LI}{h:HI}{f g fa fb fc:RE}
@[simp] theorem lA(d:Dt):eC d l h=some (d,h):=by rfl
noncomputable def eN(h:HI):Option (Option Dt)->Option (Dt×HI)
 | some (some d)=>some (d,h)
 | _=>none
@[simp] theorem kA(d:Dt):eN h (some (some d))=some (d,h):=by rfl
@[simp] theorem jA(i:Nat):eV i l h=eN h l[i]?:=by unfold eV eN;rfl
@[simp] theorem pA(op:GC):e2 op fa fb l h=FB (fa l h) fun r=>FB (fb l r.2) fun q=>op r.1 q.1 q.2:=by rfl
@[simp] theorem HA:sA l h=some ([],h):=by rfl
@[simp] theorem KA(r:RA):cA f r l h=FB (f l h) fun r'=>FB (r l r'.2) fun q=>some (r'.1::q.1,q.2):=by rfl
noncomputable def fj:Dt×HI->Option (Bool×HI)
 | (.bl b,h)=>some (b,h)
 | _=>none
@[simp] theorem vA(b:Bool):fj (.bl b,h)=some (b,h):=by rfl
@[simp] theorem CA:Aq f l h=FB (f l h) fj:=by
 unfold FB;unfold Aq
 congr 1
 funext r
 obtain⟨d,h⟩:=r;cases d<;>rfl
@[simp] theorem YE(t u:RT):LD t u l h=FB (t l h) fun r=>if r.1=true then u l r.2 else some (false,r.2):=by rfl
@[simp] theorem JC(t u:RT):VC t u l h=FB (t l h) fun r=>if r.1=true then some (true,r.2)else u l r.2:=by rfl
@[simp] theorem wH(t:RT):KE t l h=FB (t l h) fun r=>some (!r.1,r.2):=by rfl
noncomputable def sV(u:RE)(l:LI):Dt×HI->Option (Dt×HI)
 | (.bl true,h)=>u l h
 | (.bl false,h)=>some (.bl false,h)
 | _=>none
noncomputable def tR(u:RE)(l:LI):Dt×HI->Option (Dt×HI)
 | (.bl true,h)=>some (.bl true,h)
 | (.bl false,h)=>u l h
 | _=>none
@[simp] theorem uI(u:RE)(b:Bool):sV u l (.bl b,h)=if b=true then u l h else some (.bl false,h):=by cases b<;>rfl
@[simp] theorem aM(u:RE)(b:Bool):tR u l (.bl b,h)=if b=true then some (.bl true,h)else u l h:=by cases b<;>rfl
@[simp] theorem XJ(u:RE):VG f u l h=FB (f l h) (sV u l):=by
 unfold FB;unfold VG
 congr 1
 funext r
 obtain⟨d,h⟩:=r;cases d<;>(try rfl);rename_i b;cases b<;>rfl
@[simp] theorem DM(u:RE):sR f u l h=FB (f l h) (tR u l):=by
 unfold FB;unfold sR
 congr 1
 funext r
 obtain⟨d,h⟩:=r;cases d<;>(try rfl);rename_i b;cases b<;>rfl
@[simp] theorem Lj(t:RT):vW t f g l h=FB (t l h) fun r=>if r.1=true then f l r.2 else g l r.2:=by rfl
noncomputable def Z9(o':GC)(fc:RE)(l:LI)(q:Dt):Dt×HI->Option (Dt×HI)
 | (.bl true,h)=>(fc l h).bind fun r=>o' q r.1 r.2
 | (.bl false,h)=>some (.bl false,h)
 | _=>none
@[simp] theorem zU(o':GC)(q:Dt)(b:Bool):Z9 o' fc l q (.bl b,h)=if b=true then FB (fc l h) fun r=>o' q r.1 r.2 else some (.bl false,h):=by cases b<;>rfl
@[simp] theorem jT(o o':GC):qH o o' fa fb fc l h=FB (fa l h) fun r=>FB (fb l r.2) fun q=>FB (o r.1 q.1 q.2) (Z9 o' fc l q.1):=by
 unfold FB;unfold qH
 congr 1
 funext r
 congr 1
 funext q
 congr 1
 funext z
 obtain⟨d,h⟩:=z;cases d<;>(try rfl);rename_i b;cases b<;>rfl
@[simp] theorem ND(r:RA):cE r l h=FB (r l h) fun r=>if r.1.length<=sizeLine then some (.tup r.1,r.2)else none:=by rfl
@[simp] theorem YD(r:RA):iC r l h=FB (r l h) fun r=>if r.1.length<=sizeLine then some (.lst r.1,r.2)else none:=by rfl
@[simp] theorem UJ(r:RA):JF r l h=FB (r l h) fun r=>if r.1.length<=sizeLine then some (.ref r.2.length,r.2++[.lst r.1])else none:=by rfl
noncomputable def fR:Dt×HI->Option (Dt×HI)
 | (.int b,h)=>some (.int (-b),h)
 | _=>none
@[simp] theorem dG(b:Int):fR (.int b,h)=some (.int (-b),h):=by rfl
@[simp] theorem lG:aD f l h=FB (f l h) fR:=by
 unfold FB;unfold aD
 congr 1
 funext r
 obtain⟨d,h⟩:=r;cases d<;>rfl
@[simp] theorem dD(i j:Int):wC (.int i) (.int j) h=some (.int (i+j),h):=by rfl
@[simp] theorem zM(i j:Int):TH (.int i) (.int j) h=some (.int (i-j),h):=by rfl
@[simp] theorem Tj(i j:Int):wM (.int i) (.int j) h=some (.int (Builtin.bitAnd i j),h):=by rfl
@[simp] theorem fE(i j:Int):QG (.int i) (.int j) h=some (.bl (decide (i<j)),h):=by rfl
@[simp] theorem jR(i j:Int):EK (.int i) (.int j) h=some (.bl (decide (i<=j)),h):=by rfl
@[simp] theorem GK(i j:Int):gN (.int i) (.int j) h=some (.bl (decide (j<i)),h):=by rfl
@[simp] theorem FK(i j:Int):aW (.int i) (.int j) h=some (.bl (decide (j<=i)),h):=by rfl
theorem cK{i j:Int}(c:Xz i j):qG (.int i) (.int j) h=some (.int (i*j),h):=by simp only[qG,oI,if_pos c]
theorem eD{i j:Int}(c:QI i j):OB (.int i) (.int j) h=some (.int (i/j),h):=by simp only[OB,oI,if_pos c]
theorem uB{i j:Int}(c:0<j):WA (.int i) (.int j) h=some (.int (i%j),h):=by simp only[WA,oI,if_pos c]
theorem fV{i j:Int}(c:FF i j):SG (.int i) (.int j) h=some (.int (i^j.toNat),h):=by simp only[SG,oI,if_pos c]
theorem hV{i j:Int}(c:FF i j):cJ (.int i) (.int j) h=some (.int (i*2^j.toNat),h):=by simp only[cJ,oI,if_pos c]
theorem iV{i j:Int}(c:0<=j):dJ (.int i) (.int j) h=some (.int (i/2^j.toNat),h):=by simp only[dJ,oI,if_pos c]
@[simp] theorem LB(i j:Int):QA (.int i) (.int j) h=some (.bl (decide (i=j)),h):=by show some (Dt.bl (decide (V.int i=V.int j)),h)=_;simp
@[simp] theorem LF(i j:Int):tD (.int i) (.int j) h=some (.bl (!decide (i=j)),h):=by show some (Dt.bl (!decide (V.int i=V.int j)),h)=_;simp
@[simp] theorem rD(i j:Str):QA (.str i) (.str j) h=some (.bl (decide (i=j)),h):=by show some (Dt.bl (decide (V.str i=V.str j)),h)=_;simp
@[simp] theorem Ij(i j:Str):tD (.str i) (.str j) h=some (.bl (!decide (i=j)),h):=by show some (Dt.bl (!decide (V.str i=V.str j)),h)=_;simp
theorem S8{xs ys:List Dt}(c:iE xs ys=true):QA (.lst xs) (.lst ys) h=some (.bl (IC xs ys),h):=by simp only[QA,if_pos c]
@[simp] theorem sF{α:Type}(xs:List α)(k:Nat):qz xs (k:Int)=xs[k]?:=by
 unfold qz JH;rw[if_pos (by omega)];by_cases hk:k<xs.length
 · rw[if_pos (by omega)];simp
 · rw[if_neg (by omega)];simp;omega
@[simp] theorem Hj(xs:List Dt)(i:Int):xA (.tup xs) (.int i) h=(qz xs i).map fun d=>(d,h):=by rfl
@[simp] theorem yM(xs:List Dt)(i:Int):xA (.lst xs) (.int i) h=(qz xs i).map fun d=>(d,h):=by rfl
theorem T8{n:Nat}{xs:List Dt}(e:h[n]?=some (.lst xs))(i:Int):xA (.ref n) (.int i) h=(qz xs i).map fun d=>(d,h):=by simp only[xA,MF,uA,e,Dc]
noncomputable def iW(g:RS):Rs->Option Rs
 | .nx l h=>g l h
 | r=>some r
@[simp] theorem FA(g:RS):iW g (.nx l h)=g l h:=by rfl
@[simp] theorem ZA(g:RS)(d:Dt):iW g (.rt d h)=some (.rt d h):=by rfl
@[simp] theorem GA(f g:RS):oA f g l h=FB (f l h) (iW g):=by
 unfold FB;unfold oA
 congr 1
@[simp] theorem bB:jB l h=some (.nx l h):=by rfl
@[simp] theorem wB(i:Nat):OA i f l h=FB (f l h) fun r=>some (.nx (l.set i (some r.1)) r.2):=by rfl
@[simp] theorem aG:mG f l h=FB (f l h) fun r=>some (.nx l r.2):=by rfl
@[simp] theorem BA:DA f l h=FB (f l h) fun r=>some (.rt r.1 r.2):=by rfl
@[simp] theorem JA(t:RT)(f g:RS):nC t f g l h=FB (t l h) fun r=>if r.1=true then f l r.2 else g l r.2:=by rfl
noncomputable def PH:Option Rs->Option (Dt×HI)
 | some (.rt d h')=>some (d,h')
 | some (.nx _ h')=>some (.non,h')
 | _=>none
@[simp] theorem yA(d:Dt):PH (some (.rt d h))=some (d,h):=by rfl
@[simp] theorem Uj{c:Prop}[Decidable c](a b:Option Rs):PH (if c then a else b)=if c then PH a else PH b:=by split<;>rfl
@[simp] theorem XA(n N:Nat)(body:RS)(ds:List Dt):DC n N body ds h=if ds.length=n then PH (body (ds.map some++List.replicate (N-n) none) h)else none:=by unfold DC PH;rfl
@[simp] theorem YA(F:fC)(Vz:List Dt)(g:RA):UA F Vz g l h=FB (g l h) fun r=>F (r.1++Vz) r.2:=by rfl
@[simp] theorem iT(F:fC)(Vz:List Dt):YJ F Vz l h=F Vz h:=by rfl
noncomputable def BV(go:LI->HI->Option Rs):Rs->Option Rs
 | .nx l h=>go l h
 | .ct l h=>go l h
 | .bk l h=>some (.nx l h)
 | .rt d h=>some (.rt d h)
@[simp] theorem Fj(go:LI->HI->Option Rs):BV go (.nx l h)=go l h:=by rfl
@[simp] theorem Ej(go:LI->HI->Option Rs):BV go (.ct l h)=go l h:=by rfl
@[simp] theorem o9(go:LI->HI->Option Rs)(d:Dt):BV go (.rt d h)=some (.rt d h):=by rfl
def ZC(bd:RG)(body:RS):List Dt->LI->HI->Option Rs
 | [],l,h=>some (.nx l h)
 | x::xs,l,h=>(bd x l).bind fun l1=>(body l1 h).bind (BV (ZC bd body xs))
theorem DS(bd:RG)(body:RS)(xs:List Dt):∀(n k:Nat)(l:LI)(h:HI),n=(xs.length-k)+1->k<=xs.length->dE bd body (.vals xs) n k l h=ZC bd body (xs.drop k) l h:=by
 intro n
 induction n with
 | zero=>intro k l h e;omega
 | succ n ih=>
  intro k l h e hk;unfold dE;simp only[Src.at];by_cases hl:k<xs.length
  · rw[getElem?_eq_getElem hl,drop_eq_getElem_cons hl];simp only[ZC]
    congr 1
    funext l1
    congr 1
    funext r
    cases r with
    | nx l' h'=>exact ih (k+1) l' h' (by omega) (by omega)
    | ct l' h'=>exact ih (k+1) l' h' (by omega) (by omega)
    | bk l' h'=>rfl
    | rt d h'=>rfl
  · rw[getElem?_eq_none (by omega),drop_eq_nil_of_le (by omega)];rfl
theorem Vj{g:RI}{xs:List Dt}{h':HI}(e:g l h=some (.vals xs,h'))(bd:RG)(body:RS):sG g bd body l h=ZC bd body xs l h':=by unfold sG;rw[e];simp only[Dc,Src.fuel];exact DS bd body xs _ 0 _ _ (by omega) (by omega)
@[simp] theorem VJ(i:Nat)(d:Dt):UB i d l=some (l.set i (some d)):=by rfl
def dN(bd:RG)(body:RS)(l:LI):Src×HI->Option Rs:=fun r=>dE bd body r.1 (r.1.fuel r.2) 0 l r.2
@[simp] theorem WJ(g:RI)(bd:RG)(body:RS):sG g bd body l h=FB (g l h) (dN bd body l):=by rfl
@[simp] theorem BJ(bd:RG)(body:RS)(xs:List Dt):dN bd body l (.vals xs,h)=ZC bd body xs l h:=by unfold dN;simp only[Src.fuel];exact DS bd body xs _ 0 _ _ (by omega) (by omega)
noncomputable def AV:Dt×HI->Option (Src×HI)
 | (.int j,h)=>if -(2^62)<=j/\j<2^62 then some (.vals ((List.range j.toNat).map fun(k:Nat)=>Dt.int (k:Int)),h)else none
 | _=>none
@[simp] theorem BM:WI f l h=FB (f l h) AV:=by
 unfold FB;unfold WI
 congr 1
 funext r
 obtain⟨d,h⟩:=r;cases d<;>rfl
theorem mT{j:Int}(a:-(2^62)<=j)(b:j<2^62):AV (.int j,h)=some (.vals ((List.range j.toNat).map fun(k:Nat)=>Dt.int (k:Int)),h):=if_pos ⟨a,b⟩
def NF:Dt×HI->Option (Src×HI)
 | (.lst xs,h)=>some (.vals xs,h)
 | (.ref n,h)=>if 0<Src.fuel (.rf n) h then some (.rf n,h)else none
 | _=>none
@[simp] theorem nH(xs:List Dt):NF (.lst xs,h)=some (.vals xs,h):=by rfl
@[simp] theorem FG:eE f l h=FB (f l h) NF:=by
 unfold FB;unfold eE dR;cases f l h with
 | none=>rfl
 | some r=>obtain⟨d,h⟩:=r;cases d<;>first | rfl | (simp[NF,Src.fuel];done)
noncomputable def lE(bd:RG)(tc:RT)(te:RE):List Dt->LI->HI->Option (List Dt×HI)
 | [],_,h=>some ([],h)
 | x::xs,l,h=>(bd x l).bind fun l1=>(tc l1 h).bind fun b=>if b.1=true then(te l1 b.2).bind fun r=>(lE bd tc te xs l1 r.2).bind fun q=>some (r.1::q.1,q.2)
  else lE bd tc te xs l1 b.2
theorem tY(bd:RG)(tc:RT)(te:RE)(xs:List Dt)(hx:xs.length<sizeLine):∀(n k:Nat)(l:LI)(h:HI)(ys:List Dt),n=(xs.length-k)+1->k<=xs.length->ys.length<=k->
 ZD bd tc te (.vals xs) n k l h ys=(lE bd tc te (xs.drop k) l h).bind fun q=>some (ys++q.1,q.2):=by
 intro n
 induction n with
 | zero=>intro k l h ys e;omega
 | succ n ih=>
  intro k l h ys e hk hy;unfold ZD;simp only[Src.at];by_cases hl:k<xs.length
  · rw[getElem?_eq_getElem hl,drop_eq_getElem_cons hl];simp only[lE];cases bd xs[k] l with
    | none=>rfl
    | some l1=>
     simp only[Dc];cases tc l1 h with
     | none=>rfl
     | some b=>
      simp only[Dc];by_cases hb:b.1=true
      · simp only[if_pos hb];cases te l1 b.2 with
        | none=>rfl
        | some r=>
         simp only[Dc];rw[if_pos (by omega),ih (k+1) l1 r.2 _ (by omega) (by omega) (by simp;omega)];cases lE bd tc te (xs.drop (k+1)) l1 r.2 with
         | none=>rfl
         | some q=>simp
      · simp only[if_neg hb];exact ih (k+1) l1 b.2 ys (by omega) (by omega) (by omega)
  · rw[getElem?_eq_none (by omega),drop_eq_nil_of_le (by omega)];simp[lE]
def zF(bd:RG)(tc:RT)(te:RE)(l:LI):Src×HI->Option (List Dt×HI):=fun r=>ZD bd tc te r.1 (r.1.fuel r.2) 0 l r.2 []
theorem VD(bd:RG)(tc:RT)(te:RE){xs:List Dt}(hx:xs.length<sizeLine):zF bd tc te l (.vals xs,h)=lE bd tc te xs l h:=by unfold zF;simp only[Src.fuel];rw[tY bd tc te xs hx _ 0 _ _ _ (by omega) (by omega) (by simp)];rw[drop_zero];cases lE bd tc te xs l h<;>simp
@[simp] theorem fH(g:RI)(bd:RG)(tc:RT)(te:RE)(cap:List (Option Nat)):YC g bd tc te cap l h=FB (FB (g l h) (zF bd tc te (nE l cap))) fun q=>some (.lst q.1,q.2):=by unfold FB;unfold YC zF;rw[Option.bind_assoc]
@[simp] theorem DL(g:RI)(bd:RG)(tc:RT)(te:RE)(cap:List (Option Nat)):tH g bd tc te cap l h=FB (FB (g l h) (zF bd tc te (nE l cap))) fun q=>some (.ref q.2.length,q.2++[.lst q.1]):=by unfold FB;unfold tH zF;rw[Option.bind_assoc]
@[simp] theorem lT:rC l h=some (true,h):=by rfl
@[simp] theorem XE:nE l []=[]:=by rfl
@[simp] theorem WE(cap:List (Option Nat)):nE l (none::cap)=none::nE l cap:=by rfl
@[simp] theorem TF(j:Nat)(cap:List (Option Nat)):nE l (some j::cap)=(l[j]?).join::nE l cap:=by rfl
theorem mI{α:Type}{te:RE}{i:Nat}{tc:RT}(D:α->Dt)(p:α->Bool)(F:α->Dt)(h:HI):∀(xs:List α)(l:LI),(∀x∈xs,tc (l.set i (some (D x))) h=some (p x,h)/\(p x=true->te (l.set i (some (D x))) h=some (F x,h)))->
 lE (UB i) tc te (xs.map D) l h=some ((xs.filter p).map F,h)
 | [],_,_=>rfl
 | x::xs,l,H=>by
  have hx:=H x (by simp);have ih:=mI D p F h xs (l.set i (some (D x))) (te:=te) (tc:=tc) (i:=i) (fun y hy=>by
   rw[set_set];exact H y (by simp[hy]))
  simp only[uc,lE,VJ,Dc,hx.1];by_cases hp:p x=true
  · simp only[hp,if_true,hx.2 hp,Dc,ih];simp[hp]
  · simp only[hp];rw[if_neg (by simp),ih];simp[hp]
theorem UF{α:Type}{te:RE}{i:Nat}{tc:RT}(D:α->Dt)(F:α->Dt)(h:HI)(xs:List α)(l:LI)(H:∀x∈xs,tc (l.set i (some (D x))) h=some (true,h)/\te (l.set i (some (D x))) h=some (F x,h)) :
 lE (UB i) tc te (xs.map D) l h=some (xs.map F,h):=by
 rw[mI D (fun _=>true) F h xs l fun x hx=>⟨(H x hx).1,fun _=>(H x hx).2⟩,filter_eq_self.mpr (by simp)]
@[simp] theorem MB(F:Dt->HI->Option (Dt×HI)):HC F f l h=FB (f l h) fun r=>F r.1 r.2:=by rfl
@[simp] theorem ZJ(xs:List Dt):oB (.lst xs) h=some (.int xs.length,h):=by rfl
@[simp] theorem Rj(xs:List Dt):oB (.tup xs) h=some (.int xs.length,h):=by rfl
theorem qF{n:Nat}{xs:List Dt}(e:h[n]?=some (.lst xs)):oB (.ref n) h=some (.int xs.length,h):=by simp only[oB,MF,uA,e,Bc]
@[simp] theorem M7(b:Bool):zK (.bl b) h=some (.int (if b=true then 1 else 0),h):=by rfl
@[simp] theorem Wj(ns:List Int):rF (ns.map Dt.int)=some ns:=by
 induction ns with
 | nil=>rfl
 | cons n ns ih=>simp[rF,ih]
theorem F8(ns:List Int):AK (.lst (ns.map Dt.int)) h=some (.int ns.sum,h):=by simp[AK,uA]
@[simp] theorem Jj:jN l h=some (none,h):=by rfl
noncomputable def Y9:Dt×HI->Option (Option Int×HI)
 | (.int i,h)=>some (some i,h)
 | _=>none
@[simp] theorem uT(i:Int):Y9 (.int i,h)=some (some i,h):=by rfl
@[simp] theorem oV:fF f l h=FB (f l h) Y9:=by
 unfold FB;unfold fF
 congr 1
 funext r
 obtain⟨d,h⟩:=r;cases d<;>rfl
@[simp] theorem nV(lo hi:RO):IH f lo hi l h=FB (f l h) fun r=>FB (lo l r.2) fun o=>FB (hi l o.2) fun u=>(uA u.2 r.1).map fun xs=>(.lst (xE xs o.1 u.1),u.2):=by rfl
@[simp] theorem Mj(xs:List Dt):uA h (.lst xs)=some xs:=by rfl
theorem FH{xs ys:List Dt}(c:xs.length+ys.length<=sizeLine):pC (.lst xs) (.lst ys) h=some (.lst (xs++ys),h):=by simp only[pC,uA,Dc,if_pos c]
@[simp] theorem Nj:sizeLine=16777216:=by rfl
noncomputable def aN(g:RE)(l:LI):Dt×HI->Option (Dt×HI)
 | (.ref n,h)=>(match h[n]? with
  | some (.lst _)=>(g l h).bind fun q=>match q.2[n]? with
   | some (.lst xs)=>if xs.length<sizeLine then some (.non,q.2.set n (.lst (xs++[q.1])))else none
   | _=>none
  | _=>none)
 | _=>none
@[simp] theorem zG:YF f g l h=FB (f l h) (aN g l):=by
 unfold FB;unfold YF
 congr 1
 funext r
 obtain⟨d,h⟩:=r;cases d<;>(try rfl)
theorem AG{n:Nat}{xs ys:List Dt}{d:Dt}{h':HI}(e:h[n]?=some (.lst ys))(eg:g l h=some (d,h'))(e':h'[n]?=some (.lst xs))(c:xs.length<sizeLine):aN g l (.ref n,h)=some (.non,h'.set n (.lst (xs++[d]))):=by simp only[aN,e,eg,Dc,e',if_pos c]
end
noncomputable def Pass(I:LI->HI->Prop):Rs->Prop
 | .nx l h=>I l h
 | .ct l h=>I l h
 | _=>False
section
variable{l:LI}{h:HI}{f g:RE}
@[simp] theorem Oj(bs:List Bool):xF (bs.map Dt.bl)=some bs:=by
 induction bs with
 | nil=>rfl
 | cons n ns ih=>simp[xF,ih]
theorem E8(bs:List Bool):yK (.lst (bs.map Dt.bl)) h=some (.bl (bs.all id),h):=by simp[yK,uA]
@[simp] theorem kT(i j:Nat)(a b:Dt):aE i j (.tup [a,b]) l=some ((l.set i (some a)).set j (some b)):=by rfl
end
theorem EL{h:HI}{n:Nat}{xs:List Dt}(e:h[n]?=some (.lst xs)):NF (.ref n,h)=some (.rf n,h):=by
 have:0<Src.fuel (.rf n) h:=by simp only[Src.fuel,e];omega
 simp only[NF,if_pos this]
section
variable{l:LI}{h:HI}{f g fe fo fi fa fb:RE}
def oN(l:LI)(v o:Dt):Dt×HI->Option Rs
 | (.int k,h)=>(match o with
  | .ref n=>(match h[n]? with
   | some (.lst xs)=>(JH xs.length k).bind fun j=>some (.nx l (h.set n (.lst (xs.set j v))))
   | _=>none)
  | _=>none)
 | _=>none
@[simp] theorem WL:GG fe fo fi l h=FB (fe l h) fun v=>FB (fo l v.2) fun o=>FB (fi l o.2) (oN l v.1 o.1):=by
 unfold FB GG
 congr 1
 funext v
 congr 1
 funext o
 congr 1
 funext i
 obtain⟨d,h⟩:=o;obtain⟨k,h⟩:=i;cases k<;>cases d<;>rfl
theorem J2{n k:Nat}(hk:k<n):JH n (k:Int)=some k:=by unfold JH;rw[if_pos (by omega),if_pos (by omega)];simp
theorem JJ{n k:Nat}{xs:List Dt}{v:Dt}(e:h[n]?=some (.lst xs))(hk:k<xs.length):oN l v (.ref n) (.int (k:Int),h)=some (.nx l (h.set n (.lst (xs.set k v)))):=by simp only[oN,e,J2 hk,Dc]
@[simp] theorem mV(t:RG):lN t fe l h=FB (fe l h) fun v=>FB (t v.1 l) fun l'=>some (.nx l' v.2):=by rfl
def VH(a:Dt):Dt×HI->Option (Dt×HI)
 | (.int i,h)=>if -(2^62)<=i/\i<=1000000 then some (.lst (UG a i),h)else none
 | _=>none
@[simp] theorem EQ:MG fa fb l h=FB (fa l h) fun a=>FB (fb l a.2) (VH a.1):=by
 unfold FB MG
 congr 1
 funext v
 congr 1
 funext o
 obtain⟨d,h⟩:=o;cases d<;>rfl
@[simp] theorem MK(i j:Int):CD (.int i) (.int j) h=some (.bl (decide (i=j)),h):=by
 have r:∀k:Int,BB h 8 (.int k)=some (.int k):=fun _=>by simp[BB]
 simp only[CD,r,Dc,LB,Bc]
@[simp] theorem xR(i j:Int):bJ (.int i) (.int j) h=some (.bl (!decide (i=j)),h):=by
 have r:∀k:Int,BB h 8 (.int k)=some (.int k):=fun _=>by simp[BB]
 simp only[bJ,r,Dc,LF,Bc]
theorem S9{a b:Dt}{xs ys:List Dt}(e1:BB h 8 a=some (.lst xs))(e2:BB h 8 b=some (.lst ys))(c:iE xs ys=true):CD a b h=some (.bl (IC xs ys),h):=by simp only[CD,e1,e2,Dc,S8 c,Bc]
noncomputable def kj(fa:RE)(l:LI):Dt×HI->Option (Dt×HI)
 | (.ref n,h)=>(match h[n]? with
  | some (.lst _)=>(fa l h).bind fun q=>match q.1 with
   | .ref m=>(match q.2[n]?,q.2[m]? with
    | some (.lst xs),some (.lst ys)=>if xs.length+ys.length<=sizeLine then some (.non,q.2.set n (.lst (xs++ys)))else none
    | _,_=>none)
   | _=>none
  | _=>none)
 | _=>none
@[simp] theorem IK(F:Dt->Dt->Option Dt):RV F fa fb l h=FB (fa l h) fun r=>FB (fb l r.2) fun q=>(F r.1 q.1).map fun d=>(d,q.2):=by rfl
@[simp] theorem nM(i j:Int):KM (.int i) (.int j)=some (.int (min i j)):=by
 unfold KM;simp only
 congr 2
 split<;>omega
end
theorem gQ{α:Type}{i:Nat}{body:RS}(D:α->Dt)(S:Nat->LI->HI->Prop):∀(xs:List α)(k0:Nat)(_:∀(k:Nat) x,xs[k]?=some x->∀l h,S (k0+k) l h->∃r,body (l.set i (some (D x))) h=some r/\Pass (S (k0+k+1)) r)(l:LI)(h:HI),S k0 l h->
 ∃l' h',ZC (UB i) body (xs.map D) l h=some (.nx l' h')/\S (k0+xs.length) l' h'
 | [],k0,_,l,h,s=>⟨l,h,rfl,s⟩
 | x::xs,k0,H,l,h,s=>by
  obtain⟨r,e,p⟩:=H 0 x rfl l h s;have H':∀(k:Nat) y,xs[k]?=some y->∀l h,S (k0+1+k) l h->∃r,body (l.set i (some (D y))) h=some r/\Pass (S (k0+1+k+1)) r:=by intro k y hy l h s;have:=H (k+1) y (by simpa using hy) l h (by rw[show k0+(k+1)=k0+1+k by omega];exact s);rw[show k0+(k+1)+1=k0+1+k+1 by omega]at this;exact this
  cases r with
  | nx l2 h2=>obtain⟨l',h',e',i'⟩:=gQ D S xs (k0+1) H' l2 h2 p;exact⟨l',h',by simp[ZC,e,e'],by rw[Zd,show k0+(xs.length+1)=k0+1+xs.length by omega];exact i'⟩
  | ct l2 h2=>obtain⟨l',h',e',i'⟩:=gQ D S xs (k0+1) H' l2 h2 p;exact⟨l',h',by simp[ZC,e,e'],by rw[Zd,show k0+(xs.length+1)=k0+1+xs.length by omega];exact i'⟩
  | bk l2 h2=>exact p.elim
  | rt d h2=>exact p.elim
section
variable{l:LI}{h:HI}{fo fi fe f fa:RE}
noncomputable def fN(fi fe:RE)(l:LI):Dt×HI->Option (Dt×HI)
 | (.ref n,h)=>(match h[n]? with
  | some (.lst _)=>(fi l h).bind fun i=>(fe l i.2).bind fun q=>match i.1,q.2[n]? with
   | .int k,some (.lst xs)=>if 0<=k/\k<=1000000/\xs.length<sizeLine then some (.non,q.2.set n (.lst (xs.take k.toNat++q.1::xs.drop k.toNat)))else none
   | _,_=>none
  | _=>none)
 | _=>none
@[simp] theorem F0:IL fo fi fe l h=FB (fo l h) (fN fi fe l):=by
 unfold FB IL
 congr 1
 funext r
 obtain⟨d,h⟩:=r;cases d<;>(try rfl)
theorem Z0{n k:Nat}{xs:List Dt}{d:Dt}(e:h[n]?=some (.lst xs))(ei:fi l h=some (.int (k:Nat),h))(ee:fe l h=some (d,h))(c:xs.length<sizeLine)(ck:k<=1000000):fN fi fe l (.ref n,h)=some (.non,h.set n (.lst (xs.take k++d::xs.drop k))):=by have:0<=((k:Nat):Int)/\((k:Nat):Int)<=1000000/\xs.length<sizeLine:=⟨by omega,by omega,c⟩;simp only[fN,e,ei,Dc,ee,if_pos this,Int.toNat_natCast]
@[simp] theorem A6(n:Nat)(t:RT)(body:RS):mQ n t body l h=ZE t body n l h:=by rfl
end
section
variable{l:LI}{h:HI}{f g fo fe:RE}{ga:RA}
end
end SM
namespace L2
section
variable{X:Cx}{a b c d:Expr}{ta tb tc td:TE}{pos:Pos}
theorem cX:Oq X (.type "int") (fun xs H Q=>∃x n,xs=[.str x]/\PySem.intText? x=some n/\x.length<=640/\Q (.int n) H):=by intro pins s σ H xs us Q I r zz;obtain⟨x,n,e,hn,hl,q⟩:=zz;subst e;obtain⟨u,rfl,ru⟩:=DF r;obtain⟨t,rfl⟩:=ru;exact PySem.W.KIN.call_text hn hl ⟨.int n,H,I.tok _,⟨_,rfl⟩,q⟩
noncomputable def X4(r r' r'':R2)(ta tb tc td:TE):TE:=fun σ H Q=>ta σ H fun x H1=>tb σ H1 fun y H2=>r x y H2 fun z H3=>∃k,z=.bl k/\
 (if k=true then tc σ H3 fun y' H4=>r' y y' H4 fun z' H5=>∃k',z'=.bl k'/\(if k'=true then td σ H5 fun w' H6=>r'' y' w' H6 Q else Q (.bl false) H5)else Q (.bl false) H3)
theorem GZ{o1 o2 o3:CmpOp}{r r' r'':R2}(h1:Vq X (compareOp o1) r)(h2:Vq X (compareOp o2) r')(h3:Vq X (compareOp o3) r'')(ha:PE X a ta)(hb:PE X b tb)(hc:PE X c tc)(hd:PE X d td)
 (hm:lastMarks [o1,o2,o3] [b,c,d]=false:=by with_unfolding_all rfl):PE X (.Compare a [o1,o2,o3] [b,c,d] pos) (X4 r r' r'' ta tb tc td):=by
 intro pins s σ H Q I h;refine Compare_chain (qB (ha pins s σ H _ I h) fun v s1 ⟨x,H1,I1,r1,q1⟩=>chain_link (qB (hb pins s1 σ H1 _ I1 q1) fun u s2 ⟨y,H2,I2,r2,q2⟩=>qB (h1 pins s2 σ H2 x y v u _ I2 r1 r2 q2) fun d s3 zz=>?_)) hm;obtain⟨z,H3,I3,r3,k,e,q3⟩:=zz;subst e;cases r3;refine wpAny_truthy_bool ?_;cases k with
 | false=>exact ite_ff ⟨.bl false,H3,I3,rfl,q3⟩
 | true=>
  refine ite_tt (chain_link (qB (hc pins s3 σ H3 _ I3 q3) fun u4 s4 ⟨y4,H4,I4,r4,q4⟩=>qB (h2 pins s4 σ H4 y y4 u u4 _ I4 r2 r4 q4) fun d5 s5 zz=>?_));obtain⟨z5,H5,I5,r5,k5,e5,q5⟩:=zz;subst e5;cases r5;refine wpAny_truthy_bool ?_;cases k5 with
  | false=>exact ite_ff ⟨.bl false,H5,I5,rfl,q5⟩
  | true=>exact ite_tt (chain_last (qB (hd pins s5 σ H5 _ I5 q5) fun u6 s6 ⟨y6,H6,I6,r6,q6⟩=>h3 pins s6 σ H6 y4 y6 u4 u6 Q I6 r4 r6 q6))
end
end L2
namespace SM
section
variable{X:Cx}{a b c d e:Expr}{fa fb fc fd f:RE}{p pos apos cpos:Pos}
noncomputable def SA:GC:=fun a b h=>match a,b with
 | .str x,.str y=>if x.length+y.length<=sizeLine then some (.str (x++y),h)else none
 | _,_=>none
theorem iB:OM X (binaryOp .Add) SA:=by
 with_unfolding_all
  exact Vq.imp lY fun x y H Q zz=>by
   obtain⟨ρ,h,d1,d2,d,h',S,R1,R2,e,k⟩:=zz;unfold SA at e;split at e
   · obtain⟨c,e⟩:=QD e;cases e;exact⟨_,_,jq.mp R1,jq.mp R2,c,k ρ _ H (jq.mpr rfl) S (Ext.refl _ _)⟩
   · cases e
noncomputable def DK:GC:=fun a b h=>match a,b with
 | .str x,.str y=>some (.bl (Txt.contains y x),h)
 | _,_=>none
theorem Q6:OM X (compareOp .In) DK:=by
 with_unfolding_all
  exact Vq.imp EZ fun x y H Q zz=>by
   obtain⟨ρ,h,d1,d2,d,h',S,R1,R2,e,k⟩:=zz;unfold DK at e;split at e
   · cases e;exact⟨_,_,jq.mp R1,jq.mp R2,k ρ _ H (pq.mpr rfl) S (Ext.refl _ _)⟩
   · cases e
noncomputable def BD:Dt->HI->Option (Dt×HI):=fun d h=>match d with
 | .int i=>if i.natAbs.log2<1920 then some (.str (toString i),h)else none
 | _=>none
theorem CG (hg:Gl X "str") (hm:X.mg "str" =none) (ha:EM X e f) (hs:CB e=true:=by rfl):EM X (.Call (.Name "str" p) [e] [] pos) (HC BD f):=by
 with_unfolding_all
  exact HQ qX (fun ρ h d v d' h' H Q S R e k=>by
   unfold BD at e;split at e
   · obtain⟨c,e⟩:=QD e;cases e;exact⟨_,by rw[gq.mp R],c,k ρ _ H (jq.mpr rfl) S (Ext.refl _ _)⟩
   · cases e) hg hm boot_str ha (hs:=hs)
noncomputable def IE:Dt->HI->Option (Dt×HI):=fun d h=>match d with
 | .str x=>(PySem.intText? x).bind fun n=>if x.length<=640 then some (.int n,h)else none
 | _=>none
theorem AT (hg:Gl X "int") (hm:X.mg "int" =none) (ha:EM X e f) (hs:CB e=true:=by rfl):EM X (.Call (.Name "int" p) [e] [] pos) (HC IE f):=by
 with_unfolding_all
  exact HQ cX (fun ρ h d v d' h' H Q S R e k=>by
   unfold IE at e;split at e
   · obtain⟨n,e1,e⟩:=nA e;obtain⟨c,e⟩:=QD e;cases e;exact⟨_,n,by rw[jq.mp R],e1,c,k ρ _ H (gq.mpr rfl) S (Ext.refl _ _)⟩
   · cases e) hg hm boot_int ha (hs:=hs)
noncomputable def MJ(o o' yd:GC)(fa fb fc fd:RE):RE:=fun l h=>(fa l h).bind fun r=>(fb l r.2).bind fun q=>(o r.1 q.1 q.2).bind fun z=>match z.1 with
 | .bl true=>(fc l z.2).bind fun y=>(o' q.1 y.1 y.2).bind fun z2=>match z2.1 with
  | .bl true=>(fd l z2.2).bind fun w=>yd y.1 w.1 w.2
  | .bl false=>some (.bl false,z2.2)
  | _=>none
 | .bl false=>some (.bl false,z.2)
 | _=>none
theorem fZ{p1 p2 p3:CmpOp}{r r' r'':GC}(ho:OM X (compareOp p1) r)(ho':OM X (compareOp p2) r')(ho'':OM X (compareOp p3) r'')(ha:EM X a fa)(hb:EM X b fb)(hc:EM X c fc)(hd:EM X d fd)
 (hm:lastMarks [p1,p2,p3] [b,c,d]=false:=by with_unfolding_all rfl):EM X (.Compare a [p1,p2,p3] [b,c,d] pos) (MJ r r' r'' fa fb fc fd):=by
 with_unfolding_all
  exact PE.imp (GZ ho ho' ho'' ha hb hc hd hm) fun σ H Q zz=>by
   obtain⟨ρ,l,h,d,h',S,L,e,k⟩:=zz;obtain⟨⟨d1,h1⟩,e1,e⟩:=nA e;obtain⟨⟨d2,h2⟩,e2,e⟩:=nA e;obtain⟨⟨d3,h3⟩,e3,e⟩:=nA e;refine⟨ρ,l,h,d1,h1,S,L,e1,fun ρ1 x H1 R1 S1 E1=>⟨ρ1,l,h1,d2,h2,S1,L.ext E1,e2,fun ρ2 y H2 R2 S2 E2=>⟨ρ2,h2,d1,d2,d3,h3,S2,lq.ext E2 _ R1,R2,e3,fun ρ3 v H3 R3 S3 E3=>?_⟩⟩⟩;cases d3 with
   | bl q=>
    refine⟨q,pq.mp R3,?_⟩;cases q with
    | true=>
     dsimp only at e;obtain⟨⟨d4,h4⟩,e4,e⟩:=nA e;obtain⟨⟨d5,h5⟩,e5,e⟩:=nA e;refine zE ⟨ρ3,l,h3,d4,h4,S3,(L.ext (E1.trans (E2.trans E3))),e4,fun ρ4 u H4 R4 S4 E4=>⟨ρ4,h4,d2,d4,d5,h5,S4,lq.ext (E3.trans E4) _ R2,R4,e5,fun ρ5 v5 H5 R5 S5 E5=>?_⟩⟩;cases d5 with
     | bl q5=>
      refine⟨q5,pq.mp R5,?_⟩;cases q5 with
      | true=>dsimp only at e;obtain⟨⟨d6,h6⟩,e6,e⟩:=nA e;exact zE ⟨ρ5,l,h5,d6,h6,S5,(L.ext (E1.trans (E2.trans (E3.trans (E4.trans E5))))),e6,fun ρ6 u6 H6 R6 S6 E6=>⟨ρ6,h6,d4,d6,d,h',S6,lq.ext (E5.trans E6) _ R4,R6,e,k.ext (E1.trans (E2.trans (E3.trans (E4.trans (E5.trans E6)))))⟩⟩
      | false=>cases e;exact yE (k ρ5 _ H5 (pq.mpr rfl) S5 (E1.trans (E2.trans (E3.trans (E4.trans E5)))))
     | _=>cases e
    | false=>cases e;exact yE (k ρ3 _ H3 (pq.mpr rfl) S3 (E1.trans (E2.trans E3)))
   | _=>cases e
end
end SM
namespace L2
open Builtin Builtin.Str
section
variable{X:Cx}
theorem sY{prog:Program}{w:World}{A:Around}{E:Value->Shared->Prop}{s:Shared}{Q:Value->Shared->Prop}{x y:Str}{t u:Tok}(hy:(y.length==0)=false)(hx:x.length<=sizeLine)(hn:(Txt.split x y).length<=sizeLine)
 (q:∀l k,l.map (·.1)=Txt.split x y->Q (.ref s.heap.objs.size) { s with toks:=k,heap:=s.heap.push { cls:=.type "list",data:=.seq (strValues l).toArray } }):wpAny (model prog w) A (call (.builtin "str.split") [.str x t,.str y u]) Q E s:=by
 by_cases g1:(decide (x.length<y.length) || decide (strKind x<strKind y))=true
 · exact call_meets F.slot_str_split (typeIs_str _ _ _) F.entry_str_split (F.args_str_split_2 _ _) (meets_str_split_cannot_occur x y t u g1) (q [(x,t)] s.toks (by unfold Txt.split;rw[if_pos g1];rfl))
 · by_cases g2:(occurrences x y 0 x.length (x.length+1)).isEmpty=true
   · exact call_meets F.slot_str_split (typeIs_str _ _ _) F.entry_str_split (F.args_str_split_2 _ _) (meets_str_split_not_found x y t u (Bool.eq_false_iff.mpr g1) hy g2) (q [(x,t)] s.toks (by unfold Txt.split;rw[if_neg g1,if_pos g2];rfl))
   · have es:Txt.split x y=partsBetween x (occurrences x y 0 x.length (x.length+1)) y.length:=by unfold Txt.split;rw[if_neg g1,if_neg g2]
     refine call_meets F.slot_str_split (typeIs_str _ _ _) F.entry_str_split (F.args_str_split_2 _ _) (meets_str_split_sep x y t u (Bool.eq_false_iff.mpr g1) hy (Bool.eq_false_iff.mpr g2) hx (es ▸ hn)) ?_;have w:=q (numbered s.toks (partsBetween x (occurrences x y 0 x.length (x.length+1)) y.length)) (s.toks+(partsBetween x (occurrences x y 0 x.length (x.length+1)) y.length).length) ((numbered_texts _ _).trans es.symm);rw[<- strsFrom_eq]at w;exact w
theorem tZ:∀l:List (Str×Tok),Vals ((l.map (·.1)).map V.str) (strValues l):=by
 intro l
 induction l with
 | nil=>exact .nil
 | cons p l ih=>exact .cons ⟨_,rfl⟩ ih
theorem F1:NQ X "str.split" (fun x xs H Q=>∃z y,x=.str z/\xs=[.str y]/\(y.length==0)=false/\z.length<=sizeLine/\(Txt.split z y).length<=sizeLine/\∀l,H l=none->Q (.ref l) (AB H l (.lst ((Txt.split z y).map V.str)))):=by
 intro pins s σ H x xs v us Q I rx rs zz;obtain⟨z,y,e1,e2,hy,hz,hn,q⟩:=zz;subst e1 e2;obtain⟨t,rfl⟩:=rx;obtain⟨u,rfl,ru⟩:=Vals.one rs;obtain⟨t',rfl⟩:=ru;refine sY hy hz hn fun l k hl=>?_
 have r:=tZ l;rw[hl]at r;exact⟨.ref s.heap.objs.size,_,I.laid (t':=k) (fun b o h=>Heap.get?_push_of_some _ h) (Uc _) (show Sq X.prog X.w _ _ _ (.lst ((Txt.split z y).map V.str))from⟨by rw[length_map];exact hn,strValues l,0,r,Heap.get?_push_size _ rfl⟩),rfl,q _ (I.hok.fresh (Uc _))⟩
end
end L2
namespace SM
section
variable{X:Cx}{a b e:Expr}{fa fb f:RE}{p1 p2 pos apos cpos:Pos}
noncomputable def Yj(x:Str)(f:RE):RE:=fun l h=>(f l h).bind fun r=>match r.1 with
 | .str y=>if x.length+y.length<=sizeLine then some (.str (x++y),r.2)else none
 | _=>none
theorem oS{K:Frag}{H:Hp}{ρ:Rg}:∀ts:List Str,aq K H ρ (ts.map Dt.str) (ts.map V.str)
 | []=>aq.nil
 | t::ts=>aq.cons (jq.mpr rfl) (oS ts)
noncomputable def aF(fa fb:RE):RE:=fun l h=>(fa l h).bind fun r=>(fb l r.2).bind fun q=>match r.1,q.1 with
 | .str z,.str y=>if(y.length==0)=false/\z.length<=sizeLine/\(Txt.split z y).length<=sizeLine then some (.lst ((Txt.split z y).map Dt.str),q.2)else none
 | _,_=>none
theorem xL (ho:EM X a fa) (hb:EM X b fb) (hbase:attributeBase a "split" X.env (eval a X.env)=eval a X.env:=by rfl)
 (hline:(apos.endLine==cpos.line)=true:=by rfl) (hs:CB b=true:=by rfl) :
 EM X (.Call (.Attribute a "split" apos) [b] [] cpos) (aF fa fb):=by
 with_unfolding_all
  exact PE.imp (eK PySem.F.plainAttrs_str PySem.F.slot_str_split PySem.F.type_str_split F1 ho (RC hb MD (HB hs _ _)) hbase (sL hs) hline (HB hs _ _)) fun σ H Q zz=>by
   obtain⟨ρ,l,h,d,h',S,L,e,k⟩:=zz;obtain⟨⟨d1,h1⟩,e1,e⟩:=nA e;obtain⟨⟨d2,h2⟩,e2,e⟩:=nA e;refine⟨ρ,l,h,d1,h1,S,L,e1,fun ρ1 v H1 R1 S1 E1=>?_⟩;dsimp only at e;split at e
   · cases jq.mp R1;refine⟨rfl,ρ1,l,h1,_,h2,S1,L.ext E1,e2,fun ρ2 y H2 R2 S2 E2=>?_⟩;obtain⟨c,e⟩:=QD e;cases e;cases jq.mp R2;refine⟨_,_,rfl,rfl,c.1,c.2.1,c.2.2,fun p hp=>?_⟩;exact k ρ2 _ _ (QJ S2 (oS _) hp) (S2.fresh hp) (E1.trans (E2.trans (Ext.fresh hp)))
   · cases e
end
end SM
namespace L2
noncomputable def JV(x:Str):It:=⟨fun i _=>i<x.cps.size,fun i H y H'=>H'=H/\∃c,x.cps[i]?=some c/\y=.str ⟨#[c]⟩,fun i _=>x.cps.size<=i⟩
theorem eL (x:Str):(strIterType x = "str_ascii_iterator" /\ x.cps.all (· < 128)=true)\/(strIterType x = "str_iterator" /\ x.cps.all (· < 128)=false):=by unfold strIterType;cases x.cps.all (· < 128)<;>simp
theorem rZ{P:Program}{w:World}{K:Frag}{tg:Expr}(x:Str)(t:Tok)(it:Addr):MH P w K tg (JV x) [it] it (fun i h=>h.IsStrIter it (strIterType x) x t i) where
 mem:=by simp
 obj:=fun i h st b hb=>by
  have z:b=it:=by simpa using hb
  obtain⟨o,e,_,d⟩:=st;exact⟨o,z ▸ e,fun v y=>by rw[d]at y;cases y⟩
 keep:=fun i h h' st k=>by obtain⟨o,e,r⟩:=st;exact⟨o,k it (by simp) o e,r⟩
 item:=by
  intro X hP hw hK hc i pins s σ H E I hf st hg;subst hP hw hK;obtain⟨f0,f1,f2,f3,f4,f5⟩:=hf it (by simp);have hg:i<x.cps.size:=hg;have hx:x.cps[i]?=some x.cps[i]:=by simp[hg]
  have fin:∀h',h'.IsStrIter it (strIterType x) x t (i+1)->Heap.SameBut it s.heap h'->∃u,some (Value.str ⟨#[x.cps[i]]⟩ s.toks)=some u/\
   wpAny (model X.prog X.w) X.A (letOwnedTupleGo tg (.ref it) u) (fun _ s2=>∃y H',Inv X pins σ H' s2/\RelV y u/\(JV x).gk i H y H'/\s2.heap.IsStrIter it (strIterType x) x t (i+1)/\∀b ∈ [it],H' b=none) E { s with heap:=h',toks:=s.toks+1 }:=fun h' st' sb=>by
   have I1:Inv X pins σ H { s with heap:=h',toks:=s.toks+1 }:=I.turned (t':=s.toks+1) (fun b o hb e=>(sb.2 b hb).trans e) f0 f1 f3 f4 f5;obtain⟨o,e,c,d⟩:=id st';exact⟨_,rfl,zQ (s:={ s with heap:=h',toks:=s.toks+1 }) e c d (by rcases eL x with z | z<;>rw[z.1]<;>decide) ⟨.str ⟨#[x.cps[i]]⟩,H,I1,⟨_,rfl⟩,⟨rfl,_,hx,rfl⟩,st',fun b hb=>(hf b hb).1⟩⟩
  rcases eL x with z | z
  · rw[z.1]at st fin;exact wpAny_pyNext_ascii_item st hx fun h' a b=>by rw[z.1];exact fin h' a b
  · rw[z.1]at st fin;exact wpAny_pyNext_wide_item st hx fun h' a b=>by rw[z.1];exact fin h' a b
 done:=by
  intro X hP hw hK hc i pins s σ H E I hf st hg;subst hP hw hK;obtain⟨f0,f1,f2,f3,f4,f5⟩:=hf it (by simp);have hg:x.cps.size<=i:=hg;have hx:x.cps[i]?=none:=by simp[hg]
  rcases eL x with z | z
  · rw[z.1]at st;exact wpAny_pyNext_ascii_end (I.ok.hd hc) st hx fun h' eb=>⟨rfl,I.turned (t':=s.toks) (fun b o hb e=>eb b o hb e) f0 f1 f3 f4 f5⟩
  · rw[z.1]at st;exact wpAny_pyNext_wide_end (I.ok.hd hc) st hx fun h' eb=>⟨rfl,I.turned (t':=s.toks) (fun b o hb e=>eb b o hb e) f0 f1 f3 f4 f5⟩
 self:=fun _ _ _ _ _ st h=>by
  rcases eL x with z | z
  · rw[z.1]at st;exact wpAny_pyIter_striter_ascii st h
  · rw[z.1]at st;exact wpAny_pyIter_striter_wide st h
section
variable{X:Cx}{tg:Expr}
def P8(te:TE):TI:=fun σ H R=>te σ H fun v H1=>∃x,v=.str x/\R (JV x) H1
theorem Z5{a:Expr}{te:TE}(ha:PE X a te):PI X tg a (P8 te):=by
 intro pins s σ H R I h;refine qB (ha pins s σ H _ I h) fun v s1 zz=>?_
 obtain⟨y,H1,I1,r1,x,e,q⟩:=zz;subst e;obtain⟨t,rfl⟩:=r1;refine wpAny_pyIter_strU ?_;refine⟨s1.heap.objs.size,[s1.heap.objs.size],_,_,H1,rfl,I1.kept (t':=s1.toks) fun b o e=>Heap.get?_push_of_some _ e,rZ x t _,⟨_,Heap.get?_push_size _ rfl,rfl,rfl⟩,fun b hb=>?_,q⟩;have e:b=s1.heap.objs.size:=by simpa using hb
 subst e;exact I1.Qv (Uc _) (I1.hok.fresh (Uc _))
end
end L2
namespace SM
section
variable{X:Cx}{a b e:Expr}{fa fb f:RE}{p1 p2 pos apos cpos:Pos}
def WC(fa fb:RE):RE:=fun l h=>(fa l h).bind fun r=>(fb l r.2).bind fun q=>match r.1 with
 | .str z=>(uA q.2 q.1).bind fun xs=>(HG xs).bind fun ts=>if PySem.JoinOk z ts=true then some (.str (Str.join z ts),q.2)else none
 | _=>none
theorem SD (ho:EM X a fa) (hb:EM X b fb) (hbase:attributeBase a "join" X.env (eval a X.env)=eval a X.env:=by rfl)
 (hline:(apos.endLine==cpos.line)=true:=by rfl) (hs:CB b=true:=by rfl) :
 EM X (.Call (.Attribute a "join" apos) [b] [] cpos) (WC fa fb):=by
 with_unfolding_all
  exact PE.imp (eK PySem.F.plainAttrs_str PySem.F.slot_str_join PySem.F.type_str_join U2 ho (RC hb MD (HB hs _ _)) hbase (sL hs) hline (HB hs _ _)) fun σ H Q zz=>by
   obtain⟨ρ,l,h,d,h',S,L,e,k⟩:=zz;obtain⟨⟨d1,h1⟩,e1,e⟩:=nA e;obtain⟨⟨d2,h2⟩,e2,e⟩:=nA e;refine⟨ρ,l,h,d1,h1,S,L,e1,fun ρ1 v H1 R1 S1 E1=>?_⟩;dsimp only at e;split at e
   · cases jq.mp R1;refine⟨rfl,ρ1,l,h1,d2,h2,S1,L.ext E1,e2,fun ρ2 y H2 R2 S2 E2=>?_⟩;obtain⟨xs,e3,e⟩:=nA e;obtain⟨ts,e4,e⟩:=nA e;obtain⟨ok,e⟩:=XI e;cases e;obtain⟨p,vs,zz,sq,rs⟩:=tE S2 R2 e3;subst zz;have:=V0 e4 rs;subst this;exact⟨_,p,ts,rfl,rfl,sq,ok,k ρ2 _ H2 (jq.mpr rfl) S2 (E1.trans E2)⟩
   · cases e
def FI(fo fa:RE):RE:=fun l h=>(fo l h).bind fun r=>(uA r.2 r.1).bind fun _=>(fa l r.2).bind fun q=>(uA q.2 r.1).bind fun xs=>if dF xs q.1=true then(ME xs q.1).map fun j=>(.int (j:Nat),q.2)else none
theorem sP (hu:X.A.units+64<cLine) (ho:EM X a fa) (hb:EM X b fb) (hbase:attributeBase a "index" X.env (eval a X.env)=eval a X.env:=by rfl)
 (hline:(apos.endLine==cpos.line)=true:=by rfl) (hs:CB b=true:=by rfl) :
 EM X (.Call (.Attribute a "index" apos) [b] [] cpos) (FI fa fb):=by
 with_unfolding_all exact PE.imp (eK PySem.F.plainAttrs_list PySem.F.slot_list_index PySem.F.type_list_index (NY hu) ho (RC hb MD (HB hs _ _)) hbase (sL hs) hline (HB hs _ _)) fun σ H Q zz=>by obtain⟨ρ,l,h,d,h',S,L,e,k⟩:=zz;obtain⟨⟨d1,h1⟩,e1,e⟩:=nA e;obtain⟨xs0,e0,e⟩:=nA e;obtain⟨⟨d2,h2⟩,e2,e⟩:=nA e;obtain⟨xs,e3,e⟩:=nA e;obtain⟨ok,e⟩:=XI e;obtain⟨j,q,e⟩:=Option.map_eq_some_iff.mp e;cases e;refine⟨ρ,l,h,d1,h1,S,L,e1,fun ρ1 v H1 R1 S1 E1=>?_⟩;obtain⟨x,Kd,z,Fd,_⟩:=tE S1 R1 e0;subst z;refine⟨.inl ⟨rfl,Kd,Fd⟩,ρ1,l,h1,d2,h2,S1,L.ext E1,e2,fun ρ2 y H2 R2 S2 E2=>?_⟩;obtain⟨x',ws,z,sq,rs⟩:=tE S2 (lq.ext E2 _ R1) e3;cases z;exact⟨ρ2,xs,d2,y,x,ws,j,rfl,rfl,by rw[if_neg Rc];exact sq,rs,R2,ok,q,k ρ2 _ H2 (gq.mpr rfl) S2 (E1.trans E2)⟩
def pG:GC:=fun a b h=>(uA h b).bind fun xs=>if dF xs a=true then some (.bl (xs.any fun x=>bC x a),h)else none
theorem hU(hu:X.A.units+64<cLine):OM X (compareOp .In) pG:=by
 with_unfolding_all
  exact fun pins s σ H x y v u Q I rx ry zz=>by
   obtain⟨ρ,h,d1,d2,d,h',S,R1,R2,e,k⟩:=zz;obtain⟨xs,e1,e⟩:=nA e;obtain⟨ok,e⟩:=XI e;cases e;obtain⟨p,ws,z,sq,rs⟩:=tE S R2 e1;subst z;cases ry;simp only[dF,Bool.and_eq_true,decide_eq_true_eq]at ok;obtain⟨its,rv,pl,hz⟩:=I.list sq;obtain⟨f,g1,g2⟩:=YU I X.A.in1 ok.1.1 ok.1.2 (by have:=CJ X.A;omega) rs R1 rv rx;have hl:its.length=xs.length:=by rw[<- rv.length,rs.length]
   refine SeqAt.in_listAt f pl.isList (fun w hw=>g2 w (by simpa using hw)) ⟨.bl _,H,I,rfl,?_⟩;have:its.toArray.any f=xs.any fun x=>bC x d1:=by
    rw[show its.toArray.any f=its.any f by simp];have em:its.map f=xs.map fun x=>bC x d1:=by apply ext_getElem (by simp[hl]);intro n h1 h2;rw[getElem_map,getElem_map,g1 n (by simpa using h1)];unfold NI;rw[getElem?_eq_getElem (by simpa using h2)]
    have:=congrArg (fun l=>l.any id) em;simpa[any_map]using this
   rw[this];exact k ρ _ H (pq.mpr rfl) S (Ext.refl _ _)
end
section
variable{X:Cx}{tg:Expr}
noncomputable def BK(f:RE):RI:=fun l h=>(f l h).bind fun r=>match r.1 with | .str x=>some (.vals (x.cps.toList.map fun c=>Dt.str ⟨#[c]⟩),r.2) | _=>none
theorem v4{a:Expr}{f:RE}(ha:EM X a f):IM X tg a (BK f):=by
 with_unfolding_all
  exact PI.imp (Z5 ha) fun σ H R zz=>by
   obtain⟨ρ,l,h,s,h',S,L,e,k⟩:=zz;obtain⟨⟨d1,h1⟩,e1,e⟩:=nA e;refine⟨ρ,l,h,d1,h1,S,L,e1,fun ρ1 v H1 R1 S1 E1=>?_⟩;dsimp only at e;split at e
   · rename_i x;cases e;cases jq.mp R1;refine⟨x,rfl,k ρ1 _ H1 (fun H2 ρ2 h2 E2 S2 i=>?_) S1 E1⟩;simp only[Src.at];cases ei:(x.cps.toList.map fun c=>Dt.str ⟨#[c]⟩)[i]? with
     | none=>show x.cps.size<=i;simpa using getElem?_eq_none_iff.mp ei
     | some d=>
      have hi:i<x.cps.size:=by simpa using (Kc ei).1
      refine⟨hi,fun u H3 y=>?_⟩;obtain⟨rfl,c,y1,rfl⟩:=y;rw[getElem?_map]at ei;rw[Array.getElem?_toList,y1]at ei;cases ei;exact⟨jq.mpr rfl,Ext.refl _ _,S2⟩
   · cases e
end
end SM
namespace L2
noncomputable abbrev PM (t:Tok):List (Str×Value):=[(Str.ofString "start", .int 1 t)]
theorem Y0 {self a:Value} {t:Tok}:Meets (Builtin.«object.__init__» ⟨[self,a],PM t⟩) (fun _ R s=>s.TypeIs self "enumerate" /\ R (.ok (.ret .none)) s):=by
 have hl:=F.called_enumerate.init.lookup;have hm:=F.called_enumerate.made;refine .of_wp fun prog w A R s zz=>?_
 obtain⟨hT,hq⟩:=zz
 repeat (any_goals (first | assumption | wp_step))
 all_goals exact⟨_,rfl,hq⟩
theorem X2(l:Addr)(its:Array Value)(m:Nat)(dc:Option Addr)(sl:Array (Option Value))(t:Tok) :
 Meets (Builtin.«enumerate.__new__» ⟨[.type "enumerate", .ref l],PM t⟩) (fun _ R s=>s.heap.get? l=some { cls:=.type "list",dict:=dc,data:=.seq its m,slots:=sl }/\
  R (.ok (.ret (.ref (s.heap.push { cls:=.type "list_iterator",data:=.fields #[.ref l,.int 0 0] }).objs.size))) { s with heap:=(s.heap.push { cls:=.type "list_iterator",data:=.fields #[.ref l,.int 0 0] }).push { cls:=.type "enumerate",data:=.fields #[.none,.bool false,.ref s.heap.objs.size,rawInt 1,.none,.none] } }):=
 .of_wp fun prog w A R s zz=>by
  obtain⟨hl,hq⟩:=zz;obtain⟨hp,g,d,tk,os⟩:=s;have hsub:=sub_enumerate;have hL:Heap.IsList (Shared.heap ⟨hp,g,d,tk,os⟩) l its:=⟨_,hl,rfl,m,rfl⟩
  wp_walk using AutoSeq1.wpAny_loadPart' hl
  refine wpAny_stack_any fun st=>wpAny_pure ?_
  split
  · rename_i c _ _ _ _ _;cases (c==Value.type "enumerate")<;>(wp_walk using AutoSeq1.wpAny_loadPart' hl,wpAny_pyIter_list hL)
    all_goals exact⟨_,rfl,hq⟩
  · wp_walk using AutoSeq1.wpAny_loadPart' hl,wpAny_pyIter_list hL
    exact⟨_,rfl,hq⟩
section
variable{prog:Program}{w:World}{A:Around}{E:Value->Shared->Prop}{s:Shared}
theorem bX{l:Addr}{its:Array Value}{t:Tok}{Q:Value->Shared->Prop}(hL:s.heap.IsList l its)
 (q:∀h',IsEnum h' (s.heap.objs.size+1) s.heap.objs.size 1 .none->h'.IsListIter s.heap.objs.size l 0->(∀b o,s.heap.get? b=some o->h'.get? b=some o)->Q (.ref (s.heap.objs.size+1)) { s with heap:=h' }):wpAny (model prog w) A (call (.type "enumerate") [.ref l] (PM t)) Q E s:=by
 obtain⟨⟨c,dc,dt,sl⟩,hl,hc,m,hd⟩:=hL
 replace hc:c=.type "list" :=hc
 replace hd:dt=.seq its m:=hd
 subst hc hd;have ft:=F.called_enumerate;obtain⟨c0,tl,hmro⟩:=ft.mro;have hmade:=ft.made;have hsub:=ft.sub;have hct:checkTypeCall "enumerate" ⟨[.ref l],PM t⟩=pure ():=by kernel_rfl
 have hcn:checkBuiltinCall "enumerate.__new__" ⟨[.type "enumerate", .ref l],PM t⟩=pure ():=by kernel_rfl
 have hz:(s.heap.push { cls:=.type "list_iterator",data:=.fields #[.ref l,.int 0 0] }).objs.size=s.heap.objs.size+1:=Heap.size_push ..;refine wpAny_call (codeAny_of_tree ?_);show wpAny _ _ (callAny (.type "enumerate") _) _ _ _;refine wpAny_pure ⟨Code.quiet_builtin _ (by decide +kernel),codeAny_builtin F.entry_type_call ?_⟩;rw[Around.under_plain (weight_type_call_type "enumerate" [.ref l] (PM t)) (units_type_call_type "enumerate" [.ref l] (PM t))];have g1:=ft.notType;have g2:=ft.canCreate
 repeat (any_goals (first | assumption | wp_step))
 refine codeAny_mono (codeAny_call_builtin ft.plain F.entry_enumerate_new (wpAny_of_eq hcn (X2 l its m dc sl t prog w A.in1 (wants (fun ob s1=>ob=.ref (s.heap.objs.size+1)/\∃h',s1={ s with heap:=h' }/\IsEnum h' (s.heap.objs.size+1) s.heap.objs.size 1 .none/\h'.IsListIter s.heap.objs.size l 0/\∀b o,s.heap.get? b=some o->h'.get? b=some o) fun _ _=>False) s ⟨hl,?_⟩))) fun r s1 hr=>?_
 · rw[hz];have he:=Heap.get?_push_size (s.heap.push { cls:=.type "list_iterator",data:=.fields #[.ref l,.int 0 0] }) (o:={ cls:=.type "enumerate",data:=.fields #[.none,.bool false,.ref s.heap.objs.size,rawInt 1,.none,.none] }) rfl;rw[hz]at he;exact⟨rfl,_,rfl,he,⟨_,Heap.get?_push_of_some _ (Heap.get?_push_size _ rfl),rfl,rfl⟩,fun b o x=>Heap.get?_push_of_some _ (Heap.get?_push_of_some _ x)⟩
 · cases r with
   | error e=>exact hr.elim
   | ok fl=>
    cases fl with
    | ret ob=>
     obtain⟨rfl,h',rfl,he,hit,kp⟩:=hr;have hT:Shared.TypeIs { s with heap:=h' } (.ref (s.heap.objs.size+1)) "enumerate" :=⟨_,he,rfl⟩;have hli:=ft.init.lookup;have hbi:=ft.init.bind (.ref (s.heap.objs.size+1))
     repeat (any_goals (first | assumption | wp_step))
     refine codeAny_mono (codeAny_call_builtin ft.init.plain F.entry_object_init (ft.init.check _ _ _ _ _ _ _ _ hT (by unfold argsOk;kernel_rfl) (Y0 prog w A.in1 (wants (fun r s2=>r=.none/\s2={ s with heap:=h' }) fun _ _=>False) _ ⟨hT,rfl,rfl⟩))) fun r2 s2 h2=>?_
     cases r2 with
     | error e=>exact h2.elim
     | ok f2=>
      cases f2 with
      | ret r=>
       obtain⟨rfl,rfl⟩:=h2;have fin:=q h' he hit kp
       repeat (any_goals (first | assumption | wp_step))
      | _=>exact h2.elim
    | _=>exact hr.elim
end
theorem BZ{prog:Program}{w:World}{A:Around}(hh:A.handled=none)(it l:Addr)(hne:l≠it)(its:Array Value) :
 Draws prog w A it [it,l] (its.size+1) (fun i v=>∃j,i=j+1/\its[j]?=some v) (fun i h=>∃j,i=j+1/\h.IsListIter it l j/\h.IsList l its):=by
 have D:=Draws.list (prog:=prog) (w:=w) hh it l hne its;refine⟨fun _ h ⟨j,_,st⟩=>D.live j h st,fun _ h h' ⟨j,e,st⟩ hk=>⟨j,e,D.frame j h h' st hk⟩,fun i s Q E hi ⟨j,e,st⟩ hQ=>?_,fun s Q E ⟨j,e,st⟩ hE=>?_⟩
 · subst e;exact D.item j s Q E (by omega) st fun x h' tk hp st' sb=>hQ x h' tk ⟨j,rfl,hp⟩ ⟨j+1,rfl,st'⟩ sb
 · have e:its.size=j:=by omega
   subst e;exact D.done s Q E st hE
theorem ZY{prog:Program}{w:World}{A:Around}(hh:A.handled=none)(it l:Addr)(its:Array Value)(i:Nat)(hx:its[i]?=none) :
 Draws prog w A it [it,l] (i+1) (fun _ _=>True) (fun k h=>k=i+1/\h.IsListIter it l i/\h.IsList l its):=
 ⟨fun _ _ ⟨_,⟨o,ho,_⟩,_⟩=>⟨o,ho⟩,fun _ _ _ ⟨e,st,sl⟩ hk=>⟨e,st.at fun o e=>hk it (by simp) o e,sl.at fun o e=>hk l (by simp) o e⟩,fun k s Q E hk st _=>absurd st.1 (Nat.ne_of_lt hk),fun s Q E st hE=>wpAny_nextOf_list_end hh st.2.1 st.2.2 hx hE⟩
def UQ(K:Frag)(a:Addr):It:=
 ⟨fun i H=>∃xs x,yx K H a xs/\xs[i]?=some x,fun i H x H'=>∃p y,H p=none/\x=.ref p/\(∀xs,yx K H a xs->xs[i]?=some y)/\H'=AB H p (.tup [.int ((i+1:Nat):Int),y]),fun i H=>∃xs,yx K H a xs/\xs.length<=i⟩
theorem YX{P:Program}{w:World}{K:Frag}{elts:List Expr}{x1}{pos:Pos}(a e it:Addr)(hne:e≠it):MH P w K (.Tuple elts x1 pos) (UQ K a) [e,it] e (fun i h=>(∃old,IsEnum h e it ((i+1:Nat):Int) old)/\h.IsListIter it a i) where
 mem:=by simp
 obj:=fun i h st b hb=>by
  obtain⟨⟨old,s1⟩,o,q,c,d⟩:=st;have z:b=e\/b=it:=by simpa using hb
  rcases z with rfl | rfl
  · exact⟨_,s1,fun v z=>by cases z⟩
  · exact⟨o,q,fun v z=>by rw[d]at z;cases z⟩
 keep:=fun i h h' st k=>by obtain⟨⟨old,s1⟩,s2⟩:=st;exact⟨⟨old,k e (by simp) _ s1⟩,s2.at fun o e=>k it (by simp) o e⟩
 item:=by
  intro X hP hw hK hc i pins s σ H E I hf st hg;subst hP hw hK;obtain⟨⟨old,s1⟩,s2⟩:=st;obtain⟨xs,x,hq,hx⟩:=hg;obtain⟨its,rv,p,hz⟩:=I.list hq;obtain⟨u,hu,ru⟩:=rv.get hx;have fe:=hf e (by simp);have fi:=hf it (by simp);have hL:=p.isList;have qd:e≠a:=fun z=>by obtain⟨o,q,_,n,d⟩:=hL;rw[<- z,show s.heap.get? e=_ from s1]at q;cases q;cases d
  have ud:a≠it:=fun z=>by obtain⟨o,q,_,n,d⟩:=hL;obtain⟨o2,q2,_,d2⟩:=s2;rw[z,q2]at q;cases q;rw[d2]at d;cases d
  have hi:i<its.toArray.size:=by simpa using (Kc hu).1
  refine wpAny_pyNext_enum_itemD (BZ (prog:=X.prog) (w:=X.w) (A:=X.A.in1) (I.ok.hd hc) it a ud its.toArray) s1 ⟨i,rfl,s2,hL⟩ (by omega) hne (by simp[hne,qd]) fun y h' tk hp out st' tup sz kp=>?_
  obtain⟨j,ej,gj⟩:=hp;have ej:j=i:=by omega
  subst ej;have ey:y=u:=by rw[show its.toArray[j]?=its[j]? by simp,hu]at gj;cases gj;rfl
  subst ey;obtain⟨j2,e2,it',_⟩:=st';have e2:j2=j+1:=by omega
  subst e2;refine⟨_,rfl,wpAny_letOwnedTupleGo_enum out fun h2 he2 sb=>?_⟩;have hpe:s.heap.objs.size≠e:=(Nat.ne_of_lt (Heap.lt_size s1)).symm;have hpi:s.heap.objs.size≠it:=by obtain⟨o,q,_⟩:=s2;exact(Nat.ne_of_lt (Heap.lt_size q)).symm
  have t2:h2.get? s.heap.objs.size=some { cls:=.type "tuple",data:=.seq #[.int ((j+1:Nat):Int) tk,y] }:=(sb.2 _ hpe).trans tup;refine⟨.ref s.heap.objs.size,AB H s.heap.objs.size (.tup [.int ((j+1:Nat):Int),x]),I.Lw (t':=tk+1) (fun b o h1 h3 q=>(sb.2 b h1).trans (kp b o h1 h3 q)) fe fi (Uc _) ⟨by simp only[Zd,jc];rw[sizeLine_eq];decide,[.int ((j+1:Nat):Int) tk,y],.cons ⟨_,rfl⟩ (.cons ru .nil),⟨_,t2,rfl,_,rfl⟩⟩,rfl,⟨_,x,I.hok.fresh (Uc _),rfl,fun ys hy=>by rw[I.wz hy hq];exact hx,rfl⟩,⟨⟨_,he2⟩,it'.at fun o q=>(sb.2 it (Ne.symm hne)).trans q⟩,fun b hb=>?_⟩;have z:b=e\/b=it:=by simpa using hb
  rcases z with rfl | rfl
  · rw[lB (Ne.symm hpe)];exact fe.1
  · rw[lB (Ne.symm hpi)];exact fi.1
 done:=by intro X hP hw hK hc i pins s σ H E I hf st hg;subst hP hw hK;obtain⟨⟨old,s1⟩,s2⟩:=st;obtain⟨xs,hq,hx⟩:=hg;obtain⟨its,rv,p,hz⟩:=I.list hq;have hl:=rv.length;exact wpAny_pyNext_enum_endD (ZY (prog:=X.prog) (w:=X.w) (A:=X.A.in1) (I.ok.hd hc) it a its.toArray i (by simp;omega)) s1 ⟨rfl,s2,p.isList⟩ fun h' eb=>⟨rfl,I.Ew (t':=s.toks) (fun b o _ h3 q=>eb b o h3 q) (hf e (by simp)) (hf it (by simp))⟩
 self:=fun _ _ _ _ _ st h=>by obtain⟨⟨old,s1⟩,_⟩:=st;exact wpAny_pyIter_enum s1 h
theorem nX{M:Model}{A:Around}{E:Value->Shared->Prop}{s:Shared}{env:Env}{pos:Pos}{T:String}{e:Expr}{rest:List Expr}{kws:List Keyword}{Q:Value->Shared->Prop}
 (h:wpAny M A (spliced (backTo pos (starEach (e::rest) env))) (fun us s1=>wpAny M A (evalAll ((backToKw pos (keywordEach kws env)).map (·.2))) (fun ws s2=>wpAny M A (call (.type T) us (((backToKw pos (keywordEach kws env)).filterMap (·.1)).zip ws)) Q E s2) E s1) E s)
 (he:backTo pos (starEach (e::rest) env)=(false,eval e env)::backTo pos (starEach rest env)) (hp:(backTo pos (starEach (e::rest) env)).any (·.1)=false) (hl:(backToKw pos (keywordEach kws env)).all (·.1.isSome)=true) (hk:(backToKw pos (keywordEach kws env)).any (·.1.isNone)=false) :
 wpAny M A (callWith pos (.type T) [] (backTo pos (starEach (e::rest) env)) (backToKw pos (keywordEach kws env))) Q E s:=by
 unfold callWith;refine wpAny_bind (wpAny_holding (wpAny_mono (Q:=fun a s1=>wpAny M A (call (.type T) a.pos a.kw) Q E s1) (by rw[he]at h ⊢;exact evalArgs_kwB hl h) (fun a s1 h1=>wpAny_bind (wpAny_standAt ?_)) fun _ _ x=>x));simp only[hp,hk,Bool.or_false];refine wpAny_bind (wpAny_pure ?_);exact wpAny_bind (wpAny_mono h1 (fun r s2 hr=>wpAny_bind (wpAny_holding (wpAny_point (wpAny_pure hr)))) fun _ _ x=>x)
section
variable{X:Cx}
theorem ZZ {elts:List Expr} {x1} {tp:Pos} {a d:Expr} {ta:TA} {p pos kp:Pos} (hg:Gl X "enumerate") (hm:X.mg "enumerate" =none) (ha:PA X [a] ta) (hd:PE X d (tC (.int 1))) (hs:starEach [a] X.env=[(false,eval a X.env)]:=by rfl) :
 PI X (.Tuple elts x1 tp) (.Call (.Name "enumerate" p) [a] [⟨some "start",d,kp⟩] pos) (fun σ H R=>ta σ H fun vs H1=>∃a,vs=[.ref a]/\(∃xs,yx X.K H1 a xs)/\R (UQ X.K a) H1):=by
 intro pins s σ H R I h;refine wpAny_Call_Name_kw (PJ I hg hm boot_enumerate ?_);refine nX ?z1 (by rw[hs];rfl) (by rw[hs];rfl) rfl rfl;refine qB (ha pos pins s σ H _ I h) fun us s0 ⟨vs,H1,I0,r1,b,e,⟨xs,hq⟩,q⟩=>?z2
 refine kws_cons ?z3;refine qB (hd pins s0 σ H1 (fun v H'=>v=.int 1/\H'=H1) I0 ⟨rfl,rfl⟩) fun v s1 ⟨y,H2,I1,ry,ey,eH⟩=>?z4
 subst ey eH;obtain⟨t,rfl⟩:=ry;refine kws_nil ?z5;show wpAny _ _ (call (.type "enumerate") us (PM t)) _ _ _;subst e;obtain⟨u,rfl,rx⟩:=DF r1;cases rx;obtain⟨its,rv,pl,hz⟩:=I1.list hq;refine bX pl.isList fun h' he hit k=>?_
 have I2:Inv X pins σ H2 { s1 with heap:=h' }:=I1.kept (t':=s1.toks) k;refine wpAny_pyIter_enum he ?_;refine⟨s1.heap.objs.size+1,[s1.heap.objs.size+1,s1.heap.objs.size],_,_,H2,rfl,I2,YX b (s1.heap.objs.size+1) s1.heap.objs.size (Nat.succ_ne_self _),⟨⟨_,he⟩,hit⟩,fun c hc=>?_,q⟩;have z:c=s1.heap.objs.size+1\/c=s1.heap.objs.size:=by simpa using hc
 rcases z with rfl | rfl
 · exact I1.Qv (Nat.le_succ _) (I1.hok.fresh (Nat.le_succ _))
 · exact I1.Qv (Uc _) (I1.hok.fresh (Uc _))
end
end L2
namespace SM
section
variable{X:Cx}
def BI(f:RE):RI:=fun l h=>(f l h).bind fun r=>match r.1 with | .lst xs=>some (.vals (XB 1 xs),r.2) | _=>none
theorem X0 {elts:List Expr} {x1} {tp p pos kp Vf:Pos} {j} {a:Expr} {f:RE} (hg:Gl X "enumerate") (hm:X.mg "enumerate" =none) (ha:EM X a f) (hs:CB a=true:=by rfl):IM X (.Tuple elts x1 tp) (.Call (.Name "enumerate" p) [a] [⟨some "start", .Constant (.int 1) j Vf,kp⟩] pos) (BI f):=by
 with_unfolding_all
  refine PI.imp (ZZ hg hm (RC ha MD (HB hs _ _)) JU (HB hs _ _)) fun σ H R zz=>?_
  obtain⟨ρ,l,h,s,h',S,L,e,k⟩:=zz;obtain⟨⟨d1,h2⟩,e1,e⟩:=nA e;refine⟨ρ,l,h,d1,h2,S,L,e1,fun ρ1 v H1 R1 S1 E1=>?_⟩;cases d1 with
  | lst xs=>
   cases e;obtain⟨b,ws,rfl,q,r⟩:=vq.mp R1;refine⟨b,rfl,⟨ws,q.sq⟩,k ρ1 _ H1 (fun H2 ρ2 h2 E2 S2 i=>?_) S1 E1⟩;have q2:=q.same E2;have r2:=aq.same E2 _ r;simp only[Src.at,AS];cases ei:xs[i]? with
   | none=>refine⟨ws,q2.sq,?_⟩;rw[r.length];exact getElem?_eq_none_iff.mp ei
   | some d=>obtain⟨v,g1,g2⟩:=r2.get ei;refine⟨⟨ws,v,q2.sq,g1⟩,fun u H3 y=>?_⟩;obtain⟨p0,y0,hp,rfl,gy,rfl⟩:=y;have g3:=gy ws q2.sq;rw[g1]at g3;cases g3;exact⟨cU S2 (.cons (gq.mpr (by rw[Nat.add_comm])) (.cons g2 .nil)) hp,Ext.fresh hp,S2.fresh hp⟩
  | _=>cases e
end
end SM
namespace G
def BC(i:Nat):Stmt:=PySem.Challenge.pw_spanways_k29_rows_at_fault.main.body.getD i (.Pass ⟨0,0,0,0⟩)
noncomputable def Ox:List Dt:=[(.str "ahead"),(.str "joins"),(.str "laps"),(.str "closedby"),(.str "holds"),(.str "opens"),(.str "same"),(.str "openedby"),(.str "within"),(.str "closes"),(.str "lappedby"),(.str "joinedby"),(.str "behind")]
abbrev EJ:Dt:=.tup Ox
noncomputable abbrev VP:Dt:=(.int 60)
noncomputable abbrev BP:Dt:=(.int 6)
noncomputable abbrev nP:Dt:=(.int 6)
noncomputable abbrev mP:Dt:=(.int 1000000000000000000)
noncomputable abbrev lP:Dt:=(.str "abcdefghijklmnopqrstuvwxyz")
noncomputable abbrev kP:Dt:=(.str "0123456789")
noncomputable abbrev xO:Dt:=(.int 8)
noncomputable def qO:List (Str×Bool):=[("BadText",false),("Twice",false),("NoLabel",false),("NoName",false)]
noncomputable def rO:List (Str×Bool):=[("BadText",true),("Twice",false),("NoLabel",false),("NoName",false)]
noncomputable def sO:List (Str×Bool):=[("BadText",false),("Twice",false),("NoLabel",true),("NoName",false)]
noncomputable def NO:List (Str×Bool):=[("BadText",false),("Twice",false),("NoLabel",false),("NoName",true)]
noncomputable def tO:List (Str×Bool):=[("BadText",false),("Twice",false),("NoLabel",false),("NoName",false)]
noncomputable def gP:List (Str×Bool):=[("BadText",false),("Twice",true),("NoLabel",false),("NoName",false)]
noncomputable def mO:List (Str×Bool):=[("BadText",true),("Twice",true),("NoLabel",true),("NoName",true)]
noncomputable def DV:List Str:=["BadText"]
abbrev wN:Stmt:=SL (BC 2) 0
abbrev ER:Stmt:=SL (BC 3) 0
abbrev DR:Stmt:=SL (BC 4) 0
abbrev BR:Stmt:=SL (BC 5) 0
abbrev fP:Stmt:=BC 10
def yO:RE:=eV 0
def zO:RT:=Aq (e2 QA (e2 wM (e2 dJ (eV 1) (eV 0)) (eC (.int 1))) (eC (.int 1)))
def jP:RS:=DA (YC (WI (eC (.int 13))) (UB 0) zO yO [none,some 0])
def qL:fC:=DC 1 1 jP
abbrev vP:Stmt:=BC 11
def aP:RE:=e2 cJ (eC (.int 1)) (eV 0)
def zP:RS:=DA (HC AK (YC (eE (eV 0)) (UB 0) rC aP [none]))
def yJ:fC:=DC 1 1 zP
abbrev FO:Stmt:=BC 13
def dO:RE:=e2 xA (eV 0) (eC (.int 1))
def eO:RT:=Aq (e2 QA (e2 xA (eV 0) (eC (.int 0))) (eC (.str "one")))
def wO:RS:=DA (YC (eE (eV 0)) (UB 0) eO dO [none])
def cL:fC:=DC 1 1 wO
abbrev nO:Stmt:=BC 19
def qJ:RS:=DA (MJ EK EK EK (eC (.int 0)) (eV 0) (eV 1) (eC mP))
def YG:fC:=DC 2 2 qJ
abbrev SO:Stmt:=BC 20
def gI:RS:=oA (nC (Aq (e2 aW (HC oB (eV 0)) (eC VP))) (DA (eC (.bl false))) jB) (DA (sR (e2 tD (e2 xA (eV 1) (eC (.int 0))) (eC (.str "one"))) (e2 QG (HC oB (UA cL [] (cA (eV 0) sA))) (eC BP))))
def xG:fC:=DC 2 2 gI
abbrev uP:Stmt:=BC 25
def ZO:RE:=e2 DK (eV 0) (eV 1)
def yP:RS:=DA (HC yK (YC (BK (eV 0)) (UB 0) rC ZO [none,some 1]))
def xJ:fC:=DC 2 2 yP
abbrev dP:Stmt:=BC 26
def pL:RS:=DA (VG (qH EK EK (eC (.int 1)) (HC oB (eV 0)) (eC (.int 8))) (VG (UA xJ [] (cA (eV 0) (cA (eC lP) sA))) (e2 tD (eV 0) (eC (.str "or")))))
def dH:fC:=DC 1 1 pL
abbrev oO:Stmt:=BC 27
def rJ:RS:=oA (nC (VC (KE (Aq (qH EK EK (eC (.int 1)) (HC oB (eV 0)) (eC (.int 19))))) (KE (Aq (UA xJ [] (cA (eV 0) (cA (eC kP) sA)))))) (DA (eC (.bl false))) jB) (DA (sR (e2 QA (eV 0) (eC (.str "0"))) (e2 tD (e2 xA (eV 0) (eC (.int 0))) (eC (.str "0")))))
def WF:fC:=DC 1 1 rJ
abbrev VO:Stmt:=BC 28
def bO:RE:=e2 xA (eC EJ) (eV 0)
def YO:RS:=DA (YC (eE (UA qL [] (cA (eV 0) sA))) (UB 0) rC bO [none])
def ZK:fC:=DC 1 1 YO
abbrev UO:Stmt:=BC 29
def tJ:RE:=eV 0
def vJ:RT:=Aq (e2 (oK false) (e2 xA (eC EJ) (eV 0)) (eV 1))
def wJ:RS:=oA (OA 1 (UA yJ [] (cA (YC (WI (HC oB (eC EJ))) (UB 0) vJ tJ [none,some 0]) sA))) (DA (vW (Aq (e2 QA (UA ZK [] (cA (eV 1) sA)) (eV 0))) (eV 1) (eC (.int 0))))
def yG:fC:=DC 1 2 wJ
abbrev pO:Stmt:=BC 30
def sJ:RS:=oA (nC (VC (Aq (e2 QG (HC oB (eV 0)) (eC (.int 3)))) (VC (Aq (e2 (oK true) (e2 xA (eV 0) (eC (.int 0))) (eV 1))) (VC (Aq (e2 (oK true) (e2 xA (eV 0) (aD (eC (.int 1)))) (eV 1))) (Aq (e2 QA (e2 xA (eV 0) (eC (.int 0))) (e2 xA (eV 0) (aD (eC (.int 1))))))))) (DA (eC .non)) jB) (oA (OA 2 (UA yG [] (cA (IH (eV 0) (fF (eC (.int 1))) (fF (aD (eC (.int 1))))) sA))) (oA (nC (Aq (e2 QA (eV 2) (eC (.int 0)))) (DA (eC .non)) jB) (DA (cE (cA (eC (.str "ways")) (cA (FI (eV 1) (e2 xA (eV 0) (eC (.int 0)))) (cA (eV 2) (cA (FI (eV 1) (e2 xA (eV 0) (aD (eC (.int 1))))) sA))))))))
def BE:fC:=DC 2 3 sJ
abbrev gO:Stmt:=BC 31
def aI:RS:=oA (nC (VC (Aq (e2 tD (HC oB (eV 0)) (eC (.int 3)))) (VC (Aq (e2 (oK true) (e2 xA (eV 0) (eC (.int 0))) (eV 1))) (VC (KE (Aq (UA WF [] (cA (e2 xA (eV 0) (eC (.int 1))) sA)))) (KE (Aq (UA WF [] (cA (e2 xA (eV 0) (eC (.int 2))) sA))))))) (DA (eC .non)) jB) (oA (OA 2 (HC IE (e2 xA (eV 0) (eC (.int 1))))) (oA (OA 3 (HC IE (e2 xA (eV 0) (eC (.int 2))))) (oA (nC (KE (Aq (UA YG [] (cA (eV 2) (cA (eV 3) sA))))) (DA (eC .non)) jB) (DA (cE (cA (eC (.str "long")) (cA (FI (eV 1) (e2 xA (eV 0) (eC (.int 0)))) (cA (eV 2) (cA (eV 3) sA)))))))))
def UD:fC:=DC 2 4 aI
abbrev MO:Stmt:=BC 32
def fI:RS:=nC (Aq (e2 QA (eV 3) (eC (.str "or")))) (mG (YF (eV 2) (JF sA))) (mG (YF (e2 xA (eV 2) (aD (eC (.int 1)))) (eV 3)))
def mJ:RE:=UA BE [] (cA (eV 0) (cA (eV 1) sA))
def YK:RS:=oA (OA 2 (JF (cA (JF sA) sA))) (oA (sG (eE (eV 0)) (UB 3) fI) (oA (OA 4 (tH (eE (eV 2)) (UB 0) rC mJ [none,some 1])) (oA (nC (VC (Aq (e2 gN (HC oB (eV 4)) (eC nP))) (Aq (e2 pG (eC .non) (eV 4)))) (DA (eC .non)) jB) (DA (cE (cA (eC (.str "one")) (cA (eV 4) sA)))))))
def QF:fC:=DC 2 5 YK
abbrev EO:Stmt:=BC 33
def VF:RS:=oA (nC (Aq (e2 QA (e2 xA (eV 0) (eC (.int 0))) (eC (.str "ways")))) (DA (UA BE [] (cA (IH (eV 0) (fF (eC (.int 1))) jN) (cA (eV 1) sA)))) jB) (oA (nC (Aq (e2 QA (e2 xA (eV 0) (eC (.int 0))) (eC (.str "long")))) (DA (UA UD [] (cA (IH (eV 0) (fF (eC (.int 1))) jN) (cA (eV 1) sA)))) jB) (oA (nC (Aq (e2 QA (e2 xA (eV 0) (eC (.int 0))) (eC (.str "one")))) (DA (UA QF [] (cA (IH (eV 0) (fF (eC (.int 1))) jN) (cA (eV 1) sA)))) jB) (DA (eC .non))))
def AE:fC:=DC 2 2 VF
abbrev QN:Stmt:=BC 34
def RF:RS:=oA (nC (VC (Aq (e2 tD (HC oB (eV 0)) (eC (.int 2)))) (Aq (e2 tD (e2 xA (eV 0) (eC (.int 0))) (eC (.str "stretch"))))) (DA (eC (.bl false))) jB) (DA (VG (UA dH [] (cA (e2 xA (eV 0) (eC (.int 1))) sA)) (VG (e2 (oK true) (e2 xA (eV 0) (eC (.int 1))) (eV 1)) (e2 QG (HC oB (eV 1)) (eC xO)))))
def DD:fC:=DC 2 2 RF
abbrev nQ:Stmt:=BC 35
def HD:RS:=oA (OA 5 (aF (eV 4) (eC (.str " ")))) (nC (LD (Aq (e2 CD (eV 2) (iC sA))) (Aq (UA DD [] (cA (eV 5) (cA (eV 1) sA))))) (mG (YF (eV 1) (e2 xA (eV 5) (eC (.int 1))))) (oA (OA 6 (UA AE [] (cA (eV 5) (cA (eV 1) sA)))) (oA (nC (VC (Aq (e2 lF (eV 6) (eC .non))) (KE (Aq (UA xG [] (cA (eV 2) (cA (eV 6) sA)))))) (nN "BadText" "row" (-1) (eV 3)) jB) (mG (YF (eV 2) (eV 6))))))
def OL:RS:=oA (OA 1 (JF sA)) (oA (OA 2 (JF sA)) (oA (sG (BI (aF (eV 0) (eC (.str "\n")))) (aE 3 4) HD) (DA (cE (cA (eV 1) (cA (eV 2) sA))))))
def fG :fC :=DC 1 7 OL
abbrev HN :Stmt :=BC 37
def RN :RS :=oA (nC (Aq (e2 QG (eV 1) (HC oB (eV 0)))) (DA (e2 xA (eV 0) (eV 1))) jB) (DA (eC (.int 0)))
def mF :fC :=DC 2 2 RN
abbrev KO :Stmt :=BC 38
def iO :RS :=oA (OA 2 (e2 WA (e2 qG (e2 wC (e2 wC (e2 WA (eV 0) (eC (.int 1000000007))) (e2 qG (eC (.int 7)) (eV 1))) (eC (.int 1))) (eC (.int 48271))) (eC (.int 2147483647)))) (DA (e2 WA (e2 qG (eV 2) (e2 wC (e2 wC (e2 WA (eV 2) (eC (.int 1009))) (eV 1)) (eC (.int 3)))) (eC (.int 998244353))))
def wD :fC :=DC 2 3 iO
abbrev JN :Stmt :=BC 39
def VN :RE :=e2 xA (eV 2) (e2 WA (e2 OB (eV 1) (eC (.int 98))) (eC (.int 26)))
def RK :RS :=oA (OA 2 (eC (.str "abcdefghijklmnopqrstuvwxyz"))) (oA (OA 0 (e2 WA (eV 0) (eC (.int 1000003)))) (oA (nC (LD (Aq (e2 QA (e2 WA (e2 OB (eV 0) (eC (.int 5))) (eC (.int 4))) (eC (.int 1)))) (Aq (e2 QG (eV 1) (eC (.int 26))))) (DA (e2 xA (eV 2) (e2 WA (e2 wC (eV 1) (e2 OB (eV 0) (eC (.int 20)))) (eC (.int 26))))) jB) (oA (OA 3 (e2 wC (eC (.int 2)) (e2 WA (e2 wC (eV 0) (e2 qG (eV 1) (e2 WA (e2 OB (eV 0) (eC (.int 7))) (eC (.int 2))))) (eC (.int 7))))) (oA (OA 4 (e2 WA (e2 OB (eV 0) (eC (.int 14))) (eV 3))) (oA (OA 5 (tH (WI (eV 3)) (UB 0) rC VN [none,some 0,some 2])) (oA (GG (e2 xA (eV 2) (e2 WA (e2 OB (eV 1) (eC (.int 26))) (eC (.int 26)))) (eV 5) (eV 4)) (oA (GG (e2 xA (eV 2) (e2 WA (eV 1) (eC (.int 26)))) (eV 5) (e2 WA (e2 wC (eV 4) (eC (.int 1))) (eV 3))) (DA (WC (eC (.str "")) (eV 5))))))))))
def nJ :fC :=DC 2 6 RK
abbrev LO :Stmt :=BC 40
def aO :RS :=oA (OA 0 (eC (.str "ahead joins laps closedby holds opens same openedby within closes lappedby joinedby behind"))) (DA (aF (eV 0) (eC (.str " "))))
def uJ :fC :=DC 0 1 aO
abbrev KN :Stmt :=BC 41
def SN :RS :=oA (OA 2 (e2 WA (eV 0) (eV 1))) (DA (cE (cA (eV 2) (cA (e2 WA (e2 wC (e2 wC (eV 2) (eC (.int 1))) (e2 WA (e2 OB (eV 0) (eV 1)) (e2 TH (eV 1) (eC (.int 1))))) (eV 1)) sA))))
def UK :fC :=DC 2 3 SN
abbrev XN :Stmt :=BC 42
def bI :RS :=oA (OA 2 (e2 WA (e2 qG (eV 0) (eC (.int 48271000000019))) (e2 SG (eC (.int 10)) (eC (.int 18))))) (oA (nC (Aq (e2 QA (e2 WA (eV 0) (eC (.int 3))) (eC (.int 0)))) (OA 2 (e2 WA (e2 OB (eV 0) (eC (.int 3))) (eC (.int 9)))) jB) (oA (OA 3 (RV KM (e2 SG (eC (.int 10)) (eC (.int 18))) (e2 wC (eV 2) (e2 WA (UA wD [] (cA (eV 0) (cA (eC (.int 7)) sA))) (eC (.int 5)))))) (oA (nC (Aq (e2 QA (e2 WA (eV 0) (eC (.int 4))) (eC (.int 1)))) (OA 3 (e2 SG (eC (.int 10)) (eC (.int 18)))) jB) (DA (cE (cA (eC (.str "long")) (cA (eV 1) (cA (eV 2) (cA (eV 3) sA)))))))))
def XG :fC :=DC 2 4 bI
abbrev lO :Stmt :=BC 43
def TK :RS :=oA (lN (aE 2 3) (UA UK [] (cA (eV 0) (cA (eV 1) sA)))) (oA (OA 4 (e2 wC (eC (.int 1)) (e2 WA (UA wD [] (cA (eV 0) (cA (eC (.int 3)) sA))) (eC (.int 8191))))) (oA (nC (Aq (e2 QA (e2 WA (eV 0) (eC (.int 5))) (eC (.int 1)))) (OA 4 (e2 cJ (eC (.int 1)) (e2 WA (UA wD [] (cA (eV 0) (cA (eC (.int 4)) sA))) (eC (.int 13))))) jB) (DA (cE (cA (eC (.str "ways")) (cA (eV 2) (cA (eV 4) (cA (eV 3) sA))))))))
def ZG :fC :=DC 2 5 TK
abbrev IN :Stmt :=BC 44
def pJ :RE :=UA ZG [] (cA (UA wD [] (cA (eV 1) (cA (e2 wC (eC (.int 10)) (eV 0)) sA))) (cA (eV 2) sA))
def lJ :RS :=oA (OA 3 (UA wD [] (cA (eV 0) (cA (eC (.int 1)) sA)))) (oA (nC (VC (Aq (e2 QA (eV 1) (eC (.int 1)))) (Aq (e2 QA (e2 WA (eV 3) (eC (.int 5))) (eC (.int 2))))) (DA (UA XG [] (cA (e2 OB (eV 3) (eC (.int 5))) (cA (e2 WA (e2 OB (eV 3) (eC (.int 5))) (eV 1)) sA)))) jB) (oA (nC (LD (Aq (e2 QA (e2 WA (eV 3) (eC (.int 5))) (eC (.int 3)))) (Aq (e2 QG (eV 2) (eC (.int 6))))) (DA (cE (cA (eC (.str "one")) (cA (YC (WI (e2 wC (eC (.int 1)) (e2 WA (e2 OB (eV 3) (eC (.int 5))) (eC (.int 6))))) (UB 0) rC pJ [none,some 0,some 1]) sA)))) jB) (DA (UA ZG [] (cA (e2 OB (eV 3) (eC (.int 5))) (cA (eV 1) sA))))))
def eI :fC :=DC 3 4 lJ
abbrev ON :Stmt :=BC 45
def DN :RS :=oA (OA 5 (UA eI [] (cA (eV 4) (cA (eV 1) (cA (eV 3) sA))))) (oA (OA 3 (e2 wC (eV 3) (HC zK (e2 QA (e2 xA (eV 5) (eC (.int 0))) (eC (.str "one")))))) (mG (YF (eV 2) (eV 5))))
def ZN :RS :=oA (OA 2 (JF sA)) (oA (OA 3 (eC (.int 0))) (oA (sG (eE (eV 0)) (UB 4) DN) (DA (eV 2))))
def WK :fC :=DC 2 6 ZN
abbrev PN :Stmt :=BC 46
def BN :RE :=e2 xA (eV 2) (eV 0)
def CN :RT :=Aq (e2 QA (e2 wM (e2 dJ (e2 xA (eV 1) (eC (.int 2))) (eV 0)) (eC (.int 1))) (eC (.int 1)))
def LN :RS :=oA (OA 2 (YJ uJ [])) (oA (OA 3 (YC (WI (eC (.int 13))) (UB 0) CN BN [none,some 1,some 2])) (DA (WC (eC (.str " ")) (e2 pC (e2 pC (iC (cA (e2 xA (eV 0) (e2 xA (eV 1) (eC (.int 1)))) sA)) (eV 3)) (iC (cA (e2 xA (eV 0) (e2 xA (eV 1) (eC (.int 3)))) sA))))))
def vG :fC :=DC 2 4 LN
abbrev NN :Stmt :=BC 47
def AN :RE :=UA vG [] (cA (eV 1) (cA (eV 0) sA))
def kJ :RS :=oA (nC (Aq (e2 QA (e2 xA (eV 1) (eC (.int 0))) (eC (.str "ways")))) (DA (e2 SA (eC (.str "ways ")) (UA vG [] (cA (eV 0) (cA (eV 1) sA))))) jB) (oA (nC (Aq (e2 QA (e2 xA (eV 1) (eC (.int 0))) (eC (.str "long")))) (DA (e2 SA (e2 SA (e2 SA (e2 SA (e2 SA (eC (.str "long ")) (e2 xA (eV 0) (e2 xA (eV 1) (eC (.int 1))))) (eC (.str " "))) (HC BD (e2 xA (eV 1) (eC (.int 2))))) (eC (.str " "))) (HC BD (e2 xA (eV 1) (eC (.int 3)))))) jB) (DA (e2 SA (eC (.str "one ")) (WC (eC (.str " or ")) (YC (eE (e2 xA (eV 1) (eC (.int 1)))) (UB 0) rC AN [none,some 0])))))
def dI :fC :=DC 2 2 kJ
abbrev vN :Stmt :=BC 48
def zN :RS :=oA (OA 1 (iC (cA (eC (.str "01")) (cA (eC (.str "00")) (cA (eC (.str "")) (cA (eC (.str "-1")) (cA (eC (.str "+1")) (cA (eC (.str "1.0")) (cA (eC (.str "a")) (cA (eC (.str "10000000000000000000")) (cA (eC (.str "1_0")) (cA (eC (.str "y")) (cA (eC (.str " ")) sA))))))))))))) (DA (e2 xA (eV 1) (e2 WA (eV 0) (eC (.int 11)))))
def WG :fC :=DC 1 2 zN
abbrev MN :Stmt :=BC 49
def YN :RS :=oA (OA 3 (YJ uJ [])) (oA (OA 4 (aF (UA vG [] (cA (eV 0) (cA (eV 1) sA))) (eC (.str " ")))) (oA (OA 5 (e2 xA (eV 4) (eC (.int 0)))) (oA (OA 6 (e2 xA (eV 4) (aD (eC (.int 1))))) (oA (OA 7 (IH (eV 4) (fF (eC (.int 1))) (fF (aD (eC (.int 1)))))) (oA (OA 8 (e2 WA (eV 2) (eC (.int 8)))) (oA (nC (Aq (e2 QA (eV 8) (eC (.int 0)))) (DA (e2 SA (e2 SA (eV 5) (eC (.str " "))) (eV 6))) jB) (oA (nC (Aq (e2 QA (eV 8) (eC (.int 1)))) (DA (WC (eC (.str " ")) (e2 pC (e2 pC (iC (cA (eV 5) sA)) (eV 7)) (iC (cA (e2 xA (eV 7) (aD (eC (.int 1)))) (cA (eV 6) sA)))))) jB) (oA (nC (Aq (e2 QA (eV 8) (eC (.int 2)))) (DA (WC (eC (.str " ")) (iC (cA (eV 5) (cA (e2 xA (eV 3) (e2 TH (eC (.int 12)) (e2 WA (e2 OB (eV 2) (eC (.int 8))) (eC (.int 12))))) (cA (e2 xA (eV 3) (eC (.int 0))) (cA (eV 6) sA))))))) jB) (oA (nC (Aq (e2 QA (eV 8) (eC (.int 3)))) (DA (WC (eC (.str " ")) (e2 pC (e2 pC (iC (cA (eV 5) sA)) (eV 7)) (iC (cA (e2 xA (iC (cA (eC (.str "Ahead")) (cA (eC (.str "meets")) (cA (eC (.str "or2")) (cA (eC (.str "ahea")) (cA (eV 5) sA)))))) (e2 WA (e2 OB (eV 2) (eC (.int 8))) (eC (.int 5)))) (cA (eV 6) sA)))))) jB) (oA (nC (Aq (e2 QA (eV 8) (eC (.int 4)))) (DA (WC (eC (.str " ")) (e2 pC (e2 pC (iC (cA (eC (.str "zzzzzzzzz")) sA)) (eV 7)) (iC (cA (eV 6) sA))))) jB) (oA (nC (Aq (e2 QA (eV 8) (eC (.int 5)))) (DA (WC (eC (.str " ")) (e2 pC (e2 pC (iC (cA (eV 5) sA)) (eV 7)) (iC (cA (eC (.str "strange")) sA))))) jB) (oA (nC (Aq (e2 QA (eV 8) (eC (.int 6)))) (DA (WC (eC (.str " ")) (e2 pC (e2 pC (iC (cA (eV 5) sA)) (eV 7)) (iC (cA (eV 5) sA))))) jB) (DA (eV 5))))))))))))))
def uG :fC :=DC 3 9 YN
abbrev uN :Stmt :=BC 50
def yN :RS :=oA (OA 3 (e2 WA (eV 2) (eC (.int 5)))) (oA (OA 4 (e2 xA (eV 0) (e2 xA (eV 1) (eC (.int 1))))) (oA (nC (Aq (e2 QA (eV 3) (eC (.int 0)))) (DA (e2 SA (e2 SA (e2 SA (e2 SA (e2 SA (eC (.str "long ")) (eV 4)) (eC (.str " "))) (UA WG [] (cA (e2 OB (eV 2) (eC (.int 5))) sA))) (eC (.str " "))) (HC BD (e2 xA (eV 1) (eC (.int 3)))))) jB) (oA (nC (Aq (e2 QA (eV 3) (eC (.int 1)))) (DA (e2 SA (e2 SA (e2 SA (eC (.str "long ")) (eV 4)) (eC (.str " 0 "))) (UA WG [] (cA (e2 OB (eV 2) (eC (.int 5))) sA)))) jB) (oA (nC (Aq (e2 QA (eV 3) (eC (.int 2)))) (DA (e2 SA (e2 SA (e2 SA (e2 SA (e2 SA (eC (.str "long ")) (eV 4)) (eC (.str " "))) (HC BD (e2 wC (e2 xA (eV 1) (eC (.int 3))) (eC (.int 1))))) (eC (.str " "))) (HC BD (e2 xA (eV 1) (eC (.int 3)))))) jB) (oA (nC (Aq (e2 QA (eV 3) (eC (.int 3)))) (DA (e2 SA (e2 SA (e2 SA (eC (.str "long ")) (eV 4)) (eC (.str " 0 "))) (HC BD (e2 wC (e2 wC (e2 SG (eC (.int 10)) (eC (.int 18))) (eC (.int 1))) (e2 OB (eV 2) (eC (.int 5))))))) jB) (DA (e2 SA (e2 SA (e2 SA (eC (.str "long strange ")) (HC BD (e2 xA (eV 1) (eC (.int 2))))) (eC (.str " "))) (HC BD (e2 xA (eV 1) (eC (.int 3)))))))))))
def XH :fC :=DC 3 5 yN
abbrev WN :Stmt :=BC 51
def FN :RE :=UA vG [] (cA (eV 1) (cA (eV 0) sA))
def PK :RS :=mG (YF (eV 3) (e2 xA (eV 3) (eC (.int 0))))
def ZH :RT :=Aq (e2 QG (HC oB (eV 3)) (eC (.int 7)))
def UN :RS :=oA (OA 3 (tH (eE (e2 xA (eV 1) (eC (.int 1)))) (UB 0) rC FN [none,some 0])) (oA (OA 4 (e2 WA (e2 OB (eV 2) (eC (.int 3))) (HC oB (eV 3)))) (oA (nC (Aq (e2 QA (e2 WA (eV 2) (eC (.int 3))) (eC (.int 0)))) (mQ 1000000 ZH PK) (nC (Aq (e2 QA (e2 WA (eV 2) (eC (.int 3))) (eC (.int 1)))) (GG (UA uG [] (cA (eV 0) (cA (e2 xA (e2 xA (eV 1) (eC (.int 1))) (eV 4)) (cA (e2 OB (eV 2) (eC (.int 30))) sA)))) (eV 3) (eV 4)) (mG (IL (eV 3) (eV 4) (eC (.str "")))))) (DA (e2 SA (eC (.str "one ")) (WC (eC (.str " or ")) (eV 3))))))
def cI :fC :=DC 3 5 UN
abbrev xN :Stmt :=BC 52
def EN :RS :=oA (OA 3 (iC (cA (eC (.str "stretch")) (cA (e2 SA (e2 SA (eC (.str "stretch ")) (e2 xA (eV 0) (eV 1))) (eC (.str " b"))) (cA (eC (.str "stretch A")) (cA (eC (.str "stretch a1")) (cA (eC (.str "stretch abcdefghi")) (cA (eC (.str "stretch or")) sA)))))))) (oA (OA 3 (e2 pC (eV 3) (iC (cA (eC (.str "stretch ")) (cA (e2 SA (eC (.str "Stretch ")) (e2 xA (eV 0) (eV 1))) (cA (e2 SA (eC (.str "stretches ")) (e2 xA (eV 0) (eV 1))) sA)))))) (oA (nC (LD (Aq (e2 gN (eV 1) (eC (.int 0)))) (Aq (e2 QA (e2 WA (eV 2) (eC (.int 2))) (eC (.int 0))))) (DA (e2 SA (eC (.str "stretch ")) (e2 xA (eV 0) (e2 WA (e2 OB (eV 2) (eC (.int 2))) (eV 1))))) jB) (DA (e2 xA (eV 3) (e2 WA (e2 OB (eV 2) (eC (.int 2))) (eC (.int 9)))))))
def YH :fC :=DC 3 4 EN
abbrev kO :Stmt :=BC 53
def TN :RS :=oA (OA 5 (e2 WA (eV 4) (eC (.int 3)))) (oA (OA 6 (iC (cA (e2 SA (eV 0) (eC (.str " "))) (cA (e2 SA (eC (.str " ")) (eV 0)) (cA (eC (.str "")) (cA (iK " " "  " (eV 0)) (cA (e2 SA (eC (.str "x")) (eV 0)) (cA (bR (eV 0)) sA)))))))) (oA (nC (Aq (e2 QA (eV 5) (eC (.int 0)))) (DA (e2 xA (eV 6) (e2 WA (e2 OB (eV 4) (eC (.int 3))) (eC (.int 6))))) jB) (oA (nC (Aq (e2 QG (eV 3) (HC oB (eV 1)))) (DA (UA YH [] (cA (eV 1) (cA (eV 3) (cA (e2 OB (eV 4) (eC (.int 3))) sA))))) jB) (oA (OA 7 (e2 xA (eV 2) (e2 TH (eV 3) (HC oB (eV 1))))) (oA (nC (LD (Aq (e2 QA (eV 5) (eC (.int 1)))) (LD (Aq (e2 QA (e2 WA (e2 OB (eV 4) (eC (.int 3))) (eC (.int 4))) (eC (.int 0)))) (Aq (e2 gN (eV 3) (HC oB (eV 1)))))) (DA (eC (.str "stretch zyxwvuts"))) jB) (oA (nC (Aq (e2 QA (e2 xA (eV 7) (eC (.int 0))) (eC (.str "ways")))) (DA (e2 SA (eC (.str "ways ")) (UA uG [] (cA (eV 1) (cA (eV 7) (cA (e2 OB (eV 4) (eC (.int 12))) sA)))))) jB) (oA (nC (Aq (e2 QA (e2 xA (eV 7) (eC (.int 0))) (eC (.str "long")))) (DA (UA XH [] (cA (eV 1) (cA (eV 7) (cA (e2 OB (eV 4) (eC (.int 12))) sA))))) jB) (DA (UA cI [] (cA (eV 1) (cA (eV 7) (cA (e2 OB (eV 4) (eC (.int 12))) sA))))))))))))
def oJ :fC :=DC 5 8 TN
abbrev jO :Stmt :=BC 54
def SK :RS :=oA (OA 1 (eC .non)) (oA (fJ fG (cA (eV 0) sA) DV 1 2) (oA (nC (Aq (e2 lF (eV 1) (eC .non))) (DA (eC (.int 0))) jB) (oA (OA 3 (iC (cA (lD qO (eV 1)) (cA (lD sO (eV 1)) (cA (lD NO (eV 1)) sA))))) (oA (OA 3 (e2 pC (eV 3) (iC (cA (lD tO (eV 1)) (cA (lD gP (eV 1)) (cA (tN (lD mO (eV 1))) sA)))))) (oA (nC (VC (Aq (e2 pG (eC (.bl true)) (eV 3))) (KE (Aq (lD rO (eV 1))))) (DA (aD (eC (.int 1)))) jB) (oA (nC (VC (KE (Aq (VI "int" (cN "BadText" "row" (eV 1))))) (Aq (VI "bool" (cN "BadText" "row" (eV 1))))) (DA (aD (eC (.int 1)))) jB) (DA (cN "BadText" "row" (eV 1)))))))))
def TD :fC :=DC 1 4 SK
abbrev DO :Stmt :=BC 55
def FR :RE :=e2 SA (e2 SA (eC (.str "stretch ")) (e2 xA (eV 1) (eV 0))) (eC (.str "zyx"))
def cO :RE :=e2 SA (eC (.str "stretch ")) (eV 0)
def vO :RS :=oA (OA 3 (eC (.str "abcdefgh"))) (oA (nC (Aq (e2 QA (e2 WA (eV 2) (eC (.int 4))) (eC (.int 0)))) (oA (OA 4 (YC (WI (eC (.int 8))) (UB 0) rC FR [none,some 3])) (DA (cE (cA (eV 4) (cA (e2 SA (e2 SA (eC (.str "stretch ")) (e2 xA (eV 3) (e2 WA (e2 OB (eV 2) (eC (.int 4))) (eC (.int 8))))) (eC (.str "zy"))) sA))))) jB) (oA (OA 5 (YC (eE (eV 0)) (UB 0) rC cO [none])) (oA (nC (VC (Aq (e2 QA (e2 WA (eV 2) (eC (.int 4))) (eC (.int 1)))) (Aq (e2 QG (HC oB (eV 0)) (eC (.int 2))))) (DA (cE (cA (e2 pC (eV 5) (MG (e2 SA (e2 SA (eC (.str "long ")) (e2 xA (eV 0) (eC (.int 0)))) (eC (.str " 0 5"))) (eC (.int 60)))) (cA (e2 SA (e2 SA (eC (.str "long ")) (e2 xA (eV 0) (eC (.int 0)))) (eC (.str " 1 1"))) sA)))) jB) (oA (OA 6 (e2 SA (e2 SA (e2 SA (eC (.str "one ")) (e2 xA (eV 0) (eC (.int 0)))) (eC (.str " ahead "))) (e2 xA (eV 0) (eC (.int 1))))) (oA (nC (Aq (e2 QA (e2 WA (eV 2) (eC (.int 4))) (eC (.int 2)))) (DA (cE (cA (e2 pC (eV 5) (MG (eV 6) (eC (.int 6)))) (cA (eV 6) sA)))) jB) (DA (cE (cA (eV 5) (cA (e2 SA (eC (.str "one ")) (WC (eC (.str " or ")) (MG (e2 SA (e2 SA (e2 xA (eV 0) (eC (.int 1))) (eC (.str " behind "))) (e2 xA (eV 0) (eC (.int 0)))) (eC (.int 7))))) sA)))))))))
def iI :fC :=DC 3 7 vO
abbrev FQ :Stmt :=BC 56
def LL :RE :=UA nJ [] (cA (UA mF [] (cA (eV 1) (cA (eC (.int 1)) sA))) (cA (eV 0) sA))
def ML :RE :=e2 SA (eC (.str "stretch ")) (eV 0)
def NL :RE :=UA dI [] (cA (eV 1) (cA (eV 0) sA))
def HM :RS :=oA (OA 1 (e2 wC (eC (.int 1)) (e2 WA (UA mF [] (cA (eV 0) (cA (eC (.int 0)) sA))) (eC (.int 8))))) (oA (OA 2 (YC (WI (eV 1)) (UB 0) rC LL [none,some 0])) (oA (OA 3 (UA WK [] (cA (IH (eV 0) (fF (eC (.int 3))) (fF (eC (.int 63)))) (cA (eV 1) sA)))) (oA (OA 4 (e2 xM (YC (eE (eV 2)) (UB 0) rC ML [none]) (YC (eE (eV 3)) (UB 0) rC NL [none,some 2]))) (oA (OA 5 (UA wD [] (cA (UA mF [] (cA (eV 0) (cA (eC (.int 2)) sA))) (cA (eC (.int 2)) sA)))) (oA (nC (Aq (e2 CD (e2 WA (eV 5) (eC (.int 6))) (eC (.int 0)))) (oA (OA 6 (UA iI [] (cA (eV 2) (cA (eV 4) (cA (e2 OB (eV 5) (eC (.int 6))) sA))))) (oA (nC (Aq (e2 bJ (UA TD [] (cA (WC (eC (.str "\n")) (e2 xA (eV 6) (eC (.int 0)))) sA)) (eC (.int 0)))) (DA (eC (.bl false))) jB) (DA (e2 CD (UA TD [] (cA (WC (eC (.str "\n")) (e2 pC (e2 xA (eV 6) (eC (.int 0))) (iC (cA (e2 xA (eV 6) (eC (.int 1))) sA)))) sA)) (e2 wC (HC oB (e2 xA (eV 6) (eC (.int 0)))) (eC (.int 1))))))) jB) (oA (nC (Aq (e2 bJ (UA TD [] (cA (WC (eC (.str "\n")) (eV 4)) sA)) (eC (.int 0)))) (DA (eC (.bl false))) jB) (oA (OA 7 (e2 WA (e2 OB (eV 5) (eC (.int 6))) (HC oB (eV 4)))) (oA (GG (UA oJ [] (cA (e2 xA (eV 4) (eV 7)) (cA (eV 2) (cA (eV 3) (cA (eV 7) (cA (UA wD [] (cA (UA mF [] (cA (eV 0) (cA (eC (.int 2)) sA))) (cA (eC (.int 3)) sA))) sA)))))) (eV 4) (eV 7)) (oA (nC (LD (Aq (e2 QG (e2 wC (eV 7) (eC (.int 1))) (HC oB (eV 4)))) (Aq (e2 CD (e2 WA (e2 OB (eV 5) (eC (.int 600))) (eC (.int 2))) (eC (.int 1))))) (GG (eC (.str "")) (eV 4) (e2 TH (HC oB (eV 4)) (eC (.int 1)))) jB) (DA (e2 CD (UA TD [] (cA (WC (eC (.str "\n")) (eV 4)) sA)) (e2 wC (eV 7) (eC (.int 1))))))))))))))
def EH :fC :=DC 1 8 HM
structure Txt(K :Frag)(mg :Str → Option Value) :Prop where
 Ig :IB K mg "ways_in" fP ["mask"]
 Ng :IB K mg "set_of" vP ["ways"]
 dg :IB K mg "groups_in" FO ["facts"]
 ig :IB K mg "is_length" nO ["low", "high"]
 ug :IB K mg "has_room" SO ["facts", "fact"]
 Mg :IB K mg "all_of" uP ["word", "signs"]
 Hg :IB K mg "is_name" dP ["word"]
 jg :IB K mg "is_number" oO ["word"]
 wg :IB K mg "words_of" VO ["mask"]
 vg :IB K mg "set_told" UO ["words"]
 lg :IB K mg "ways_told" pO ["words", "names"]
 Qy :IB K mg "length_told" gO ["words", "names"]
 Vy :IB K mg "group_told" MO ["words", "names"]
 cg :IB K mg "fact_told" EO ["words", "names"]
 Ay :IB K mg "tells_stretch" QN ["words", "names"]
 Pg :IB K mg "read" nQ ["text"]
 Ey :IB K mg "_law_cell_at" HN ["_law_script", "_law_k"]
 Sy :IB K mg "_law_mixed" KO ["_law_number", "_law_k"]
 Gy :IB K mg "_law_name_by" JN ["_law_cell", "_law_k"]
 Uy :IB K mg "_law_words" LO []
 Hy :IB K mg "_law_pair_by" KN ["_law_number", "_law_count"]
 Cy :IB K mg "_law_length_by" XN ["_law_number", "_law_i"]
 Ly :IB K mg "_law_ways_by" lO ["_law_number", "_law_count"]
 Fy :IB K mg "_law_fact_by" IN ["_law_cell", "_law_count", "_law_groups"]
 uy :IB K mg "_law_facts_by" ON ["_law_cells", "_law_count"]
 zy :IB K mg "_law_ways_row" PN ["_law_names", "_law_fact"]
 sy :IB K mg "_law_fact_row" NN ["_law_names", "_law_fact"]
 jy :IB K mg "_law_bad_number" vN ["_law_number"]
 Dy :IB K mg "_law_bad_ways" MN ["_law_names", "_law_fact", "_law_number"]
 iy :IB K mg "_law_bad_length" uN ["_law_names", "_law_fact", "_law_number"]
 Zk :IB K mg "_law_bad_group" WN ["_law_names", "_law_fact", "_law_number"]
 qy :IB K mg "_law_bad_stretch" xN ["_law_names", "_law_at", "_law_number"]
 Ky :IB K mg "_law_spoiled" kO ["_law_row", "_law_names", "_law_facts", "_law_at", "_law_number"]
 Jy :IB K mg "_law_refusal" jO ["_law_text"]
 Zy :IB K mg "_law_full" DO ["_law_names", "_law_rows", "_law_number"]
 gw :LG K mg "BadText" "SpanError" "BadText.__init__" "row" "row" wN
 Et :LG K mg "Twice" "SpanError" "Twice.__init__" "word" "word" ER
 jt :LG K mg "NoLabel" "SpanError" "NoLabel.__init__" "word" "word" DR
 Bt :LG K mg "NoName" "SpanError" "NoName.__init__" "word" "word" BR
 qg :∀C,nsIn K mainGlobals "BadText" =some (some (.ref C)) → AH K C =true
 Ny :XQ K mg "SpanError" DV
 xg :UM K mg "BadFact" qO
 yg :UM K mg "BadText" rO
 Ag :UM K mg "NoLabel" sO
 Jg :UM K mg "NoName" NO
 Bg :UM K mg "TooMany" tO
 Kg :UM K mg "Twice" gP
 Ry :IG K (.type "ValueError") mO
 Py :mg "ValueError" =none
 Sg :mg "all" =none
 Qg :mg "bool" =none
 Xy :mg "enumerate" =none
 iw :mg "int" =none
 Dz :mg "isinstance" =none
 Zq :mg "len" =none
 Tg :mg "min" =none
 Uz :mg "range" =none
 Oz :mg "str" =none
 Ug :mg "sum" =none
 Fw :GF K mg "WORDS" EJ
 Og :GF K mg "FACTS" VP
 Lg :GF K mg "GROUPS" BP
 Gg :GF K mg "MEMBERS" nP
 Fg :GF K mg "LONGEST" mP
 Dg :GF K mg "LETTERS" lP
 Cg :GF K mg "FIGURES" kP
 Yy :GF K mg "STRETCHES" xO
section
variable{P :Program}{w :World}{K :Frag}{mg :Str → Option Value}
theorem pY :rB ["mask"] ["mask"] (LA fP) :=KB
theorem OZ :rB ["ways"] ["ways"] (LA vP) :=KB
theorem BX :rB ["facts"] ["facts"] (LA FO) :=KB
theorem DX :rB ["low", "high"] ["low", "high"] (LA nO) :=KB
theorem zX :rB ["facts", "fact"] ["facts", "fact"] (LA SO) :=KB
theorem NZ :rB ["word", "signs"] ["word", "signs"] (LA uP) :=KB
theorem oY :rB ["word"] ["word"] (LA dP) :=KB
theorem EX :rB ["word"] ["word"] (LA oO) :=KB
theorem AX :rB ["mask"] ["mask"] (LA VO) :=KB
theorem uE :rB ["words", "mask"] ["words"] (LA UO) :=KB
theorem gE :rB ["words", "names", "mask"] ["words", "names"] (LA pO) :=KB
theorem FC :rB ["words", "names", "low", "high"] ["words", "names"] (LA gO) :=KB
theorem vC :rB ["words", "names", "parts", "word", "members"] ["words", "names"] (LA MO) :=KB
theorem gX :rB ["words", "names"] ["words", "names"] (LA EO) :=KB
theorem IW :rB ["words", "names"] ["words", "names"] (LA QN) :=KB
theorem zD :rB ["text", "names", "facts", "number", "row", "words", "fact"] ["text"] (LA nQ) :=KB
theorem SW :rB ["_law_script", "_law_k"] ["_law_script", "_law_k"] (LA HN) :=KB
theorem OD :rB ["_law_number", "_law_k", "_law_once"] ["_law_number", "_law_k"] (LA KO) :=KB
theorem xB :rB ["_law_cell", "_law_k", "_law_some", "_law_size", "_law_place", "_law_signs"] ["_law_cell", "_law_k"] (LA JN) :=KB
theorem PD :rB ["_law_some"] [] (LA LO) :=KB
theorem jD :rB ["_law_number", "_law_count", "_law_i"] ["_law_number", "_law_count"] (LA KN) :=KB
theorem yB :rB ["_law_number", "_law_i", "_law_low", "_law_high"] ["_law_number", "_law_i"] (LA XN) :=KB
theorem aC :rB ["_law_number", "_law_count", "_law_i", "_law_j", "_law_mask"] ["_law_number", "_law_count"] (LA lO) :=KB
theorem iD :rB ["_law_cell", "_law_count", "_law_groups", "_law_number"] ["_law_cell", "_law_count", "_law_groups"] (LA IN) :=KB
theorem pB :rB ["_law_cells", "_law_count", "_law_facts", "_law_groups", "_law_cell", "_law_fact"] ["_law_cells", "_law_count"] (LA ON) :=KB
theorem sC :rB ["_law_names", "_law_fact", "_law_some", "_law_words_here"] ["_law_names", "_law_fact"] (LA PN) :=KB
theorem HW :rB ["_law_names", "_law_fact"] ["_law_names", "_law_fact"] (LA NN) :=KB
theorem EC :rB ["_law_number", "_law_some"] ["_law_number"] (LA vN) :=KB
theorem aB :rB ["_law_names", "_law_fact", "_law_number", "_law_some", "_law_words_here", "_law_first", "_law_last", "_law_inner", "_law_turn"] ["_law_names", "_law_fact", "_law_number"] (LA MN) :=KB
theorem cC :rB ["_law_names", "_law_fact", "_law_number", "_law_turn", "_law_name"] ["_law_names", "_law_fact", "_law_number"] (LA uN) :=KB
theorem jC :rB ["_law_names", "_law_fact", "_law_number", "_law_parts", "_law_at"] ["_law_names", "_law_fact", "_law_number"] (LA WN) :=KB
theorem TB :rB ["_law_names", "_law_at", "_law_number", "_law_some"] ["_law_names", "_law_at", "_law_number"] (LA xN) :=KB
theorem YB :rB ["_law_row", "_law_names", "_law_facts", "_law_at", "_law_number", "_law_turn", "_law_common", "_law_fact"] ["_law_row", "_law_names", "_law_facts", "_law_at", "_law_number"] (LA kO) :=KB
theorem GB :rB ["_law_text", "_law_kept", "e", "_law_others"] ["_law_text"] (LA jO) :=KB
theorem kC :rB ["_law_names", "_law_rows", "_law_number", "_law_some", "_law_long_names", "_law_head", "_law_row"] ["_law_names", "_law_rows", "_law_number"] (LA DO) :=KB
theorem uD :rB ["_law_script", "_law_count", "_law_names", "_law_facts", "_law_rows", "_law_number", "_law_full_here", "_law_at"] ["_law_script"] (LA FQ) :=KB
theorem EW :rB ["self", "row"] ["self", "row"] (LA wN) :=KB
variable(T :Txt K mg)(b :Heap)
include T
theorem yX :QM P w K mg b 1 "BadText" "row" (-1) :=X3 (k :=0) T.gw EW rfl (.three (by decide) (by decide)) (.inl rfl) (fun _ =>rfl) fun _ _ _ _ _ _ _ =>rfl
theorem HX :fD P w K mg b 1 1 "ways_in" qL :=
 QB (k :=0) (body :=jP) T.Ig pY rfl rfl fun _ _ _ _ _ _ _ hr =>zA (IA (QE (Nc := ["way", "mask"]) rfl (bH rfl T.Uz bA) (by decide +kernel) rfl (by decide +kernel) (by rfl) (by exact⟨⟨rfl, .inl rfl, .inl rfl,rfl⟩,trivial⟩) (fun _ _ _ _ =>bD 0 (show(["way", "mask"] :List Str).Nodup by decide +kernel)) (fun _ _ _ _ =>kM (NA (zB hr.units) (dA OT (dA IU (aA 1) (aA 0)) bA) bA)) (fun _ _ _ _ =>aA 0)))
theorem rY :fD P w K mg b 1 1 "set_of" yJ :=
 QB (k :=0) (body :=zP) T.Ng OZ rfl rfl fun _ _ _ _ _ _ _ hr =>zA (IA (F7 rfl rfl T.Ug (QE (Nc := ["way"]) rfl (SE (aA 0)) (by decide +kernel) rfl (by decide +kernel) (by rfl) (by exact trivial) (fun _ _ _ _ =>bD 0 (show(["way"] :List Str).Nodup by decide +kernel)) (fun _ _ _ _ =>rE) (fun _ _ _ _ =>dA HU bA (aA 0)))))
theorem ZW :fD P w K mg b 1 1 "groups_in" cL :=
 QB (k :=0) (body :=wO) T.dg BX rfl rfl fun _ _ _ _ _ _ _ hr =>zA (IA (QE (Nc := ["fact"]) rfl (SE (aA 0)) (by decide +kernel) rfl (by decide +kernel) (by rfl) (by exact trivial) (fun _ _ _ _ =>bD 0 (show(["fact"] :List Str).Nodup by decide +kernel)) (fun _ _ _ _ =>kM (NA (zB hr.units) (EA (aA 0) bA) qA)) (fun _ _ _ _ =>EA (aA 0) bA)))
theorem aX :fD P w K mg b 1 2 "is_length" YG :=
 QB (k :=0) (body :=qJ) T.ig DX rfl rfl fun _ _ _ _ _ _ _ hr =>zA (IA (fZ HH HH HH bA (aA 0) (aA 1) (nF rfl T.Fg)))
theorem kX :fD P w K mg b 2 2 "has_room" xG :=
 QB (k :=1) (body :=gI) T.ug zX rfl rfl fun _ _ _ _ _ _ _ hr =>rA (nB (NA V8 (QC rfl T.Zq (aA 0)) (nF rfl T.Og)) (zA (IA GI)) sB) (zA (IA (SU (bF (vH hr.units) (EA (aA 1) bA) qA) (mM (bF CF (QC rfl T.Zq (eB (ZW T b) hr (fA (aA 0) wA))) (nF rfl T.Lg))))))
theorem KR :fD P w K mg b 1 2 "all_of" xJ :=
 QB (k :=0) (body :=yP) T.Mg NZ rfl rfl fun _ _ _ _ _ _ _ hr =>zA (IA (N4 rfl rfl T.Sg (QE (Nc := ["sign", "signs"]) rfl (v4 (aA 0)) (by decide +kernel) rfl (by decide +kernel) (by rfl) (by exact⟨⟨rfl, .inl rfl, .inl rfl,rfl⟩,trivial⟩) (fun _ _ _ _ =>bD 0 (show(["sign", "signs"] :List Str).Nodup by decide +kernel)) (fun _ _ _ _ =>rE) (fun _ _ _ _ =>bF Q6 (aA 0) (aA 1)))))
theorem GX :fD P w K mg b 2 1 "is_name" dH :=
 QB (k :=1) (body :=pL) T.Hg oY rfl rfl fun _ _ _ _ _ _ _ hr =>zA (IA (lM (jZ HH HH bA (QC rfl T.Zq (aA 0)) bA) (lM (eB (KR T b) hr (fA (aA 0) (fA (nF rfl T.Dg) wA))) (mM (bF (vH hr.units) (aA 0) qA)))))
theorem IR :fD P w K mg b 2 1 "is_number" WF :=
 QB (k :=1) (body :=rJ) T.jg EX rfl rfl fun _ _ _ _ _ _ _ hr =>rA (nB (WM.tm (mE (EG (W0 HH HH bA (QC rfl T.Zq (aA 0)) bA)) (wF (EG (iG (eB (KR T b) hr (fA (aA 0) (fA (nF rfl T.Cg) wA)))))))) (zA (IA GI)) sB) (zA (IA (SU (bF (zB hr.units) (aA 0) qA) (mM (bF (vH hr.units) (EA (aA 0) bA) qA)))))
theorem mX :fD P w K mg b 2 1 "words_of" ZK :=
 QB (k :=1) (body :=YO) T.wg AX rfl rfl fun _ _ _ _ _ _ _ hr =>zA (IA (QE (Nc := ["way"]) rfl (SE (eB (HX T b) hr (fA (aA 0) wA))) (by decide +kernel) rfl (by decide +kernel) (by rfl) (by exact trivial) (fun _ _ _ _ =>bD 0 (show(["way"] :List Str).Nodup by decide +kernel)) (fun _ _ _ _ =>rE) (fun _ _ _ _ =>EA (nF rfl T.Fw) (aA 0))))
theorem lX :fD P w K mg b 3 1 "set_told" yG :=
 QB (k :=2) (body :=wJ) T.vg uE rfl rfl fun _ _ _ _ _ _ _ hr =>rA (cB 1 uE.nd (eB (rY T b) hr (fA (QE (Nc := ["way", "words"]) rfl (bH rfl T.Uz (QC rfl T.Zq (nF rfl T.Fw))) (by decide +kernel) rfl (by decide +kernel) (by rfl) (by exact⟨⟨rfl, .inl rfl, .inl rfl,rfl⟩,trivial⟩) (fun _ _ _ _ =>bD 0 (show(["way", "words"] :List Str).Nodup by decide +kernel)) (fun _ _ _ _ =>kM (NA W8 (EA (nF rfl T.Fw) (aA 0)) (aA 1))) (fun _ _ _ _ =>aA 0)) wA))) (zA (IA (D8 (NA (zB hr.units) (eB (mX T b) hr (fA (aA 1) wA)) (aA 0)) (aA 1) bA)))
theorem JR :fD P w K mg b 4 2 "ways_told" BE :=
 QB (k :=3) (body :=sJ) T.lg gE rfl rfl fun _ _ _ _ _ _ _ hr =>rA (nB (WM.tm (mE (NA CF (QC rfl T.Zq (aA 0)) bA) (mE (NA AL (EA (aA 0) bA) (aA 1)) (mE (NA AL (EA (aA 0) (oF bA)) (aA 1)) (wF (NA (zB hr.units) (EA (aA 0) bA) (EA (aA 0) (oF bA)))))))) (zA (IA pF)) sB) (rA (cB 2 gE.nd (eB (lX T b) hr (fA (jI (aA 0) (ZF bA) (ZF (oF bA))) wA))) (rA (nB (NA (zB hr.units) (aA 2) bA) (zA (IA pF)) sB) (zA (IA (HE (fA qA (fA (sP hr.units (aA 1) (EA (aA 0) bA)) (fA (aA 2) (fA (sP hr.units (aA 1) (EA (aA 0) (oF bA))) wA)))))))))
theorem VW :fD P w K mg b 3 2 "length_told" UD :=
 QB (k :=2) (body :=aI) T.Qy FC rfl rfl fun _ _ _ _ _ _ _ hr =>rA (nB (WM.tm (mE (NA (vH hr.units) (QC rfl T.Zq (aA 0)) bA) (mE (NA AL (EA (aA 0) bA) (aA 1)) (mE (EG (iG (eB (IR T b) hr (fA (EA (aA 0) bA) wA)))) (wF (EG (iG (eB (IR T b) hr (fA (EA (aA 0) bA) wA))))))))) (zA (IA pF)) sB) (rA (cB 2 FC.nd (AT rfl T.iw (EA (aA 0) bA))) (rA (cB 3 FC.nd (AT rfl T.iw (EA (aA 0) bA))) (rA (nB (EG (iG (eB (aX T b) hr (fA (aA 2) (fA (aA 3) wA))))) (zA (IA pF)) sB) (zA (IA (HE (fA qA (fA (sP hr.units (aA 1) (EA (aA 0) bA)) (fA (aA 2) (fA (aA 3) wA))))))))))
theorem UW :fD P w K mg b 5 2 "group_told" QF :=
 QB (k :=4) (body :=YK) T.Vy vC rfl rfl fun _ _ _ _ _ _ _ hr =>rA (cB 2 vC.nd (yI (fA (yI wA) wA))) (rA (GU PassesOwn.never rfl (SE (aA 0)) (bD 3 vC.nd) (zA (nB (NA (zB hr.units) (aA 3) qA) (zA (sH (nI (aA 2) (yI wA)))) (zA (sH (nI (EA (aA 2) (oF bA)) (aA 3))))))) (rA (uO (Nc := ["part", "names"]) 4 rfl vC.nd (SE (aA 2)) (by decide +kernel) rfl (by decide +kernel) (by rfl) (by exact⟨⟨rfl, .inl rfl, .inl rfl,rfl⟩,trivial⟩) (fun _ _ _ _ =>bD 0 (show(["part", "names"] :List Str).Nodup by decide +kernel)) (fun _ _ _ _ =>rE) (fun _ _ _ _ =>eB (JR T b) hr (fA (aA 0) (fA (aA 1) wA))) (by rfl)) (rA (nB (WM.tm (mE (NA CQ (QC rfl T.Zq (aA 4)) (nF rfl T.Gg)) (wF (NA (hU hr.units) pF (aA 4))))) (zA (IA pF)) sB) (zA (IA (HE (fA qA (fA (aA 4) wA))))))))
theorem YW :fD P w K mg b 6 2 "fact_told" AE :=
 QB (k :=5) (body :=VF) T.cg gX rfl rfl fun _ _ _ _ _ _ _ hr =>rA (nB (NA (zB hr.units) (EA (aA 0) bA) qA) (zA (IA (eB (JR T b) hr (fA (jI (aA 0) (ZF bA) PP) (fA (aA 1) wA))))) sB) (rA (nB (NA (zB hr.units) (EA (aA 0) bA) qA) (zA (IA (eB (VW T b) hr (fA (jI (aA 0) (ZF bA) PP) (fA (aA 1) wA))))) sB) (rA (nB (NA (zB hr.units) (EA (aA 0) bA) qA) (zA (IA (eB (UW T b) hr (fA (jI (aA 0) (ZF bA) PP) (fA (aA 1) wA))))) sB) (zA (IA pF))))
theorem QW :fD P w K mg b 3 2 "tells_stretch" DD :=
 QB (k :=2) (body :=RF) T.Ay IW rfl rfl fun _ _ _ _ _ _ _ hr =>rA (nB (WM.tm (mE (NA (vH hr.units) (QC rfl T.Zq (aA 0)) bA) (wF (NA (vH hr.units) (EA (aA 0) bA) qA)))) (zA (IA GI)) sB) (zA (IA (lM (eB (GX T b) hr (fA (EA (aA 0) bA) wA)) (lM (bF AL (EA (aA 0) bA) (aA 1)) (mM (bF CF (QC rfl T.Zq (aA 1)) (nF rfl T.Yy)))))))
theorem xZ :wK P w K mg b 7 1 "read" fG :=
 D3 (k :=6) (body :=OL) T.Pg zD rfl rfl fun _ _ _ _ _ _ _ hr =>vI (DH (cB 1 zD.nd (yI wA))) (vI (DH (cB 2 zD.nd (yI wA))) (vI (D9 ⟨rfl,rfl,rfl⟩ rfl (X0 rfl T.Xy (xL (aA 0) qA)) (tU 3 4 rfl zD.nd) (vI (DH (cB 5 zD.nd (xL (aA 4) qA))) (OJ (vV (WM.tm (yH (NA (RJ hr.units) (aA 2) (KC wA)) (sI (iG (eB (QW T b) hr (fA (aA 5) (fA (aA 1) wA))))))) (OJ (DH (sH (nI (aA 1) (EA (aA 5) bA))))) (vI (DH (cB 6 zD.nd (eB (YW T b) hr (fA (aA 5) (fA (aA 1) wA))))) (vI (vV (WM.tm (mE (NA iU (aA 6) pF) (wF (EG (iG (eB (kX T b) hr (fA (aA 2) (fA (aA 6) wA)))))))) (OJ (XZ (yX T b) rfl hr (by decide) rfl (aA 3) T.qg)) (E9 sB)) (OJ (DH (sH (nI (aA 2) (aA 6))))))))))) (OJ (DH (IA (HE (fA (aA 1) (fA (aA 2) wA))))))))
theorem NK :fD P w K mg b 1 2 "_law_cell_at" mF :=
 QB (k :=0) (body :=RN) T.Ey SW rfl rfl fun _ _ _ _ _ _ _ hr =>rA (nB (NA CF (aA 1) (QC rfl T.Zq (aA 0))) (zA (IA (EA (aA 0) (aA 1)))) sB) (zA (IA bA))
theorem aH :fD P w K mg b 1 2 "_law_mixed" wD :=
 QB (k :=0) (body :=iO) T.Sy OD rfl rfl fun _ _ _ _ _ _ _ hr =>rA (cB 2 OD.nd (dA mB (dA SJ (dA LC (dA LC (dA mB (aA 0) bA) (dA SJ bA (aA 1))) bA) bA) bA)) (zA (IA (dA mB (dA SJ (aA 2) (dA LC (dA LC (dA mB (aA 2) bA) (aA 1)) bA)) bA)))
theorem KW :fD P w K mg b 1 2 "_law_name_by" nJ :=
 QB (k :=0) (body :=RK) T.Gy xB rfl rfl fun _ _ _ _ _ _ _ hr =>rA (cB 2 xB.nd qA) (rA (cB 0 xB.nd (dA mB (aA 0) bA)) (rA (nB (WM.tm (yH (NA (zB hr.units) (dA mB (dA dC (aA 0) bA) bA) bA) (sI (NA CF (aA 1) bA)))) (zA (IA (EA (aA 2) (dA mB (dA LC (aA 1) (dA dC (aA 0) bA)) bA)))) sB) (rA (cB 3 xB.nd (dA LC bA (dA mB (dA LC (aA 0) (dA SJ (aA 1) (dA mB (dA dC (aA 0) bA) bA))) bA))) (rA (cB 4 xB.nd (dA mB (dA dC (aA 0) bA) (aA 3))) (rA (uO (Nc := ["_law_x", "_law_cell", "_law_some"]) 5 rfl xB.nd (bH rfl T.Uz (aA 3)) (by decide +kernel) rfl (by decide +kernel) (by rfl) (by exact⟨⟨rfl, .inl rfl, .inl rfl,rfl⟩,⟨⟨rfl, .inl rfl, .inl rfl,rfl⟩,trivial⟩⟩) (fun _ _ _ _ =>bD 0 (show(["_law_x", "_law_cell", "_law_some"] :List Str).Nodup by decide +kernel)) (fun _ _ _ _ =>rE) (fun _ _ _ _ =>EA (aA 2) (dA mB (dA dC (aA 1) bA) bA)) (by rfl)) (rA (KJ (EA (aA 2) (dA mB (dA dC (aA 1) bA) bA)) (aA 5) (aA 4)) (rA (KJ (EA (aA 2) (dA mB (aA 1) bA)) (aA 5) (dA mB (dA LC (aA 4) bA) (aA 3))) (zA (IA (SD qA (aA 5)))))))))))
theorem GR :fD P w K mg b 1 0 "_law_words" uJ :=
 QB (k :=0) (body :=aO) T.Uy PD rfl rfl fun _ _ _ _ _ _ _ hr =>rA (cB 0 PD.nd qA) (zA (IA (xL (aA 0) qA)))
theorem LW :fD P w K mg b 1 2 "_law_pair_by" UK :=
 QB (k :=0) (body :=SN) T.Hy jD rfl rfl fun _ _ _ _ _ _ _ hr =>rA (cB 2 jD.nd (dA mB (aA 0) (aA 1))) (zA (IA (HE (fA (aA 2) (fA (dA mB (dA LC (dA LC (aA 2) bA) (dA mB (dA dC (aA 0) (aA 1)) (dA dM (aA 1) bA))) (aA 1)) wA)))))
theorem GW :fD P w K mg b 2 2 "_law_length_by" XG :=
 QB (k :=1) (body :=bI) T.Cy yB rfl rfl fun _ _ _ _ _ _ _ hr =>rA (cB 2 yB.nd (dA mB (dA SJ (aA 0) bA) (dA cM bA bA))) (rA (nB (NA (zB hr.units) (dA mB (aA 0) bA) bA) (zA (cB 2 yB.nd (dA mB (dA dC (aA 0) bA) bA))) sB) (rA (cB 3 yB.nd (V3 rfl rfl T.Tg (dA cM bA bA) (dA LC (aA 2) (dA mB (eB (aH T b) hr (fA (aA 0) (fA bA wA))) bA)))) (rA (nB (NA (zB hr.units) (dA mB (aA 0) bA) bA) (zA (cB 3 yB.nd (dA cM bA bA))) sB) (zA (IA (HE (fA qA (fA (aA 1) (fA (aA 2) (fA (aA 3) wA))))))))))
theorem zR :fD P w K mg b 2 2 "_law_ways_by" ZG :=
 QB (k :=1) (body :=TK) T.Ly aC rfl rfl fun _ _ _ _ _ _ _ hr =>rA (A5 (eB (LW T b) hr (fA (aA 0) (fA (aA 1) wA))) (tU 2 3 rfl aC.nd)) (rA (cB 4 aC.nd (dA LC bA (dA mB (eB (aH T b) hr (fA (aA 0) (fA bA wA))) bA))) (rA (nB (NA (zB hr.units) (dA mB (aA 0) bA) bA) (zA (cB 4 aC.nd (dA HU bA (dA mB (eB (aH T b) hr (fA (aA 0) (fA bA wA))) bA)))) sB) (zA (IA (HE (fA qA (fA (aA 2) (fA (aA 4) (fA (aA 3) wA)))))))))
theorem JW :fD P w K mg b 3 3 "_law_fact_by" eI :=
 QB (k :=2) (body :=lJ) T.Fy iD rfl rfl fun _ _ _ _ _ _ _ hr =>rA (cB 3 iD.nd (eB (aH T b) hr (fA (aA 0) (fA bA wA)))) (rA (nB (WM.tm (mE (NA (zB hr.units) (aA 1) bA) (wF (NA (zB hr.units) (dA mB (aA 3) bA) bA)))) (zA (IA (eB (GW T b) hr (fA (dA dC (aA 3) bA) (fA (dA mB (dA dC (aA 3) bA) (aA 1)) wA))))) sB) (rA (nB (WM.tm (yH (NA (zB hr.units) (dA mB (aA 3) bA) bA) (sI (NA CF (aA 2) bA)))) (zA (IA (HE (fA qA (fA (QE (Nc := ["_law_k", "_law_cell", "_law_count"]) rfl (bH rfl T.Uz (dA LC bA (dA mB (dA dC (aA 3) bA) bA))) (by decide +kernel) rfl (by decide +kernel) (by rfl) (by exact⟨⟨rfl, .inl rfl, .inl rfl,rfl⟩,⟨⟨rfl, .inl rfl, .inl rfl,rfl⟩,trivial⟩⟩) (fun _ _ _ _ =>bD 0 (show(["_law_k", "_law_cell", "_law_count"] :List Str).Nodup by decide +kernel)) (fun _ _ _ _ =>rE) (fun _ _ _ _ =>eB (zR T b) hr (fA (eB (aH T b) hr (fA (aA 1) (fA (dA LC bA (aA 0)) wA))) (fA (aA 2) wA)))) wA))))) sB) (zA (IA (eB (zR T b) hr (fA (dA dC (aA 3) bA) (fA (aA 1) wA)))))))
theorem OW :fD P w K mg b 4 2 "_law_facts_by" WK :=
 QB (k :=3) (body :=ZN) T.uy pB rfl rfl fun _ _ _ _ _ _ _ hr =>rA (cB 2 pB.nd (yI wA)) (rA (cB 3 pB.nd bA) (rA (GU PassesOwn.never rfl (SE (aA 0)) (bD 4 pB.nd) (rA (cB 5 pB.nd (eB (JW T b) hr (fA (aA 4) (fA (aA 1) (fA (aA 3) wA))))) (rA (cB 3 pB.nd (dA LC (aA 3) (Q3 rfl T.iw (bF (zB hr.units) (EA (aA 5) bA) qA)))) (zA (sH (nI (aA 2) (aA 5))))))) (zA (IA (aA 2)))))
theorem QK :fD P w K mg b 2 2 "_law_ways_row" vG :=
 QB (k :=1) (body :=LN) T.zy sC rfl rfl fun _ _ _ _ _ _ _ hr =>rA (cB 2 sC.nd (cT (GR T b) hr (by decide) rfl)) (rA (OO (Nc := ["_law_k", "_law_fact", "_law_some"]) 3 rfl sC.nd (bH rfl T.Uz bA) (by decide +kernel) rfl (by decide +kernel) (by rfl) (by exact⟨⟨rfl, .inl rfl, .inl rfl,rfl⟩,⟨⟨rfl, .inl rfl, .inl rfl,rfl⟩,trivial⟩⟩) (fun _ _ _ _ =>bD 0 (show(["_law_k", "_law_fact", "_law_some"] :List Str).Nodup by decide +kernel)) (fun _ _ _ _ =>kM (NA (zB hr.units) (dA OT (dA IU (EA (aA 1) bA) (aA 0)) bA) bA)) (fun _ _ _ _ =>EA (aA 2) (aA 0)) (by rfl)) (zA (IA (SD qA (dA yD (dA yD (KC (fA (EA (aA 0) (EA (aA 1) bA)) wA)) (aA 3)) (KC (fA (EA (aA 0) (EA (aA 1) bA)) wA)))))))
theorem NW :fD P w K mg b 3 2 "_law_fact_row" dI :=
 QB (k :=2) (body :=kJ) T.sy HW rfl rfl fun _ _ _ _ _ _ _ hr =>rA (nB (NA (zB hr.units) (EA (aA 1) bA) qA) (zA (IA (dA iB qA (eB (QK T b) hr (fA (aA 0) (fA (aA 1) wA)))))) sB) (rA (nB (NA (zB hr.units) (EA (aA 1) bA) qA) (zA (IA (dA iB (dA iB (dA iB (dA iB (dA iB qA (EA (aA 0) (EA (aA 1) bA))) qA) (CG rfl T.Oz (EA (aA 1) bA))) qA) (CG rfl T.Oz (EA (aA 1) bA))))) sB) (zA (IA (dA iB qA (SD qA (QE (Nc := ["_law_member", "_law_names"]) rfl (SE (EA (aA 1) bA)) (by decide +kernel) rfl (by decide +kernel) (by rfl) (by exact⟨⟨rfl, .inl rfl, .inl rfl,rfl⟩,trivial⟩) (fun _ _ _ _ =>bD 0 (show(["_law_member", "_law_names"] :List Str).Nodup by decide +kernel)) (fun _ _ _ _ =>rE) (fun _ _ _ _ =>eB (QK T b) hr (fA (aA 1) (fA (aA 0) wA)))))))))
theorem yR :fD P w K mg b 1 1 "_law_bad_number" WG :=
 QB (k :=0) (body :=zN) T.jy EC rfl rfl fun _ _ _ _ _ _ _ hr =>rA (cB 1 EC.nd (KC (fA qA (fA qA (fA qA (fA qA (fA qA (fA qA (fA qA (fA qA (fA qA (fA qA (fA qA wA))))))))))))) (zA (IA (EA (aA 1) (dA mB (aA 0) bA))))
theorem AR :fD P w K mg b 3 3 "_law_bad_ways" uG :=
 QB (k :=2) (body :=YN) T.Dy aB rfl rfl fun _ _ _ _ _ _ _ hr =>rA (cB 3 aB.nd (cT (GR T b) hr (by decide) rfl)) (rA (cB 4 aB.nd (xL (eB (QK T b) hr (fA (aA 0) (fA (aA 1) wA))) qA)) (rA (cB 5 aB.nd (EA (aA 4) bA)) (rA (cB 6 aB.nd (EA (aA 4) (oF bA))) (rA (cB 7 aB.nd (jI (aA 4) (ZF bA) (ZF (oF bA)))) (rA (cB 8 aB.nd (dA mB (aA 2) bA)) (rA (nB (NA (zB hr.units) (aA 8) bA) (zA (IA (dA iB (dA iB (aA 5) qA) (aA 6)))) sB) (rA (nB (NA (zB hr.units) (aA 8) bA) (zA (IA (SD qA (dA yD (dA yD (KC (fA (aA 5) wA)) (aA 7)) (KC (fA (EA (aA 7) (oF bA)) (fA (aA 6) wA))))))) sB) (rA (nB (NA (zB hr.units) (aA 8) bA) (zA (IA (SD qA (KC (fA (aA 5) (fA (EA (aA 3) (dA dM bA (dA mB (dA dC (aA 2) bA) bA))) (fA (EA (aA 3) bA) (fA (aA 6) wA)))))))) sB) (rA (nB (NA (zB hr.units) (aA 8) bA) (zA (IA (SD qA (dA yD (dA yD (KC (fA (aA 5) wA)) (aA 7)) (KC (fA (EA (KC (fA qA (fA qA (fA qA (fA qA (fA (aA 5) wA)))))) (dA mB (dA dC (aA 2) bA) bA)) (fA (aA 6) wA))))))) sB) (rA (nB (NA (zB hr.units) (aA 8) bA) (zA (IA (SD qA (dA yD (dA yD (KC (fA qA wA)) (aA 7)) (KC (fA (aA 6) wA)))))) sB) (rA (nB (NA (zB hr.units) (aA 8) bA) (zA (IA (SD qA (dA yD (dA yD (KC (fA (aA 5) wA)) (aA 7)) (KC (fA qA wA)))))) sB) (rA (nB (NA (zB hr.units) (aA 8) bA) (zA (IA (SD qA (dA yD (dA yD (KC (fA (aA 5) wA)) (aA 7)) (KC (fA (aA 5) wA)))))) sB) (zA (IA (aA 5)))))))))))))))
theorem DW :fD P w K mg b 2 3 "_law_bad_length" XH :=
 QB (k :=1) (body :=yN) T.iy cC rfl rfl fun _ _ _ _ _ _ _ hr =>rA (cB 3 cC.nd (dA mB (aA 2) bA)) (rA (cB 4 cC.nd (EA (aA 0) (EA (aA 1) bA))) (rA (nB (NA (zB hr.units) (aA 3) bA) (zA (IA (dA iB (dA iB (dA iB (dA iB (dA iB qA (aA 4)) qA) (eB (yR T b) hr (fA (dA dC (aA 2) bA) wA))) qA) (CG rfl T.Oz (EA (aA 1) bA))))) sB) (rA (nB (NA (zB hr.units) (aA 3) bA) (zA (IA (dA iB (dA iB (dA iB qA (aA 4)) qA) (eB (yR T b) hr (fA (dA dC (aA 2) bA) wA))))) sB) (rA (nB (NA (zB hr.units) (aA 3) bA) (zA (IA (dA iB (dA iB (dA iB (dA iB (dA iB qA (aA 4)) qA) (CG rfl T.Oz (dA LC (EA (aA 1) bA) bA))) qA) (CG rfl T.Oz (EA (aA 1) bA))))) sB) (rA (nB (NA (zB hr.units) (aA 3) bA) (zA (IA (dA iB (dA iB (dA iB qA (aA 4)) qA) (CG rfl T.Oz (dA LC (dA LC (dA cM bA bA) bA) (dA dC (aA 2) bA)))))) sB) (zA (IA (dA iB (dA iB (dA iB qA (CG rfl T.Oz (EA (aA 1) bA))) qA) (CG rfl T.Oz (EA (aA 1) bA))))))))))
theorem FW :fD P w K mg b 4 3 "_law_bad_group" cI :=
 QB (k :=3) (body :=UN) T.Zk jC rfl rfl fun _ _ _ _ _ _ _ hr =>rA (uO (Nc := ["_law_member", "_law_names"]) 3 rfl jC.nd (SE (EA (aA 1) bA)) (by decide +kernel) rfl (by decide +kernel) (by rfl) (by exact⟨⟨rfl, .inl rfl, .inl rfl,rfl⟩,trivial⟩) (fun _ _ _ _ =>bD 0 (show(["_law_member", "_law_names"] :List Str).Nodup by decide +kernel)) (fun _ _ _ _ =>rE) (fun _ _ _ _ =>eB (QK T b) hr (fA (aA 1) (fA (aA 0) wA))) (by rfl)) (rA (cB 4 jC.nd (dA mB (dA dC (aA 2) bA) (QC rfl T.Zq (aA 3)))) (rA (nB (NA (zB hr.units) (dA mB (aA 2) bA) bA) (zA (WZ PassesOwn.never (NA CF (QC rfl T.Zq (aA 3)) bA) (zA (sH (nI (aA 3) (EA (aA 3) bA)))))) (zA (nB (NA (zB hr.units) (dA mB (aA 2) bA) bA) (zA (KJ (eB (AR T b) hr (fA (aA 0) (fA (EA (EA (aA 1) bA) (aA 4)) (fA (dA dC (aA 2) bA) wA)))) (aA 3) (aA 4))) (zA (sH (gZ (aA 3) (aA 4) qA)))))) (zA (IA (dA iB qA (SD qA (aA 3)))))))
theorem CW :fD P w K mg b 1 3 "_law_bad_stretch" YH :=
 QB (k :=0) (body :=EN) T.qy TB rfl rfl fun _ _ _ _ _ _ _ hr =>rA (cB 3 TB.nd (KC (fA qA (fA (dA iB (dA iB qA (EA (aA 0) (aA 1))) qA) (fA qA (fA qA (fA qA (fA qA wA)))))))) (rA (cB 3 TB.nd (dA yD (aA 3) (KC (fA qA (fA (dA iB qA (EA (aA 0) (aA 1))) (fA (dA iB qA (EA (aA 0) (aA 1))) wA)))))) (rA (nB (WM.tm (yH (NA CQ (aA 1) bA) (sI (NA (zB hr.units) (dA mB (aA 2) bA) bA)))) (zA (IA (dA iB qA (EA (aA 0) (dA mB (dA dC (aA 2) bA) (aA 1)))))) sB) (zA (IA (EA (aA 3) (dA mB (dA dC (aA 2) bA) bA))))))
theorem MW :fD P w K mg b 5 5 "_law_spoiled" oJ :=
 QB (k :=4) (body :=TN) T.Ky YB rfl rfl fun _ _ _ _ _ _ _ hr =>rA (cB 5 YB.nd (dA mB (aA 4) bA)) (rA (cB 6 YB.nd (KC (fA (dA iB (aA 0) qA) (fA (dA iB qA (aA 0)) (D5 0 (by decide) (by decide) (fA (dA iB qA (aA 0)) (fA (kZ (aA 0)) wA))))))) (rA (nB (NA (zB hr.units) (aA 5) bA) (zA (IA (EA (aA 6) (dA mB (dA dC (aA 4) bA) bA)))) sB) (rA (nB (NA CF (aA 3) (QC rfl T.Zq (aA 1))) (zA (IA (eB (CW T b) hr (fA (aA 1) (fA (aA 3) (fA (dA dC (aA 4) bA) wA)))))) sB) (rA (cB 7 YB.nd (EA (aA 2) (dA dM (aA 3) (QC rfl T.Zq (aA 1))))) (rA (nB (WM.tm (yH (NA (zB hr.units) (aA 5) bA) (yH (NA (zB hr.units) (dA mB (dA dC (aA 4) bA) bA) bA) (sI (NA CQ (aA 3) (QC rfl T.Zq (aA 1))))))) (zA (IA qA)) sB) (rA (nB (NA (zB hr.units) (EA (aA 7) bA) qA) (zA (IA (dA iB qA (eB (AR T b) hr (fA (aA 1) (fA (aA 7) (fA (dA dC (aA 4) bA) wA))))))) sB) (rA (nB (NA (zB hr.units) (EA (aA 7) bA) qA) (zA (IA (eB (DW T b) hr (fA (aA 1) (fA (aA 7) (fA (dA dC (aA 4) bA) wA)))))) sB) (zA (IA (eB (FW T b) hr (fA (aA 1) (fA (aA 7) (fA (dA dC (aA 4) bA) wA)))))))))))))
theorem OK :fD P w K mg b 8 1 "_law_refusal" TD :=
 QB (k :=7) (body :=SK) T.Jy GB rfl rfl fun _ _ _ _ _ _ _ hr =>rA (cB 1 GB.nd pF) (rA (B5 (xZ T b) T.Ny ⟨rfl,rfl,rfl⟩ hr (by decide) rfl (fun _ =>fA (aA 0) wA) rfl GB.nd) (rA (nB (NA iU (aA 1) pF) (zA (IA bA)) sB) (rA (cB 3 GB.nd (KC (fA (xI rfl T.Dz rfl T.xg (aA 1)) (fA (xI rfl T.Dz rfl T.Ag (aA 1)) (fA (xI rfl T.Dz rfl T.Jg (aA 1)) wA))))) (rA (cB 3 GB.nd (dA yD (aA 3) (KC (fA (xI rfl T.Dz rfl T.Bg (aA 1)) (fA (xI rfl T.Dz rfl T.Kg (aA 1)) (fA (D7 (T3 rfl T.Dz rfl T.Py (by rfl) T.Ry (aA 1))) wA)))))) (rA (nB (WM.tm (mE (NA (hU hr.units) GI (aA 3)) (wF (EG (iG (xI rfl T.Dz rfl T.yg (aA 1))))))) (zA (IA (oF bA))) sB) (rA (nB (WM.tm (mE (EG (iG (lU rfl T.Dz rfl T.iw PyProof.Rows.boot_int (by decide) (aQ (bQ T.gw) (aA 1))))) (wF (iG (lU rfl T.Dz rfl T.Qg PyProof.Rows.boot_bool (by decide) (aQ (bQ T.gw) (aA 1))))))) (zA (IA (oF bA))) sB) (zA (IA (aQ (bQ T.gw) (aA 1))))))))))
theorem XW :fD P w K mg b 1 3 "_law_full" iI :=
 QB (k :=0) (body :=vO) T.Zy kC rfl rfl fun _ _ _ _ _ _ _ hr =>rA (cB 3 kC.nd qA) (rA (nB (NA (zB hr.units) (dA mB (aA 2) bA) bA) (rA (OO (Nc := ["_law_k", "_law_some"]) 4 rfl kC.nd (bH rfl T.Uz bA) (by decide +kernel) rfl (by decide +kernel) (by rfl) (by exact⟨⟨rfl, .inl rfl, .inl rfl,rfl⟩,trivial⟩) (fun _ _ _ _ =>bD 0 (show(["_law_k", "_law_some"] :List Str).Nodup by decide +kernel)) (fun _ _ _ _ =>rE) (fun _ _ _ _ =>dA iB (dA iB qA (EA (aA 1) (aA 0))) qA) (by rfl)) (zA (IA (HE (fA (aA 4) (fA (dA iB (dA iB qA (EA (aA 3) (dA mB (dA dC (aA 2) bA) bA))) qA) wA)))))) sB) (rA (OO (Nc := ["_law_name"]) 5 rfl kC.nd (SE (aA 0)) (by decide +kernel) rfl (by decide +kernel) (by rfl) (by exact trivial) (fun _ _ _ _ =>bD 0 (show(["_law_name"] :List Str).Nodup by decide +kernel)) (fun _ _ _ _ =>rE) (fun _ _ _ _ =>dA iB qA (aA 0)) (by rfl)) (rA (nB (WM.tm (mE (NA (zB hr.units) (dA mB (aA 2) bA) bA) (wF (NA CF (QC rfl T.Zq (aA 0)) bA)))) (zA (IA (HE (fA (dA yD (aA 5) (oQ (dA iB (dA iB qA (EA (aA 0) bA)) qA) bA)) (fA (dA iB (dA iB qA (EA (aA 0) bA)) qA) wA))))) sB) (rA (cB 6 kC.nd (dA iB (dA iB (dA iB qA (EA (aA 0) bA)) qA) (EA (aA 0) bA))) (rA (nB (NA (zB hr.units) (dA mB (aA 2) bA) bA) (zA (IA (HE (fA (dA yD (aA 5) (oQ (aA 6) bA)) (fA (aA 6) wA))))) sB) (zA (IA (HE (fA (aA 5) (fA (dA iB qA (SD qA (oQ (dA iB (dA iB (EA (aA 0) bA) qA) (EA (aA 0) bA)) bA))) wA))))))))))
theorem O7 {f :Addr} {fd :FuncData} (F :Mv K "law" "law" FQ f fd) :Uq P w K mg b iF 9 f fd ["_law_script"] (sK K 1 EH) :=by unfold EH;exact P7 (k :=8) (body :=HM) F uD rfl rfl fun cdv A outer s H E hr =>by(unfold HM NL ML LL;exact rA (cB 1 uD.nd (dA LC bA (dA mB (eB (NK T b) hr (fA (aA 0) (fA bA wA))) bA))) (rA (cB 2 uD.nd (QE (Nc := ["_law_k", "_law_script"]) rfl (bH rfl T.Uz (aA 1)) (by decide +kernel) rfl (by decide +kernel) (by rfl) (by exact⟨⟨rfl, .inl rfl, .inl rfl,rfl⟩,trivial⟩) (fun _ _ _ _ =>bD 0 (show(["_law_k", "_law_script"] :List Str).Nodup by decide +kernel)) (fun _ _ _ _ =>rE) (fun _ _ _ _ =>eB (KW T b) hr (fA (eB (NK T b) hr (fA (aA 1) (fA bA wA))) (fA (aA 0) wA))))) (rA (cB 3 uD.nd (eB (OW T b) hr (fA (jI (aA 0) (ZF bA) (ZF bA)) (fA (aA 1) wA)))) (rA (cB 4 uD.nd (dA M5 (QE (Nc := ["_law_name"]) rfl (SE (aA 2)) (by decide +kernel) rfl (by decide +kernel) (by rfl) (by exact trivial) (fun _ _ _ _ =>bD 0 (show(["_law_name"] :List Str).Nodup by decide +kernel)) (fun _ _ _ _ =>rE) (fun _ _ _ _ =>dA iB qA (aA 0))) (QE (Nc := ["_law_fact", "_law_names"]) rfl (SE (aA 3)) (by decide +kernel) rfl (by decide +kernel) (by rfl) (by exact⟨⟨rfl, .inl rfl, .inl rfl,rfl⟩,trivial⟩) (fun _ _ _ _ =>bD 0 (show(["_law_fact", "_law_names"] :List Str).Nodup by decide +kernel)) (fun _ _ _ _ =>rE) (fun _ _ _ _ =>eB (NW T b) hr (fA (aA 1) (fA (aA 0) wA)))))) (rA (cB 5 uD.nd (eB (aH T b) hr (fA (eB (NK T b) hr (fA (aA 0) (fA bA wA))) (fA bA wA)))) (rA (nB (NA (RJ hr.units) (dA mB (aA 5) bA) bA) (rA (cB 6 uD.nd (eB (XW T b) hr (fA (aA 2) (fA (aA 4) (fA (dA dC (aA 5) bA) wA))))) (rA (nB (NA (jU hr.units) (eB (OK T b) hr (fA (SD qA (EA (aA 6) bA)) wA)) bA) (zA (IA GI)) sB) (zA (IA (bF (RJ hr.units) (eB (OK T b) hr (fA (SD qA (dA yD (EA (aA 6) bA) (KC (fA (EA (aA 6) bA) wA)))) wA)) (dA LC (QC rfl T.Zq (EA (aA 6) bA)) bA)))))) sB) (rA (nB (NA (jU hr.units) (eB (OK T b) hr (fA (SD qA (aA 4)) wA)) bA) (zA (IA GI)) sB) (rA (cB 7 uD.nd (dA mB (dA dC (aA 5) bA) (QC rfl T.Zq (aA 4)))) (rA (KJ (eB (MW T b) hr (fA (EA (aA 4) (aA 7)) (fA (aA 2) (fA (aA 3) (fA (aA 7) (fA (eB (aH T b) hr (fA (eB (NK T b) hr (fA (aA 0) (fA bA wA))) (fA bA wA))) wA)))))) (aA 4) (aA 7)) (rA (nB (WM.tm (yH (NA CF (dA LC (aA 7) bA) (QC rfl T.Zq (aA 4))) (sI (NA (RJ hr.units) (dA mB (dA dC (aA 5) bA) bA) bA)))) (zA (KJ qA (aA 4) (dA dM (QC rfl T.Zq (aA 4)) bA))) sB) (zA (IA (bF (RJ hr.units) (eB (OK T b) hr (fA (SD qA (aA 4)) wA)) (dA LC (aA 7) bA))))))))))))))
end
theorem G3{c :Nat} :∀{x y r t :List Nat},c∉x → c∉y → x ++ c ::r =y ++ c ::t → x =y ∧ r =t :=by
 intro x
 induction x with
 | nil =>
  intro y r t _ hy e;cases y with
  | nil =>exact⟨rfl,by simpa using e⟩
  | cons b y =>exfalso;apply hy;simp only[Ec,Jc,List.cons.injEq]at e;rw[e.1];simp
 | cons a x ih =>
  intro y r t hx hy e;cases y with
  | nil =>exfalso;apply hx;simp only[Ec,Jc,List.cons.injEq]at e;rw[e.1];simp
  | cons b y =>simp only[Jc,List.cons.injEq]at e;obtain⟨h1,h2⟩ :=ih (fun h =>hx (by simp[h])) (fun h =>hy (by simp[h])) e.2;exact⟨by rw[e.1,h1],h2⟩
theorem ED(a b :Str) :(a ++ b).cps.toList =a.cps.toList ++ b.cps.toList :=by rw[Str.cps_append];simp
theorem UE{a b :Str}(h :a.cps.toList =b.cps.toList) :a =b :=by cases a;cases b;simp only[Str.mk.injEq];exact Array.toList_inj.mp h
theorem FY{c :Nat} :∀(ts us :List Str),ts ≠ [] → us ≠ [] → (∀t∈ts,c∉t.cps.toList) → (∀t∈us,c∉t.cps.toList) → Str.join ⟨#[c]⟩ ts =Str.join ⟨#[c]⟩ us → ts =us :=by
 intro ts
 induction ts with
 | nil =>intro us h;exact absurd rfl h
 | cons x ts ih =>
  intro us _ hu ht hu2 e;cases us with
  | nil =>exact absurd rfl hu
  | cons y us =>
   have hx :=ht x (by simp);have hy :=hu2 y (by simp);have e :=congrArg (fun s :Str =>s.cps.toList) e;cases ts with
   | nil =>
    cases us with
    | nil =>rw[UE (a :=x) (b :=y) e]
    | cons z us =>exfalso;apply hx;simp only[Str.join,ED]at e;rw[e];simp
   | cons w ts =>
    cases us with
    | nil =>exfalso;apply hy;simp only[Str.join,ED]at e;rw[← e];simp
    | cons z us =>simp only[Str.join,ED,List.append_assoc]at e;obtain⟨e1,e2⟩ :=G3 hx hy (show x.cps.toList ++ c ::(Str.join ⟨#[c]⟩ (w ::ts)).cps.toList =y.cps.toList ++ c ::(Str.join ⟨#[c]⟩ (z ::us)).cps.toList by simpa using e);rw[UE e1,ih (z ::us) (by simp) (by simp) (fun t h =>ht t (by simp[h])) (fun t h =>hu2 t (by simp[h])) (UE e2)]
theorem UX{c :Nat}{ts :List Str}(hn :ts ≠ [])(h :∀t∈ts,c∉t.cps.toList) :Txt.split (Str.join ⟨#[c]⟩ ts) ⟨#[c]⟩ =ts :=
 FY _ _ (fun e =>by have :=split_pos (Str.join ⟨#[c]⟩ ts) ⟨#[c]⟩;rw[e]at this;simp at this) hn (StrLaws.split_free _ _) h (StrLaws.join_split _ _)
theorem cH{z :Str}{ts :List Str}{B :Nat}(hB :∀t∈ts,t.length ≤ B)(h :ts.length*B+ts.length*z.length ≤ 16777216) :JoinOk z ts =true :=by unfold JoinOk;rw[StrLaws.joinFits hB h];rfl
section
variable{l :LI}{h :HI}{fa fb fo f :RE}
def QQ(a :Dt)(q :Dt×HI) :Option (Dt×HI) :=match a with
 | .str z =>(uA q.2 q.1).bind fun xs =>(HG xs).bind fun ts =>if PySem.JoinOk z ts =true then some (.str (Str.join z ts),q.2)else none
 | _ =>none
theorem kE :WC fa fb l h =FB (fa l h) fun r =>FB (fb l r.2) (QQ r.1) :=by
 unfold FB WC
 congr 1
theorem WT :∀ts :List Str,HG (ts.map Dt.str) =some ts
 | [] =>rfl
 | t ::ts =>by simp only[uc,HG,WT ts,Bc]
theorem uF{z :Str}{d :Dt}{ts :List Str}(e :uA h d =some (ts.map Dt.str))(ok :JoinOk z ts =true) :QQ (.str z) (d,h) =some (.str (Str.join z ts),h) :=by simp only[QQ,e,Dc,WT,if_pos ok]
noncomputable def rK(a :Dt)(q :Dt×HI) :Option (Dt×HI) :=match a,q.1 with
 | .str z, .str y =>if(y.length==0) =false ∧ z.length ≤ sizeLine ∧ (Txt.split z y).length ≤ sizeLine then some (.lst ((Txt.split z y).map Dt.str),q.2)else none
 | _,_ =>none
theorem bG :aF fa fb l h =FB (fa l h) fun r =>FB (fb l r.2) (rK r.1) :=by
 unfold FB aF
 congr 1
theorem xH{c :Nat}{ts :List Str}(hn :ts ≠ [])(hf :∀t∈ts,c∉t.cps.toList)(hz :(Str.join ⟨#[c]⟩ ts).length ≤ 16000000) :rK (.str (Str.join ⟨#[c]⟩ ts)) (.str ⟨#[c]⟩,h) =some (.lst (ts.map Dt.str),h) :=by have e :=UX hn hf;have w :=split_le (Str.join ⟨#[c]⟩ ts) ⟨#[c]⟩;have hs :sizeLine =16777216 :=rfl;simp only[rK];rw[if_pos ⟨rfl,by rw[hs];omega,by rw[hs];omega⟩,e]
theorem RB{x y :Str}(c :x.length+y.length ≤ 16000000) :SA (.str x) (.str y) h =some (.str (x ++ y),h) :=by simp only[SA];rw[if_pos (Nat.le_trans c (by decide))]
theorem iL :∀{nm :List Str}{i :Nat}(_ :nm.Nodup)(hi :i<nm.length),ME (nm.map Dt.str) (.str nm[i]) =some i
 | [],i,_,hi =>absurd hi (by simp)
 | x ::nm,0,_,_ =>by simp[ME,bC]
 | x ::nm,i+1,nd,hi =>by
  have nd' :=List.nodup_cons.mp nd;have hi' :i<nm.length :=by simpa using hi
  have ne :¬x =nm[i] :=fun e =>nd'.1 (e ▸ List.getElem_mem hi')
  have e :bC (.str x) (.str nm[i])≠true :=by simpa[bC]using ne
  show(if bC (.str x) (.str nm[i]) =true then some 0 else(ME (nm.map Dt.str) (.str nm[i])).map (· + 1)) =some (i+1);rw[if_neg e,iL nd'.2 hi'];rfl
theorem qI :∀ts :List Str,mC (ts.map Dt.str) =true
 | [] =>rfl
 | t ::ts =>by simp only[uc,mC,MA,qI ts,Bool.and_self]
theorem FJ :∀ts :List Str,uC (ts.map Dt.str) ≤ 1
 | [] =>by simp[uC]
 | t ::ts =>by have :=FJ ts;simp only[uc,uC,oE];omega
theorem OP{d :Dt}{nm :List Str}{i :Nat}(e1 :fo l h =some (d,h))(e2 :uA h d =some (nm.map Dt.str))(nd :nm.Nodup)(hi :i<nm.length)(e3 :fa l h =some (.str nm[i],h)) :FI fo fa l h =some (.int (i :Nat),h) :=by
 have ok :dF (nm.map Dt.str) (.str nm[i]) =true :=by have :=FJ nm;simp only[dF,qI,MA,Bool.and_self,Bool.true_and,decide_eq_true_eq];omega
 simp only[FI,e1,Dc,e2,e3,if_pos ok,iL nd hi,Bc]
theorem cS :∀ts :List Str,JE (ts.map Dt.str) =some (ts.map V.str)
 | [] =>rfl
 | t ::ts =>by simp only[uc,JE,mD,cS ts,Bc,Dc]
theorem SS(s :Str) :∀ts :List Str,PQ (.str s) (ts.map V.str) =decide (s∈ts)
 | [] =>rfl
 | t ::ts =>by
  have ih :=SS s ts;unfold PQ at ih ⊢;rw[uc,List.any_cons,ih];by_cases e :t =s
  · subst e;simp[lK]
  · have e' :¬s =t :=fun z =>e z.symm
    simp[lK,e,e']
theorem DE{d :Dt}{nm :List Str}(s :Str)(n :Bool)(e :MF h d =some (nm.map Dt.str)) :oK n (.str s) d h =some (.bl (if n then !decide (s∈nm)else decide (s∈nm)),h) :=by simp only[oK,mD,Dc,e,cS,SS]
end
noncomputable def ZI(n :Nat)(p :Nat → Bool) :Nat :=match n with
 | 0 =>0
 | n+1 =>ZI n p+(if p n =true then 2^n else 0)
theorem rQ(p :Nat → Bool) :∀n,ZI n p<2^n
 | 0 =>by simp[ZI]
 | n+1 =>by have :=rQ p n;simp only[ZI];rw[Nat.pow_succ];split<;>omega
theorem NT(p :Nat → Bool) :∀n k,(ZI n p).testBit k =(decide (k<n)&&p k)
 | 0,k =>by simp[ZI]
 | n+1,k =>by
  have ih :=NT p n k;have lt :=rQ p n;simp only[ZI];by_cases hp :p n =true
  · rw[if_pos hp,Nat.add_comm];rcases Nat.lt_trichotomy k n with h | h | h
    · rw[Nat.testBit_two_pow_add_gt h,ih];simp[h,Nat.lt_succ_of_lt h]
    · subst h;rw[Nat.testBit_two_pow_add_eq,ih];simp[hp]
    · have :2^n+ZI n p<2^k :=Nat.lt_of_lt_of_le (show 2^n+ZI n p<2^(n+1) by rw[Nat.pow_succ];omega) (Nat.pow_le_pow_right (by decide) h);rw[Nat.testBit_lt_two_pow this];have :¬k<n+1 :=by omega
      simp[this]
  · rw[if_neg hp,Nat.add_zero,ih];by_cases h :k =n
    · subst h;simp[hp]
    · have :(k<n+1) =(k<n) :=by apply propext;omega
      simp[this]
theorem vT{a b :Nat}(ha :a<8192)(hb :b<8192)(h :∀k<13,a.testBit k =b.testBit k) :a =b :=by
 apply Nat.eq_of_testBit_eq;intro k;by_cases hk :k<13
 · exact h k hk
 · have hp :8192 ≤ 2^k :=by have :=Nat.pow_le_pow_right (show 1 ≤ 2 by decide) (show 13 ≤ k by omega);exact this
   rw[Nat.testBit_lt_two_pow (by omega),Nat.testBit_lt_two_pow (by omega)]
def mk(p :Nat → Bool) :Nat :=ZI 13 p
theorem cV(p :Nat → Bool) :mk p<8192 :=rQ p 13
theorem e8(p :Nat → Bool){k :Nat}(hk :k<13) :(mk p).testBit k =p k :=by unfold mk;rw[NT];simp[hk]
theorem Q8{m :Nat}(hm :m<8192) :mk m.testBit =m :=vT (cV _) hm fun _ hk =>e8 _ hk
noncomputable def sD(m :Nat) :List Nat :=(List.range 13).filter m.testBit
theorem Jq{m k :Nat} :k∈sD m↔k<13 ∧ m.testBit k =true :=by simp[sD]
theorem VX(g :Nat → Int)(p :Nat → Bool)(xs :List Nat) :((xs.filter p).map g).sum =(xs.map fun k =>if p k =true then g k else 0).sum :=by
 induction xs with
 | nil =>rfl
 | cons x xs ih =>by_cases h :p x =true<;>simp[h,ih]
theorem RU(p :Nat → Bool) :((((List.range 13).filter p).map fun k =>(2 :Int)^k)).sum =(mk p :Int) :=by
 rw[VX];simp only[mk,ZI,List.range,List.range.loop,uc,yc,List.sum_cons,List.sum_nil];generalize p 0 =a0;generalize p 1 =a1;generalize p 2 =a2;generalize p 3 =a3;generalize p 4 =a4;generalize p 5 =a5;generalize p 6 =a6;generalize p 7 =a7;generalize p 8 =a8;generalize p 9 =a9;generalize p 10 =a10;generalize p 11 =a11;generalize p 12 =a12;have f :∀(b :Bool)(k :Nat),(if b =true then(2 :Int)^k else 0) =((if b =true then 2^k else 0 :Nat) :Int) :=by intro b k;cases b<;>simp
 simp only[f];omega
theorem wZ(a b :Nat) :Builtin.bitAnd (a :Int) (b :Int) =((a&&&b :Nat) :Int) :=by unfold Builtin.bitAnd;simp
theorem xU(m k :Nat) :decide (Builtin.bitAnd ((m :Int)/2^k) 1 =1) =m.testBit k :=by
 have e :((m :Int)/2^k) =((m/2^k :Nat) :Int) :=by simp
 rw[e];have :=wZ (m/2^k) 1;simp only[Int.cast_ofNat_Int]at this;rw[this,Nat.testBit_eq_decide_div_mod_eq];have e2 :(m/2^k&&&1) =m/2^k%2 :=Nat.and_one_is_mod _;rw[e2]
 congr 1
 apply propext;omega
theorem YQ{k :Nat}(hk :k<13) :FF 1 (k :Int) :=⟨by omega,by omega,by decide⟩
theorem kR(h :HI) :AV (.int 13,h) =some (.vals ((List.range 13).map fun(k :Nat) =>Dt.int (k :Int)),h) :=mT (by decide) (by decide)
theorem eR{α :Type}(f :Nat → α) :((List.range 13).map f).length<sizeLine :=by rw[List.length_map,List.length_range];decide
theorem iP(m :Nat) :(sD m).length ≤ 13 :=by unfold sD;exact Nat.le_trans (List.length_filter_le _ _) (by simp)
theorem dZ(m :Nat)(h :HI) :qL [.int m] h =some (.lst ((sD m).map fun(k :Nat) =>Dt.int (k :Int)),h) :=by
 have ec :=mI (te :=yO) (tc :=zO) (i :=0) (fun(k :Nat) =>Dt.int (k :Int)) m.testBit (fun(k :Nat) =>Dt.int (k :Int)) h (List.range 13) [none,some (.int m)] fun k _ =>⟨by
  simp[zO,iV,xU],fun _ =>by simp[yO]⟩
 simp[qL,jP,kR,VD _ _ _ (eR _),ec,sD]
theorem bT(ks :List Nat)(hk :∀k∈ks,k<13)(hl :ks.length ≤ 13)(h :HI) :yJ [.lst (ks.map fun(k :Nat) =>Dt.int (k :Int))] h =some (.int ((ks.map fun k =>(2 :Int)^k).sum),h) :=by
 have ec :=UF (te :=aP) (tc :=rC) (i :=0) (fun(k :Nat) =>Dt.int (k :Int)) (fun(k :Nat) =>Dt.int ((2 :Int)^k)) h ks [none] fun k hm =>⟨rfl,by
  simp[aP,hV (YQ (hk k hm))]⟩
 have hs :((ks.map fun(k :Nat) =>Dt.int (k :Int))).length<sizeLine :=by rw[List.length_map];exact Nat.lt_of_le_of_lt hl (by decide)
 have es :=F8 (h :=h) (ks.map fun k =>(2 :Int)^k);rw[List.map_map]at es;have :(Dt.int ∘ fun k =>(2 :Int)^k) =fun(k :Nat) =>Dt.int ((2 :Int)^k) :=rfl
 rw[this]at es;simp[yJ,zP,VD _ _ _ hs,ec,es]
noncomputable def Qq :List Str := ["ahead", "joins", "laps", "closedby", "holds", "opens", "same", "openedby", "within", "closes", "lappedby", "joinedby", "behind"]
theorem bU :Ox =Qq.map Dt.str :=rfl
def wS (k :Nat) :Str :=Qq.getD k ""
theorem nL{k :Nat}(hk :k<13) :Ox[k]? =some (.str (wS k)) :=by
 have :∀k<13,Qq[k]? =some (wS k) :=by decide
 rw[bU,List.getElem?_map,this k hk];rfl
theorem jM :∀i<13,∀j<13,wS i =wS j → i =j :=by decide
theorem JI :∀k<13,(wS k).length ≤ 8 ∧ 32∉(wS k).cps.toList ∧ 10∉(wS k).cps.toList ∧ wS k ≠ "or" :=by decide
def kB(m :Nat) :List Str :=(sD m).map wS
theorem xP(m :Nat) :(kB m).length ≤ 13 :=by unfold kB;rw[List.length_map];exact iP m
theorem bS(m :Nat)(h :HI) :ZK [.int m] h =some (.lst ((kB m).map Dt.str),h) :=by
 have ec :=UF (te :=bO) (tc :=rC) (i :=0) (fun(k :Nat) =>Dt.int (k :Int)) (fun(k :Nat) =>Dt.str (wS k)) h (sD m) [none] fun k hm =>⟨rfl,by
  simp[bO,SM.sF,nL (Jq.mp hm).1]⟩
 have hs :((sD m).map fun(k :Nat) =>Dt.int (k :Int)).length<sizeLine :=by rw[List.length_map];exact Nat.lt_of_le_of_lt (iP m) (by decide)
 have ew :(kB m).map Dt.str =(sD m).map fun(k :Nat) =>Dt.str (wS k) :=by unfold kB;rw[List.map_map];rfl
 simp[ZK,YO,dZ,VD _ _ _ hs,ec,ew]
theorem UZ{m k :Nat}(hk :k<13) :wS k∈kB m↔k∈sD m :=by unfold kB;rw[List.mem_map];exact⟨fun⟨j,h1,h2⟩ =>jM j (Jq.mp h1).1 k hk h2 ▸ h1,fun h =>⟨k,h,rfl⟩⟩
theorem BY :∀ts :List Str,IC (ts.map Dt.str) (ts.map Dt.str) =true :=fun ts =>gL _ (qI ts)
theorem xY{m :Nat}(hm :m<8192)(h :HI) :yG [.lst ((kB m).map Dt.str)] h =some (.int (m :Nat),h) :=by
 have ec :=mI (te :=tJ) (tc :=vJ) (i :=0) (fun(k :Nat) =>Dt.int (k :Int)) m.testBit (fun(k :Nat) =>Dt.int (k :Int)) h (List.range 13) [none,some (.lst ((kB m).map Dt.str))] fun k hk =>⟨by
  have hk :=List.mem_range.mp hk;have e :=DE (h :=h) (d := .lst ((kB m).map Dt.str)) (wS k) false rfl;have e2 :decide (wS k∈kB m) =m.testBit k :=by rw[Bool.eq_iff_iff,decide_eq_true_eq,UZ hk,Jq];simp[hk]
  rw[e2]at e;simp[vJ,SM.sF,nL hk,e],fun _ =>by simp[tJ]⟩
 have es :=bT (sD m) (fun k hk =>(Jq.mp hk).1) (iP m) h;have em :=RU m.testBit;rw[Q8 hm]at em;have ew :(List.range 13).filter m.testBit =sD m :=rfl;rw[ew]at ec em;rw[em]at es;have wl :=bS m h;have ok :iE ((kB m).map Dt.str) ((kB m).map Dt.str) =true :=by have :=FJ (kB m);unfold iE;rw[qI];simp;omega
 have eq :QA (.lst ((kB m).map Dt.str)) (.lst ((kB m).map Dt.str)) h =some (.bl true,h) :=by simp only[QA,if_pos ok,BY]
 have tl :(Ox.length :Int) =13 :=by decide
 simp[yG,wJ,tl,kR,VD _ _ _ (eR _),ec,es,wl,eq]
theorem cR(x y :Str)(h :HI) :QA (.str x) (.str y) h =some (.bl (decide (x =y)),h) :=by simp[QA,gR,mD,WH,L2.HL]
theorem OI(x y :Str)(h :HI) :tD (.str x) (.str y) h =some (.bl (!decide (x =y)),h) :=by simp[tD,iR,mD,WH,L2.HL]
theorem wL(x y :Str)(hx :x.length ≤ 1000)(h :HI) :xJ [.str x, .str y] h =some (.bl (x.cps.toList.all fun c =>decide (c∈y.cps.toList)),h) :=by
 have ec :=UF (te :=ZO) (tc :=rC) (i :=0) (fun(c :Nat) =>Dt.str ⟨#[c]⟩) (fun(c :Nat) =>Dt.bl (decide (c∈y.cps.toList))) h x.cps.toList [none,some (.str y)] fun c _ =>⟨rfl,by
  have :Txt.contains y ⟨#[c]⟩ =decide (c∈y.cps.toList) :=StrLaws.found_one y c;simp[ZO,DK,this]⟩
 have hs :(x.cps.toList.map fun(c :Nat) =>Dt.str ⟨#[c]⟩).length<sizeLine :=by rw[List.length_map];exact Nat.lt_of_le_of_lt (show x.cps.toList.length ≤ 1000 by simpa[Str.length]using hx) (by decide)
 have ea :=E8 (h :=h) (x.cps.toList.map fun c =>decide (c∈y.cps.toList));rw[List.map_map]at ea;have e1 :(Dt.bl ∘ fun c =>decide (c∈y.cps.toList)) =fun(c :Nat) =>Dt.bl (decide (c∈y.cps.toList)) :=rfl
 rw[e1]at ea;have e2 :∀l h (f :RE) z,f l h =some (.str z,h) → BK f l h =some (.vals (z.cps.toList.map fun c =>Dt.str ⟨#[c]⟩),h) :=fun l h f z e =>by simp[BK,e]
 have e3 :=e2 [some (.str x),some (.str y)] h (eV 0) x rfl;have e4 :(x.cps.toList.map fun c =>decide (c∈y.cps.toList)).all id =x.cps.toList.all fun c =>decide (c∈y.cps.toList) :=by rw[List.all_map];rfl
 rw[e4]at ea;simp only[xJ,yP,XA,Zd,jc,if_true,uc,yc,Nat.reduceAdd,Nat.reduceSub,List.replicate,Wc,BA,MB,fH,e3,iA,WE,TF,XE,Xd,Yd,Option.join_some,VD _ _ _ hs,ec,ea,yA]
structure Lq(s :Str) :Prop where
 lo :1 ≤ s.length
 hi :s.length ≤ 8
 Zz :∀c∈s.cps.toList,97 ≤ c ∧ c ≤ 122
 no :s ≠ "or"
theorem Lq.free{s :Str}(h :Lq s) :32∉s.cps.toList ∧ 10∉s.cps.toList :=⟨fun m =>by have :=h.Zz 32 m;omega,fun m =>by have :=h.Zz 10 m;omega⟩
theorem SX :∀c,97 ≤ c → c ≤ 122 → c∈(Str.ofString "abcdefghijklmnopqrstuvwxyz").cps.toList :=by
 have :∀c<123,97 ≤ c → c∈(Str.ofString "abcdefghijklmnopqrstuvwxyz").cps.toList :=by decide
 exact fun c h1 h2 =>this c (by omega) h1
theorem MR :∀c,48 ≤ c → c ≤ 57 → c∈(Str.ofString "0123456789").cps.toList :=by
 have :∀c<58,48 ≤ c → c∈(Str.ofString "0123456789").cps.toList :=by decide
 exact fun c h1 h2 =>this c (by omega) h1
theorem UL{x :Str}(hx :x.length ≤ 1000000)(h :HI) :oB (.str x) h =some (.int x.length,h) :=by simp only[oB];rw[if_pos (Nat.le_trans hx (by decide))]
theorem rP{s :Str}(ok :Lq s)(h :HI) :dH [.str s] h =some (.bl true,h) :=by
 have e1 :=wL s "abcdefghijklmnopqrstuvwxyz" (by have :=ok.hi;omega) h;have e2 :(s.cps.toList.all fun c =>decide (c∈(Str.ofString "abcdefghijklmnopqrstuvwxyz").cps.toList)) =true :=by rw[List.all_eq_true];intro c hc;exact decide_eq_true (SX c (ok.Zz c hc).1 (ok.Zz c hc).2)
 rw[e2]at e1;have ln :=UL (x :=s) (by have :=ok.hi;omega) h;have g1 :(1 :Int) ≤ s.length :=by have :=ok.lo;omega
 have g2 :(s.length :Int) ≤ 8 :=by have :=ok.hi;omega
 have ne :tD (.str s) (.str "or") h =some (.bl true,h) :=by rw[OI,decide_eq_false ok.no];rfl
 simp[dH,pL,ln,g1,g2,e1,ne]
noncomputable def AA(n :Nat) :Str :=Str.ofString (toString (n :Int))
theorem kH(n :Nat) :(AA n).cps.toList =(Nat.toDigits 10 n).map Char.toNat :=PySem.W.KIN.signs_num n
theorem eG(n :Nat) :∀c∈(AA n).cps.toList,48 ≤ c ∧ c ≤ 57 :=by intro c hc;rw[kH]at hc;obtain⟨ch,hch,e⟩ :=List.mem_map.mp hc;have r :=PyProof.Rows.digit_range (Nat.isDigit_of_mem_toDigits (by decide) (by decide) hch);rw[← e];exact r
theorem bP(n :Nat) :32∉(AA n).cps.toList ∧ 10∉(AA n).cps.toList :=⟨fun m =>by have :=eG n 32 m;omega,fun m =>by have :=eG n 10 m;omega⟩
theorem lH{n :Nat}(hn :n ≤ 1000000000000000000) :1 ≤ (AA n).length ∧ (AA n).length ≤ 19 :=by
 have e :(AA n).length =(Nat.toDigits 10 n).length :=by have :=congrArg List.length (kH n);simpa[Str.length]using this
 rw[e];exact⟨toDigits_len_ge 10 n,toDigits_len_pow (by decide) (by decide) (by omega)⟩
theorem gS{n :Nat}(hn :n ≤ 1000000000000000000) :PySem.intText? (AA n) =some (n :Int) :=by
 have l :=lH hn;have e :=PySem.intText_digits (x :=AA n) (eG n) (fun z =>by
  have z0 :(AA n).cps.toList.length =0 :=by rw[z];rfl
  have z1 :=l.1;rw[Array.length_toList]at z0;unfold Str.length at z1;omega) (by omega)
 rw[kH,PySem.W.KIN.val_back]at e;exact e
theorem QS :∀n :Nat,n≠0 → ∃c r,Nat.toDigits 10 n =c ::r ∧ c.toNat≠48 :=by
 intro n
 induction n using Nat.strongRecOn with
 | _ n ih =>
  intro hn;by_cases h :n<10
  · rw[Nat.toDigits_of_lt_base h];have :∀n<10,n≠0 → (Nat.digitChar n).toNat≠48 :=by decide
    exact⟨_,_,rfl,this n h hn⟩
  · obtain⟨c,r,e,hc⟩ :=ih (n/10) (by omega) (by omega);rw[Nat.toDigits_of_base_le (by decide) (by omega),e];exact⟨c,_,rfl,hc⟩
theorem PR{n :Nat}(hn :n ≤ 1000000000000000000)(h :HI) :WF [.str (AA n)] h =some (.bl true,h) :=by
 have l :=lH hn;have e1 :=wL (AA n) "0123456789" (by omega) h;have e2 :((AA n).cps.toList.all fun c =>decide (c∈(Str.ofString "0123456789").cps.toList)) =true :=by rw[List.all_eq_true];intro c hc;exact decide_eq_true (MR c (eG n c hc).1 (eG n c hc).2)
 rw[e2]at e1;have ln :=UL (x :=AA n) (by omega) h;have g1 :(1 :Int) ≤ (AA n).length :=by omega
 have g2 :((AA n).length :Int) ≤ 19 :=by omega
 by_cases z :n =0
 · subst z;have e0 :AA 0 = "0" :=by decide
   have eq :QA (.str (AA 0)) (.str "0") h =some (.bl true,h) :=by rw[cR,e0];rfl
   simp[WF,rJ,ln,g1,g2,e1,eq]
 · obtain⟨c,r,e,hc⟩ :=QS n z;have e3 :(AA n).cps.toList =c.toNat ::r.map Char.toNat :=by rw[kH,e];rfl
   have ix :xA (.str (AA n)) (.int 0) h =some (.str ⟨#[c.toNat]⟩,h) :=by simp only[xA];have z :=SM.sF (c.toNat ::r.map Char.toNat) 0;rw[if_pos (Nat.le_trans l.2 (by decide)),e3,show(0 :Int) =((0 :Nat) :Int)from rfl,z];rfl
   have ne :tD (.str ⟨#[c.toNat]⟩) (.str "0") h =some (.bl true,h) :=by
    have :(⟨#[c.toNat]⟩ :Str) ≠ "0" :=fun q =>hc (by
     have :=congrArg (fun s :Str =>s.cps.toList) q;simpa[show(Str.ofString "0").cps.toList = [48] by decide]using this)
    rw[OI,decide_eq_false this];rfl
   have nz :AA n ≠ "0" :=fun q =>by
    rw[q]at e3;rw[show(Str.ofString "0").cps.toList = [48] by decide]at e3;injection e3 with e3 _
    exact hc e3.symm
   have eq :QA (.str (AA n)) (.str "0") h =some (.bl false,h) :=by rw[cR,decide_eq_false nz]
   simp[WF,rJ,ln,g1,g2,e1,eq,ix,ne]
theorem MX{a b :Nat}(h1 :a ≤ b)(h2 :b ≤ 1000000000000000000)(h :HI) :YG [.int a, .int b] h =some (.bl true,h) :=by
 have g0 :(0 :Int) ≤ a :=by omega
 have g1 :(a :Int) ≤ b :=by omega
 have g2 :(b :Int) ≤ 1000000000000000000 :=by omega
 simp[YG,qJ,MJ,g1,g2]
noncomputable abbrev Wy :=Nat×Nat×Nat
inductive Ft where
 | Rq (i lo hi :Nat)
 | way (w :Wy)
 | one (ws :List Wy)
noncomputable def VA (w :Wy) :Dt := .tup [.str "ways", .int (w.1 :Nat), .int (w.2.1 :Nat), .int (w.2.2 :Nat)]
def DB :Ft → Dt
 | .Rq i lo hi => .tup [.str "long", .int (i :Nat), .int (lo :Nat), .int (hi :Nat)]
 | .way w =>VA w
 | .one ws => .tup [.str "one", .lst (ws.map VA)]
structure rG(c :Nat)(w :Wy) :Prop where
 i :w.1<c
 j :w.2.2<c
 ne :w.1≠w.2.2
 lo :0<w.2.1
 hi :w.2.1<8192
noncomputable def gD(c :Nat) :Ft → Prop
 | .Rq i lo hi =>i<c ∧ lo ≤ hi ∧ hi ≤ 1000000000000000000
 | .way w =>rG c w
 | .one ws =>1 ≤ ws.length ∧ ws.length ≤ 6 ∧ ∀w∈ws,rG c w
structure fB(nm :List Str) :Prop where
 nd :nm.Nodup
 len :nm.length ≤ 8
 ok :∀s∈nm,Lq s
noncomputable def EB (nm :List Str) (i :Nat) :Str :=nm.getD i ""
theorem sE{nm :List Str}{i :Nat}(hi :i<nm.length) :EB nm i =nm[i] :=by simp[EB,hi]
theorem vD{nm :List Str}{i :Nat}(hi :i<nm.length) :EB nm i∈nm :=by rw[sE hi];exact List.getElem_mem hi
def wW(nm :List Str)(w :Wy) :List Str :=EB nm w.1 ::(kB w.2.1 ++ [EB nm w.2.2])
theorem iQ{m :Nat}(h0 :0<m)(h1 :m<8192) :1 ≤ (kB m).length :=by
 unfold kB;rw[List.length_map];rcases Nat.eq_zero_or_pos (sD m).length with z | z
 · exfalso;have e :sD m = [] :=List.eq_nil_of_length_eq_zero z;have :m =0 :=vT h1 (by decide) fun k hk =>by
    cases q :m.testBit k with
    | false =>simp
    | true =>have :=Jq.mpr ⟨hk,q⟩;rw[e]at this;cases this
   omega
 · exact z
theorem qQ{xs :List Dt}{d :Dt}{h :HI} :xA (.lst (xs ++ [d])) (.int (-1)) h =some (d,h) :=by
 rw[yM];have :L2.qz (xs ++ [d]) (-1) =some d :=by unfold L2.qz L2.JH;rw[if_neg (by decide),if_pos (by simp only[List.length_append,Zd,jc];omega)];rw[show((-1 :Int)+((xs ++ [d]).length :Nat)).toNat =xs.length by simp only[List.length_append,Zd,jc];omega];simp
 rw[this];rfl
theorem uU{xs :List Dt}{d :Dt}{h :HI} :xA (.lst (d ::xs)) (.int 0) h =some (d,h) :=by rw[yM,show(0 :Int) =((0 :Nat) :Int)from rfl,SM.sF];rfl
theorem FE{h :HI}{d :Dt}{xs :List Dt}(e :uA h d =some xs) :MF h d =some xs :=by cases d<;>simp only[uA]at e<;>first | exact e | cases e
theorem BQ{h :HI}{d :Dt}{xs :List Dt}(e :uA h d =some xs)(i :Int) :xA d (.int i) h =(L2.qz xs i).map fun d =>(d,h) :=by
 cases d with
 | lst ys =>cases e;rfl
 | ref n =>
  simp only[uA]at e;split at e
  · rename_i zs q;cases e;exact T8 q i
  · cases e
 | _ =>cases e
theorem XD{h :HI}{d :Dt}{xs :List Dt}(e :uA h d =some xs) :oB d h =some (.int xs.length,h) :=by
 cases d with
 | lst ys =>cases e;rfl
 | ref n =>
  simp only[uA]at e;split at e
  · rename_i zs q;cases e;exact qF q
  · cases e
 | _ =>cases e
theorem TL{h :HI}{d0 :Dt}{xs :List Dt}{d :Dt}(e :uA h d0 =some (xs ++ [d])) :xA d0 (.int (-1)) h =some (d,h) :=by rw[BQ e, ← yM (h :=h)];exact qQ
theorem GD{h :HI}{d0 :Dt}{xs :List Dt}{d :Dt}(e :uA h d0 =some (d ::xs)) :xA d0 (.int 0) h =some (d,h) :=by rw[BQ e, ← yM (h :=h)];exact uU
theorem TC{h :HI}{d0 :Dt}{xs :List Dt}{d :Dt}(e :uA h d0 =some xs){k :Nat}(hk :xs[k]? =some d) :xA d0 (.int (k :Nat)) h =some (d,h) :=by rw[BQ e,SM.sF,hk];rfl
theorem CO{nm :List Str}(ok :fB nm){w :Wy}(hw :rG nm.length w){d d0 :Dt}{h :HI}(Yq :uA h d0 =some ((wW nm w).map Dt.str))(e :uA h d =some (nm.map Dt.str)) :BE [d0,d] h =some (VA w,h) :=by
 obtain⟨i,m,j⟩ :=w;obtain⟨hi,hj,ne,lo,hi2⟩ :=hw;dsimp only at hi hj ne lo hi2;have wl :=iQ lo hi2;have ew :(wW nm (i,m,j)).map Dt.str =Dt.str (EB nm i) ::((kB m).map Dt.str ++ [Dt.str (EB nm j)]) :=by simp[wW]
 have Dk :(wW nm (i,m,j)).map Dt.str =(Dt.str (EB nm i) ::(kB m).map Dt.str) ++ [Dt.str (EB nm j)] :=by simp[wW]
 have g0 :xA d0 (.int 0) h =some (.str (EB nm i),h) :=GD (ew ▸ Yq);have g1 :xA d0 (.int (-1)) h =some (.str (EB nm j),h) :=TL (Dk ▸ Yq);have fl :=XD Yq;have ln :¬((((wW nm (i,m,j)).map Dt.str).length :Nat) :Int)<3 :=by rw[ew];simp only[Zd,List.length_append,List.length_map,jc];omega
 have n1 :=DE (h :=h) (EB nm i) true (FE e);have n2 :=DE (h :=h) (EB nm j) true (FE e);rw[decide_eq_true (vD hi)]at n1;rw[decide_eq_true (vD hj)]at n2;have nq :EB nm i≠EB nm j :=fun z =>ne (by
  rw[sE hi,sE hj]at z;have a :=iL ok.nd hi;rw[z,iL ok.nd hj]at a;injection a with a
  exact a.symm)
 have q :=cR (EB nm i) (EB nm j) h;rw[decide_eq_false nq]at q;have cut :SM.xE ((wW nm (i,m,j)).map Dt.str) (some 1) (some (-1)) =(kB m).map Dt.str :=by
  rw[ew];unfold SM.xE;have e1 :HT.Rx (Dt.str (EB nm i) ::((kB m).map Dt.str ++ [Dt.str (EB nm j)])).length 0 (some 1) =1 :=by have :=HT.Sx (Dt.str (EB nm i) ::((kB m).map Dt.str ++ [Dt.str (EB nm j)])).length 0 1;rw[show((1 :Nat) :Int) =1 from rfl]at this;rw[this];simp only[Zd];omega
  have e2 :HT.Rx (Dt.str (EB nm i) ::((kB m).map Dt.str ++ [Dt.str (EB nm j)])).length (Dt.str (EB nm i) ::((kB m).map Dt.str ++ [Dt.str (EB nm j)])).length (some (-1)) =(kB m).length+1 :=by unfold HT.Rx;simp only[Zd,List.length_append,List.length_map,jc];rw[if_pos (by decide)];omega
  rw[e1,e2];simp
 have es :=xY hi2 h;have i0 :=OP (l := [some d0,some d,some (.int (m :Nat))]) (h :=h) (fo :=eV 1) (fa :=e2 xA (eV 0) (eC (.int 0))) (d :=d) rfl e ok.nd hi (by simp only[pA,jA,lA,Xd,kA,iA,g0,sE hi]);have i1 :=OP (l := [some d0,some d,some (.int (m :Nat))]) (h :=h) (fo :=eV 1) (fa :=e2 xA (eV 0) (aD (eC (.int 1)))) (d :=d) rfl e ok.nd hj (by simp only[pA,jA,lA,lG,dG,Xd,kA,iA,g1,sE hj]);have mz :¬(m :Int) =0 :=by omega
 have s4 :4 ≤ sizeLine :=by decide
 have sl :∀(l :LI),l[0]? =some (some d0) → IH (eV 0) (fF (eC (.int 1))) (fF (aD (eC (.int 1)))) l h =some (.lst ((kB m).map Dt.str),h) :=by intro l h0;have e9 :=FE Yq;simp[h0,Yq,cut]
 have ln2 :decide ((((wW nm (i,m,j)).map Dt.str).length :Int)<3) =false :=decide_eq_false ln;have jd :decide ((m :Int) =0) =false :=decide_eq_false mz;simp only[BE,sJ,XA,Zd,jc,if_true,uc,yc,Nat.reduceAdd,Nat.reduceSub,List.replicate,Jc,Ec,GA,JA,JC,CA,pA,MB,jA,lA,lG,dG,Xd,Yd,kA,iA,fl,fE,ln2,vA,Xc,if_false,g0,g1,n1,n2,q,Bool.not_true,bB,FA,wB,YA,KA,HA,sl,Wc,es,Ac,zc,LB,jd,BA,ND,i0,i1,s4,yA];rfl
inductive Fq(B :Nat)(h :HI) :Dt → Ft → Prop
 | Rq (i lo hi :Nat) :Fq B h (DB (.Rq i lo hi)) (.Rq i lo hi)
 | way (w :Wy) :Fq B h (VA w) (.way w)
 | one (n :Nat) (ws :List Wy) (b :B ≤ n) (e :h[n]? =some (.lst (ws.map VA))) :Fq B h (.tup [.str "one", .ref n]) (.one ws)
theorem Fq.grow{B :Nat}{h :HI}{d :Dt}{f :Ft}(x :Fq B h d f)(g :HI) :Fq B (h ++ g) d f :=by
 cases x with
 | Rq i lo hi =>exact .Rq i lo hi
 | way w =>exact .way w
 | one n ws b e =>exact .one n ws b (by rw[Qc (Kc e).1];exact e)
theorem Fq.set{B k :Nat}{h :HI}{d :Dt}{f :Ft}(x :Fq B h d f)(hk :k<B)(o :Ob) :Fq B (h.set k o) d f :=by
 cases x with
 | Rq i lo hi =>exact .Rq i lo hi
 | way w =>exact .way w
 | one n ws b e =>exact .one n ws b (by rw[List.getElem?_set_ne (by omega)];exact e)
theorem Fq.mono{B B' :Nat}{h :HI}{d :Dt}{f :Ft}(x :Fq B h d f)(hb :B' ≤ B) :Fq B' h d f :=by
 cases x with
 | Rq i lo hi =>exact .Rq i lo hi
 | way w =>exact .way w
 | one n ws b e =>exact .one n ws (by omega) e
theorem eX{nm :List Str}(ok :fB nm){i lo hi :Nat}(hf :gD nm.length (.Rq i lo hi)){d d0 :Dt}{h :HI}(Yq :uA h d0 =some ([EB nm i,AA lo,AA hi].map Dt.str))(e :uA h d =some (nm.map Dt.str)) :UD [d0,d] h =some (DB (.Rq i lo hi),h) :=by
 obtain⟨h1,h2,h3⟩ :=hf;have hl :lo ≤ 1000000000000000000 :=by omega
 have g0 :xA d0 (.int 0) h =some (.str (EB nm i),h) :=GD Yq;have g1 :xA d0 (.int 1) h =some (.str (AA lo),h) :=TC Yq (k :=1) rfl;have g2 :xA d0 (.int 2) h =some (.str (AA hi),h) :=TC Yq (k :=2) rfl;have fl :oB d0 h =some (.int 3,h) :=XD Yq;have n1 :=DE (h :=h) (EB nm i) true (FE e);rw[decide_eq_true (vD h1)]at n1;have f1 :IE (.str (AA lo)) h =some (.int (lo :Nat),h) :=by simp only[IE,gS hl,Dc];rw[if_pos (by have :=lH hl;omega)]
 have f2 :IE (.str (AA hi)) h =some (.int (hi :Nat),h) :=by simp only[IE,gS h3,Dc];rw[if_pos (by have :=lH h3;omega)]
 have i0 :=OP (l := [some d0,some d,some (.int (lo :Nat)),some (.int (hi :Nat))]) (h :=h) (fo :=eV 1) (fa :=e2 xA (eV 0) (eC (.int 0))) (d :=d) rfl e ok.nd h1 (by simp only[pA,jA,lA,Xd,kA,iA,g0,sE h1]);have s4 :4 ≤ sizeLine :=by decide
 simp only[UD,aI,XA,Zd,jc,if_true,uc,yc,Nat.reduceAdd,Nat.reduceSub,List.replicate,Jc,Ec,GA,JA,JC,wH,CA,pA,MB,jA,lA,Xd,Yd,kA,iA,fl,LF,decide_true,vA,Bool.not_true,Xc,if_false,g0,g1,g2,n1,YA,KA,HA,Wc,PR hl,PR h3,bB,FA,wB,f1,f2,Ac,zc,MX h2 h3,BA,ND,i0,s4,yA];rfl
theorem N3 {nm :List Str} {s :Str} (ok :Lq s) (ns :s∉nm) (hl :nm.length<8) {d d0 :Dt} {h :HI} (Yq :uA h d0 =some ([("stretch" :Str),s].map Dt.str)) (e :uA h d =some (nm.map Dt.str)) :DD [d0,d] h =some (.bl true,h) :=by
 have g0 :xA d0 (.int 0) h =some (.str "stretch",h) :=GD Yq;have g1 :xA d0 (.int 1) h =some (.str s,h) :=TC Yq (k :=1) rfl;have fl :oB d0 h =some (.int 2,h) :=XD Yq;have fd :=XD e;have n1 :=DE (h :=h) s true (FE e);rw[decide_eq_false ns]at n1;have ln :(((nm.map Dt.str).length :Nat) :Int)<8 :=by rw[List.length_map];omega
 simp[DD,RF,fl,g0,g1,OI,rP ok,n1,fd,ln];omega
theorem BO {s :Str} (hs :s ≠ "stretch") {d d0 :Dt} {ts :List Str} {h :HI} (Yq :uA h d0 =some ((s ::ts).map Dt.str)) :DD [d0,d] h =some (.bl false,h) :=by
 have g0 :xA d0 (.int 0) h =some (.str s,h) :=GD Yq;have fl :=XD Yq;generalize (((s ::ts).map Dt.str).length :Int) =n at fl;by_cases z :n =2
 · subst z;simp[DD,RF,fl,g0,OI,hs]
 · simp[DD,RF,fl,z]
noncomputable def OE(p :List Str) :Ob := .lst (p.map Dt.str)
noncomputable def JD(n k :Nat) :List Dt := .ref n ::(List.range k).map fun(j :Nat) =>Dt.ref (n+2+j)
def gh(h :HI)(P0 :List Str)(rs :List (List Str)) :HI :=h ++ OE P0 :: .lst (JD h.length rs.length) ::rs.map OE
theorem UR(n k :Nat) :JD n (k+1) =JD n k ++ [.ref (n+2+k)] :=by simp[JD,List.range_succ]
theorem sU(h :HI)(P0 :List Str)(rs :List (List Str)) :(gh h P0 rs).length =h.length+2+rs.length :=by simp[gh];omega
theorem MM(h :HI)(P0 :List Str)(rs :List (List Str)) :(gh h P0 rs)[h.length]? =some (OE P0) :=by simp[gh]
theorem AI(h :HI)(P0 :List Str)(rs :List (List Str)) :(gh h P0 rs)[h.length+1]? =some (.lst (JD h.length rs.length)) :=by unfold gh;rw[Vc (by omega),show h.length+1-h.length =1 by omega];rfl
theorem KQ(h :HI)(P0 :List Str){rs :List (List Str)}{k :Nat}{p :List Str}(e :rs[k]? =some p) :(gh h P0 rs)[h.length+2+k]? =some (OE p) :=by unfold gh;rw[Vc (by omega),show h.length+2+k-h.length =k+2 by omega];simp[e]
theorem K8(h :HI)(P0 :List Str)(rs :List (List Str)) :(gh h P0 rs ++ [Ob.lst []]).set (h.length+1) (Ob.lst (JD h.length rs.length ++ [Dt.ref (gh h P0 rs).length])) =gh h P0 (rs ++ [[]]) :=by rw[sU, ← UR];unfold gh;rw[List.append_assoc,List.set_append_right _ _ (by omega),show h.length+1-h.length =1 by omega];simp[OE]
theorem L8(h :HI)(P0 :List Str)(w :Str) :(gh h P0 []).set h.length (.lst (P0.map Dt.str ++ [.str w])) =gh h (P0 ++ [w]) [] :=by unfold gh;rw[List.set_append_right _ _ (by omega),Nat.sub_self];simp[OE]
theorem M8(h :HI)(P0 :List Str)(rs :List (List Str))(p :List Str)(w :Str) :(gh h P0 (rs ++ [p])).set (h.length+2+rs.length) (.lst (p.map Dt.str ++ [.str w])) =gh h P0 (rs ++ [p ++ [w]]) :=by
 unfold gh;rw[List.set_append_right _ _ (by omega),show h.length+2+rs.length-h.length =rs.length+2 by omega];have :(List.map OE (rs ++ [p])).set rs.length (.lst (p.map Dt.str ++ [.str w])) =List.map OE (rs ++ [p ++ [w]]) :=by rw[List.map_append,List.set_append_right _ _ (by simp)];simp[OE]
 simp only[Ac,this,List.length_append,Zd,jc]
noncomputable def NB (s :List Str×List (List Str)) (w :Str) :List Str×List (List Str) :=if w = "or" then(s.1,s.2 ++ [[]])else match s.2.getLast? with
 | none =>(s.1 ++ [w],s.2)
 | some p =>(s.1,s.2.dropLast ++ [p ++ [w]])
theorem oZ(h :HI)(P0 :List Str)(rs :List (List Str))(w :Str)(hp :∀p∈P0 ::rs,p.length ≤ 1000)(hr :rs.length ≤ 1000)(x0 x1 x4 :Option Dt) :
 fI [x0,x1,some (.ref (h.length+1)),some (.str w),x4] (gh h P0 rs) =some (.nx [x0,x1,some (.ref (h.length+1)),some (.str w),x4] (gh h (NB (P0,rs) w).1 (NB (P0,rs) w).2)) :=by
 by_cases z :w = "or"
 · have e :=AG (l := [x0,x1,some (.ref (h.length+1)),some (.str w),x4]) (h :=gh h P0 rs) (g :=JF sA) (n :=h.length+1) (d := .ref (gh h P0 rs).length) (xs :=JD h.length rs.length) (ys :=JD h.length rs.length) (h' :=gh h P0 rs ++ [.lst []]) (AI h P0 rs) (by simp) (by rw[Qc (by rw[sU];omega)];exact AI h P0 rs) (by simp only[JD,Zd,List.length_map,List.length_range];exact Nat.lt_of_le_of_lt (show rs.length+1 ≤ 1001 by omega) (by decide));rw[K8]at e;have es :NB (P0,rs) w =(P0,rs ++ [[]]) :=by simp[NB,z]
   rw[es];subst z;simp only[fI,JA,CA,pA,jA,lA,Xd,Yd,kA,iA,rD,decide_true,vA,if_true,aG,zG,e]
 · have zf :decide (w =Str.ofString "or") =false :=decide_eq_false z;rcases List.eq_nil_or_concat rs with rfl | ⟨rs',p,rfl⟩
   · have ix :xA (.ref (h.length+1)) (.int (-1)) (gh h P0 []) =some (.ref h.length,gh h P0 []) :=TL (xs := []) (by simp only[uA,AI];rfl);have e :=AG (l := [x0,x1,some (.ref (h.length+1)),some (.str w),x4]) (h :=gh h P0 []) (g :=eV 3) (n :=h.length) (d := .str w) (xs :=P0.map Dt.str) (ys :=P0.map Dt.str) (h' :=gh h P0 []) (MM h P0 []) (by rfl) (MM h P0 []) (by rw[List.length_map];exact Nat.lt_of_le_of_lt (hp P0 (by simp)) (by decide));rw[L8]at e;have es :NB (P0, []) w =(P0 ++ [w], []) :=by simp[NB,z]
     rw[es];simp only[fI,JA,CA,pA,jA,lA,lG,dG,Xd,Yd,kA,iA,rD,zf,vA,Xc,if_false,aG,zG,ix,e]
   · rw[List.concat_eq_append]at *;have ix :xA (.ref (h.length+1)) (.int (-1)) (gh h P0 (rs' ++ [p])) =some (.ref (h.length+2+rs'.length),gh h P0 (rs' ++ [p])) :=TL (xs :=JD h.length rs'.length) (by simp only[uA,AI,List.length_append,Zd,jc,UR]);have ga :=KQ h P0 (rs :=rs' ++ [p]) (k :=rs'.length) (p :=p) (by simp);have e :=AG (l := [x0,x1,some (.ref (h.length+1)),some (.str w),x4]) (h :=gh h P0 (rs' ++ [p])) (g :=eV 3) (n :=h.length+2+rs'.length) (d := .str w) (xs :=p.map Dt.str) (ys :=p.map Dt.str) (h' :=gh h P0 (rs' ++ [p])) ga (by rfl) ga (by rw[List.length_map];exact Nat.lt_of_le_of_lt (hp p (by simp)) (by decide));rw[M8]at e;have es :NB (P0,rs' ++ [p]) w =(P0,rs' ++ [p ++ [w]]) :=by simp[NB,z]
     rw[es];simp only[fI,JA,CA,pA,jA,lA,lG,dG,Xd,Yd,kA,iA,rD,zf,vA,Xc,if_false,aG,zG,ix,e]
theorem U0{P0 :List Str}{rs :List (List Str)}{w :Str}{k :Nat}(hp :∀p∈P0 ::rs,p.length ≤ k)(hr :rs.length ≤ k) :(∀p∈(NB (P0,rs) w).1 ::(NB (P0,rs) w).2,p.length ≤ k+1) ∧ (NB (P0,rs) w).2.length ≤ k+1 :=by
 by_cases z :w = "or"
 · have es :NB (P0,rs) w =(P0,rs ++ [[]]) :=by simp[NB,z]
   rw[es];refine⟨fun p h =>?_,by simp;omega⟩;simp only[List.mem_cons,List.mem_append,List.not_mem_nil,or_false]at h;rcases h with rfl | h | rfl
   · have :=hp p (by simp);omega
   · have :=hp p (by simp[h]);omega
   · simp
 · rcases List.eq_nil_or_concat rs with rfl | ⟨rs',p,rfl⟩
   · have es :NB (P0, []) w =(P0 ++ [w], []) :=by simp[NB,z]
     rw[es];refine⟨fun q h =>?_,by simp⟩;simp only[List.mem_singleton]at h;subst h;have :=hp P0 (by simp);simp;omega
   · rw[List.concat_eq_append]at *;have es :NB (P0,rs' ++ [p]) w =(P0,rs' ++ [p ++ [w]]) :=by simp[NB,z]
     rw[es];refine⟨fun q h =>?_,by simp at hr ⊢;omega⟩;simp only[List.mem_cons,List.mem_append,List.not_mem_nil,or_false]at h;rcases h with rfl | h | rfl
     · have :=hp q (by simp);omega
     · have :=hp q (by simp[h]);omega
     · have :=hp p (by simp);simp;omega
theorem OS(h :HI)(x0 x1 x4 :Option Dt) :∀(ws :List Str)(k :Nat)(_ :k+ws.length ≤ 1000)(P0 :List Str)(rs :List (List Str))(_ :∀p∈P0 ::rs,p.length ≤ k)(_ :rs.length ≤ k)(y :Option Dt),∃y',ZC (UB 3) fI (ws.map Dt.str) [x0,x1,some (.ref (h.length+1)),y,x4] (gh h P0 rs) =
 some (.nx [x0,x1,some (.ref (h.length+1)),y',x4] (gh h (ws.foldl NB (P0,rs)).1 (ws.foldl NB (P0,rs)).2)) :=by
 intro ws
 induction ws with
 | nil =>intro k _ P0 rs _ _ y;exact⟨y,rfl⟩
 | cons w ws ih =>
  intro k hk P0 rs hp hr y;have hk' :k+1+ws.length ≤ 1000 :=by simp only[Zd]at hk;omega
  have e :=oZ h P0 rs w (fun p m =>by have :=hp p m;omega) (by omega) x0 x1 x4;obtain⟨s1,s2⟩ :=U0 (w :=w) hp hr;obtain⟨y',e'⟩ :=ih (k+1) hk' (NB (P0,rs) w).1 (NB (P0,rs) w).2 s1 s2 (some (.str w));refine⟨y',?_⟩;rw[List.foldl_cons];simp only[uc,ZC,UB,Ac,zc,Dc,e];exact e'
noncomputable def xC :List (List Str) → List Str
 | [] => []
 | [x] =>x
 | x ::y ::r =>x ++ ("or" :Str) ::xC (y ::r)
theorem IQ :∀(xs :List Str) (_ :∀w∈xs,w ≠ "or") (P0 :List Str),xs.foldl NB (P0, []) =(P0 ++ xs, [])
 | [],_,P0 =>by simp
 | x ::xs,h,P0 =>by have :=h x (by simp);rw[List.foldl_cons,show NB (P0, []) x =(P0 ++ [x], []) by simp[NB,this],IQ xs fun w m =>h w (by simp[m])];simp
theorem JQ :∀(xs :List Str) (_ :∀w∈xs,w ≠ "or") (P0 :List Str) (rs :List (List Str)) (p :List Str),xs.foldl NB (P0,rs ++ [p]) =(P0,rs ++ [p ++ xs])
 | [],_,P0,rs,p =>by simp
 | x ::xs,h,P0,rs,p =>by have :=h x (by simp);rw[List.foldl_cons,show NB (P0,rs ++ [p]) x =(P0,rs ++ [p ++ [x]]) by simp[NB,this],JQ xs fun w m =>h w (by simp[m])];simp
theorem WU :∀(r :List (List Str)) (y :List Str) (_ :∀p∈y ::r,∀w∈p,w ≠ "or") (P0 :List Str) (rs :List (List Str)),(xC (y ::r)).foldl NB (P0,rs ++ [[]]) =(P0,rs ++ y ::r)
 | [],y,h,P0,rs =>by show y.foldl NB _ =_;rw[JQ y (h y (by simp))];simp
 | z ::r,y,h,P0,rs =>by show(y ++ ("or" :Str) ::xC (z ::r)).foldl NB _ =_;rw[List.foldl_append,JQ y (h y (by simp)),List.foldl_cons,show NB (P0,rs ++ [[] ++ y]) "or" =(P0,(rs ++ [y]) ++ [[]]) by simp[NB],WU r z (fun p m =>h p (List.mem_cons_of_mem _ m))];simp
theorem XU (x :List Str) (r :List (List Str)) (h :∀p∈x ::r,∀w∈p,w ≠ "or") :(xC (x ::r)).foldl NB ([], []) =(x,r) :=by
 cases r with
 | nil =>show x.foldl NB _ =_;rw[IQ x (h x (by simp))];simp
 | cons y r =>show(x ++ ("or" :Str) ::xC (y ::r)).foldl NB _ =_;rw[List.foldl_append,IQ x (h x (by simp)),List.foldl_cons,show NB ([] ++ x, []) "or" =(x, [] ++ [[]]) by simp[NB],WU r y (fun p m =>h p (List.mem_cons_of_mem _ m))];simp
end G
namespace BF
end BF
namespace G
theorem pP{α :Type}{te :RE}{i n :Nat}(D F :α → Dt)(xs :List α)(l :LI)(h :HI)(e :h[n]? =some (.lst (xs.map D)))(hx :xs.length<sizeLine)(H :∀x∈xs,te (l.set i (some (D x))) h =some (F x,h)) :
 zF (UB i) rC te l (.rf n,h) =some (xs.map F,h) :=by
 have go :∀(m k :Nat)(l' :LI),(∀d,l'.set i d =l.set i d) → m =xs.length-k+1 → k ≤ xs.length → ZD (UB i) rC te (.rf n) m k l' h ((xs.take k).map F) =some (xs.map F,h) :=by
  intro m
  induction m with
  | zero =>intro k l' _ e;omega
  | succ m ih =>
   intro k l' hl' hm hk;unfold ZD;simp only[Src.at,e,List.getElem?_map];by_cases hlt :k<xs.length
   · rw[List.getElem?_eq_getElem hlt];have hx' :=H xs[k] (List.getElem_mem hlt);have ln :((xs.take k).map F).length<sizeLine :=by rw[List.length_map,List.length_take];omega
     simp only[Bc,VJ,Dc,lT,if_true,hl',hx',if_pos ln];have :=ih (k+1) (l.set i (some (D xs[k]))) (fun d =>by rw[List.set_set]) (by omega) (by omega);rw[List.take_add_one,List.getElem?_eq_getElem hlt,List.map_append]at this;exact this
   · rw[List.getElem?_eq_none (by omega)];have :k =xs.length :=by omega
     subst this;simp only[Option.map_none,List.take_length]
 have hf :Src.fuel (.rf n) h =xs.length-0+1 :=by simp only[Src.fuel,e,List.length_map];omega
 unfold zF;have :=go (xs.length-0+1) 0 l (fun _ =>rfl) rfl (Nat.zero_le _);simp only[hf];exact this
theorem gK {nm :List Str} (ok :fB nm) {w :Wy} (hw :rG nm.length w) :∀s∈wW nm w,s ≠ "or" :=by
 intro s hs;simp only[wW,List.mem_cons,List.mem_append,List.not_mem_nil,or_false]at hs;rcases hs with rfl | hs | rfl
 · exact(ok.ok _ (vD hw.i)).no
 · unfold kB at hs;obtain⟨k,hk,rfl⟩ :=List.mem_map.mp hs;exact(JI k (Jq.mp hk).1).2.2.2
 · exact(ok.ok _ (vD hw.j)).no
theorem vF(nm :List Str)(w :Wy) :(wW nm w).length ≤ 15 :=by have :=xP w.2.1;simp[wW];omega
theorem QP :∀(xs :List (List Str))(_ :∀x∈xs,x.length ≤ 15),(xC xs).length ≤ 16*xs.length
 | [],_ =>by simp[xC]
 | [x],h =>by have :=h x (by simp);simp[xC];omega
 | x ::y ::r,h =>by
  have h1 :=h x (by simp);have h2 :=QP (y ::r) fun z m =>h z (List.mem_cons_of_mem _ m)
  simp only[xC,List.length_append,Zd]at h2 ⊢;omega
noncomputable def OG(n :Nat)(w :Wy)(r :List Wy) :List (Nat×Wy) :=(n,w) ::(List.range r.length).map fun j =>(n+2+j,r.getD j w)
theorem KY(n :Nat)(w :Wy)(r :List Wy) :(OG n w r).map (fun p =>Dt.ref p.1) =JD n r.length :=by simp[OG,JD]
theorem LY(n :Nat)(w :Wy)(r :List Wy) :(OG n w r).map (fun p =>VA p.2) =(w ::r).map VA :=by
 unfold OG;rw[uc,uc,List.map_map]
 congr 1
 apply List.ext_getElem (by simp);intro i h1 h2;have :i<r.length :=by simpa using h2
 simp[this]
theorem cP :∀ws :List Wy,mC (ws.map VA) =true
 | [] =>rfl
 | w ::ws =>by simp only[uc,mC,VA,MA,cP ws,Bool.and_self]
theorem DP :∀ws :List Wy,uC (ws.map VA) ≤ 1
 | [] =>by simp[uC]
 | w ::ws =>by have :=DP ws;simp only[uc,uC,oE,VA];omega
theorem vX{nm :List Str}(ok :fB nm){ws :List Wy}(hf :gD nm.length (.one ws)){d :Dt}{h :HI}(hd :∀g :HI,uA (h ++ g) d =some (nm.map Dt.str)) :
 ∃(g :HI) (n :Nat),QF [.lst ((xC (ws.map (wW nm))).map Dt.str),d] h =some (.tup [.str "one", .ref n],h ++ g) ∧ h.length ≤ n ∧ (h ++ g)[n]? =some (.lst (ws.map VA)) :=by
 obtain⟨l1,l6,hw⟩ :=hf;obtain⟨w,r,rfl⟩ :∃w r,ws =w ::r :=by
  cases ws with
  | nil =>simp at l1
  | cons w r =>exact⟨w,r,rfl⟩
 have no :∀p∈wW nm w ::r.map (wW nm),∀s∈p,s ≠ "or" :=by intro p hp;rw[← uc]at hp;obtain⟨v,hv,rfl⟩ :=List.mem_map.mp hp;exact gK ok (hw v hv)
 have ol :(xC ((w ::r).map (wW nm))).length ≤ 16*6 :=by have :=QP ((w ::r).map (wW nm)) (fun x hx =>by obtain⟨v,_,rfl⟩ :=List.mem_map.mp hx;exact vF nm v);rw[List.length_map]at this;omega
 have fd :=XU (wW nm w) (r.map (wW nm)) no;rw[← uc]at fd;obtain⟨y,lp⟩ :=OS h (some (.lst ((xC ((w ::r).map (wW nm))).map Dt.str))) (some d) none (xC ((w ::r).map (wW nm))) 0 (by omega) [] [] (by simp) (by simp) none;rw[fd]at lp;obtain⟨g1,hg1⟩ :∃g1 :HI,gh h (wW nm w) (r.map (wW nm)) =h ++ g1 :=⟨_,rfl⟩
 have BC :=AI h (wW nm w) (r.map (wW nm));have p0 :=MM h (wW nm w) (r.map (wW nm));have pat :=fun k (p :List Str) =>KQ h (wW nm w) (rs :=r.map (wW nm)) (k :=k) (p :=p)
 rw[hg1]at BC p0 pat lp;rw[List.length_map, ← KY h.length w r]at BC;have cp :=pP (te :=mJ) (i :=0) (n :=h.length+1) (fun p :Nat×Wy =>Dt.ref p.1) (fun p =>VA p.2) (OG h.length w r) [none,some d] (h ++ g1) BC (by simp only[OG,Zd,List.length_map,List.length_range]at l6 ⊢;exact Nat.lt_of_le_of_lt l6 (by decide)) (by
  intro p hp;have hq :rG nm.length p.2 ∧ uA (h ++ g1) (.ref p.1) =some ((wW nm p.2).map Dt.str) :=by
   simp only[OG,List.mem_cons,List.mem_map,List.mem_range]at hp;rcases hp with rfl | ⟨j,hj,rfl⟩
   · exact⟨hw w (by simp),by simp only[uA,p0];rfl⟩
   · have e :r[j]? =some (r.getD j w) :=by simp[hj]
     refine⟨hw _ (by simp[hj]),?_⟩;have :=pat j (wW nm (r.getD j w)) (by rw[List.getElem?_map,e];rfl);simp only[uA,this];rfl
  have e :=CO ok hq.1 hq.2 (hd g1);simp only[mJ,YA,KA,HA,jA,zc,Xd,Yd,kA,iA,Wc,e])
 rw[LY]at cp;refine⟨g1 ++ [.lst ((w ::r).map VA)],(h ++ g1).length,?_,by simp,by rw[← List.append_assoc];simp⟩;have e0 :(h ++ [Ob.lst []]) ++ [Ob.lst [.ref h.length]] =gh h [] [] :=by simp[gh,OE,JD]
 have sq :NF (.ref (h.length+1),h ++ g1) =some (.rf (h.length+1),h ++ g1) :=EL BC;have hN :((h ++ g1) ++ [Ob.lst ((w ::r).map VA)])[(h ++ g1).length]? =some (.lst ((w ::r).map VA)) :=by simp
 have fl :oB (.ref (h ++ g1).length) ((h ++ g1) ++ [Ob.lst ((w ::r).map VA)]) =some (.int (((w ::r).map VA).length :Nat),(h ++ g1) ++ [Ob.lst ((w ::r).map VA)]) :=qF hN;have Wf :¬(6 :Int)<(((w ::r).map VA).length :Nat) :=by rw[List.length_map];omega
 have gt :=decide_eq_false Wf;have inn :pG .non (.ref (h ++ g1).length) ((h ++ g1) ++ [Ob.lst ((w ::r).map VA)]) =some (.bl false,(h ++ g1) ++ [Ob.lst ((w ::r).map VA)]) :=by
  have sl :uA ((h ++ g1) ++ [Ob.lst ((w ::r).map VA)]) (.ref (h ++ g1).length) =some ((w ::r).map VA) :=by simp only[uA,hN]
  have ok :dF ((w ::r).map VA) .non =true :=by have :=DP (w ::r);simp only[dF,cP,MA,Bool.and_self,Bool.true_and,decide_eq_true_eq];omega
  have an :(((w ::r).map VA).any fun x =>bC x .non) =false :=by rw[List.any_map,List.any_eq_false];intro x _;simp[VA,bC]
  simp only[pG,sl,Dc,if_pos ok,an]
 have s2 :2 ≤ sizeLine :=by decide
 have s1 :1 ≤ sizeLine :=by decide
 have hl :(h ++ [Ob.lst []]).length =h.length+1 :=by simp
 simp only[QF,YK,XA,Zd,jc,if_true,uc (f :=some),yc,Nat.reduceAdd,Nat.reduceSub,List.replicate,Jc,Ec,GA,wB,UJ,KA,HA,iA,Nat.zero_le,s1,hl,e0,Ac,zc,FA,WJ,FG,jA,Xd,Yd,kA,nH,BJ,lp,DL,sq,WE,TF,XE,Option.join_some,cp,JA,JC,CA,pA,MB,lA,fl,GK,gt,vA,Xc,if_false,inn,bB,BA,ND,s2,yA];rw[List.append_assoc]
def UC(nm :List Str) :Ft → List Str
 | .Rq i lo hi => ["long",EB nm i,AA lo,AA hi]
 | .way w => "ways" ::wW nm w
 | .one ws => "one" ::xC (ws.map (wW nm))
theorem aR(a :Dt)(xs :List Dt) :SM.xE (a ::xs) (some 1) none =xs :=by
 unfold SM.xE;have e1 :HT.Rx (a ::xs).length 0 (some 1) =1 :=by have :=HT.Sx (a ::xs).length 0 1;rw[show((1 :Nat) :Int) =1 from rfl]at this;rw[this];simp only[Zd];omega
 have e2 :HT.Rx (a ::xs).length (a ::xs).length none =(a ::xs).length :=rfl;rw[e1,e2];simp
theorem AO{nm :List Str}(ok :fB nm){f :Ft}(hf :gD nm.length f){d :Dt}{h :HI}(hd :∀g :HI,uA (h ++ g) d =some (nm.map Dt.str)) :
 ∃(g :HI)(x :Dt),AE [.lst ((UC nm f).map Dt.str),d] h =some (x,h ++ g) ∧ Fq h.length (h ++ g) x f :=by
 have hd0 :uA h d =some (nm.map Dt.str) :=by have :=hd [];rwa[Wc]at this
 have sl :∀(l :LI)(h :HI)(a :Dt)(xs :List Dt),l[0]? =some (some (.lst (a ::xs))) → IH (eV 0) (fF (eC (.int 1))) jN l h =some (.lst xs,h) :=by intro l h a xs h0;simp[h0,aR]
 cases f with
 | Rq i lo hi =>
  have e :=eX ok hf (d0 := .lst ([EB nm i,AA lo,AA hi].map Dt.str)) rfl hd0;refine⟨[],DB (.Rq i lo hi),?_, .Rq i lo hi⟩;rw[Wc];have g0 :xA (.lst ((UC nm (.Rq i lo hi)).map Dt.str)) (.int 0) h =some (.str "long",h) :=GD rfl;have n1 :decide (Str.ofString "long" =Str.ofString "ways") =false :=by decide
  have s1 :=sl [some (.lst ((UC nm (.Rq i lo hi)).map Dt.str)),some d] h _ _ rfl;simp only[AE,VF,XA,Zd,jc,if_true,uc (f :=some),yc,Nat.reduceAdd,Nat.reduceSub,List.replicate,Jc,Ec,Wc,GA,JA,CA,pA,jA,lA,Xd,Yd,kA,iA,g0,rD,n1,decide_true,vA,Xc,if_false,bB,FA,BA,YA,KA,HA,s1,e,ZA,yA]
 | way w =>have e :=CO ok hf (d0 := .lst ((wW nm w).map Dt.str)) rfl hd0;refine⟨[],VA w,?_, .way w⟩;rw[Wc];have g0 :xA (.lst ((UC nm (.way w)).map Dt.str)) (.int 0) h =some (.str "ways",h) :=GD rfl;have s1 :=sl [some (.lst ((UC nm (.way w)).map Dt.str)),some d] h _ _ rfl;simp only[AE,VF,XA,Zd,jc,if_true,uc (f :=some),yc,Nat.reduceAdd,Nat.reduceSub,List.replicate,Jc,Ec,Wc,GA,JA,CA,pA,jA,lA,Xd,Yd,kA,iA,g0,rD,decide_true,vA,bB,FA,BA,YA,KA,HA,s1,e,ZA,yA]
 | one ws =>
  obtain⟨g,n,e,eb,en⟩ :=vX ok hf hd;refine⟨g, .tup [.str "one", .ref n],?_, .one n ws eb en⟩;have g0 :xA (.lst ((UC nm (.one ws)).map Dt.str)) (.int 0) h =some (.str "one",h) :=GD rfl;have n1 :decide (Str.ofString "one" =Str.ofString "ways") =false :=by decide
  have n2 :decide (Str.ofString "one" =Str.ofString "long") =false :=by decide
  have s1 :=sl [some (.lst ((UC nm (.one ws)).map Dt.str)),some d] h _ _ rfl;simp only[AE,VF,XA,Zd,jc,if_true,uc (f :=some),yc,Nat.reduceAdd,Nat.reduceSub,List.replicate,Jc,Ec,Wc,GA,JA,CA,pA,jA,lA,Xd,Yd,kA,iA,g0,rD,n1,n2,decide_true,vA,Xc,if_false,bB,FA,BA,YA,KA,HA,s1,e,ZA,yA]
theorem YY{α :Type}{te :RE}{tc :RT}{i n :Nat}(D F :α → Dt)(p :α → Bool)(xs :List α)(l :LI)(h :HI)(e :h[n]? =some (.lst (xs.map D)))(hx :xs.length<sizeLine)(H :∀x∈xs,tc (l.set i (some (D x))) h =some (p x,h) ∧ (p x =true → te (l.set i (some (D x))) h =some (F x,h))) :
 zF (UB i) tc te l (.rf n,h) =some ((xs.filter p).map F,h) :=by
 have go :∀(m k :Nat)(l' :LI),(∀d,l'.set i d =l.set i d) → m =xs.length-k+1 → k ≤ xs.length → ZD (UB i) tc te (.rf n) m k l' h (((xs.take k).filter p).map F) =some ((xs.filter p).map F,h) :=by
  intro m
  induction m with
  | zero =>intro k l' _ e;omega
  | succ m ih =>
   intro k l' hl' hm hk;unfold ZD;simp only[Src.at,e,List.getElem?_map];by_cases hlt :k<xs.length
   · rw[List.getElem?_eq_getElem hlt];have hx' :=H xs[k] (List.getElem_mem hlt);have ln :(((xs.take k).filter p).map F).length<sizeLine :=by rw[List.length_map];exact Nat.lt_of_le_of_lt (Nat.le_trans (List.length_filter_le _ _) (by rw[List.length_take];omega)) hx
     have nx :=ih (k+1) (l.set i (some (D xs[k]))) (fun d =>by rw[List.set_set]) (by omega) (by omega);rw[List.take_add_one,List.getElem?_eq_getElem hlt,List.filter_append,List.map_append]at nx;by_cases hp :p xs[k] =true
     · simp only[Bc,VJ,Dc,hl',hx'.1,hp,if_true,hx'.2 hp,if_pos ln];simpa[hp]using nx
     · have hp :p xs[k] =false :=by simpa using hp
       simp only[Bc,VJ,Dc,hl',hx'.1,hp,Xc,if_false];simpa[hp]using nx
   · rw[List.getElem?_eq_none (by omega)];have :k =xs.length :=by omega
     subst this;simp only[Option.map_none,List.take_length]
 have hf :Src.fuel (.rf n) h =xs.length-0+1 :=by simp only[Src.fuel,e,List.length_map];omega
 unfold zF;have :=go (xs.length-0+1) 0 l (fun _ =>rfl) rfl (Nat.zero_le _);simp only[hf];exact this
noncomputable def vB :Ft → Bool
 | .one _ =>true
 | _ =>false
noncomputable def AQ :Ft → Str
 | .Rq _ _ _ => "long"
 | .way _ => "ways"
 | .one _ => "one"
theorem GJ (f :Ft) :decide (AQ f =Str.ofString "one") =vB f :=by
 cases f with
 | Rq i lo hi =>exact(show decide (Str.ofString "long" =Str.ofString "one") =false by decide)
 | way w =>exact(show decide (Str.ofString "ways" =Str.ofString "one") =false by decide)
 | one ws =>exact(show decide (Str.ofString "one" =Str.ofString "one") =true by decide)
theorem Fq.Nh{B :Nat}{h :HI}{d :Dt}{f :Ft}(x :Fq B h d f) :xA d (.int 0) h =some (.str (AQ f),h) :=by cases x<;>rfl
noncomputable def gJ(d :Dt) :Dt :=match d with | .tup (_ ::x ::_) =>x | _ => .non
theorem Fq.Rf{B :Nat}{h :HI}{d :Dt}{f :Ft}(x :Fq B h d f) :xA d (.int 1) h =some (gJ d,h) :=by cases x<;>rfl
theorem NR{B n :Nat}{h :HI}(ps :List (Dt×Ft))(hp :∀p∈ps,Fq B h p.1 p.2)(e :h[n]? =some (.lst (ps.map Prod.fst)))(hl :ps.length ≤ 1000) :cL [.ref n] h =some (.lst ((ps.filter fun p =>vB p.2).map fun p =>gJ p.1),h) :=by
 have c :=YY (te :=dO) (tc :=eO) (i :=0) (n :=n) Prod.fst (fun p =>gJ p.1) (fun p =>vB p.2) ps [none] h e (Nat.lt_of_le_of_lt hl (by decide)) (by
  intro p m;have q :=hp p m;refine⟨?_,fun _ =>?_⟩
  · simp only[eO,CA,pA,jA,lA,zc,Xd,kA,iA,q.Nh,rD,GJ,vA]
  · simp only[dO,pA,jA,lA,zc,Xd,kA,iA,q.Rf])
 have sq :NF (.ref n,h) =some (.rf n,h) :=EL e;simp only[cL,wO,XA,Zd,jc,if_true,uc (f :=some),yc,Nat.reduceAdd,Nat.reduceSub,List.replicate,Wc,BA,fH,FG,jA,Xd,kA,iA,sq,WE,XE,c,yA]
theorem aS{B n :Nat}{h :HI}{ps :List (Dt×Ft)}(hp :∀p∈ps,Fq B h p.1 p.2)(e :h[n]? =some (.lst (ps.map Prod.fst)))(hl :ps.length<60){d :Dt}{f :Ft}(hx :Fq B h d f)(hg :vB f =true → (ps.filter fun p =>vB p.2).length<6) :xG [.ref n,d] h =some (.bl true,h) :=by
 have g :=NR ps hp e (by omega);have fl :oB (.ref n) h =some (.int ((ps.map Prod.fst).length :Nat),h) :=qF e;have ge :decide ((60 :Int) ≤ ((ps.map Prod.fst).length :Nat)) =false :=decide_eq_false (by rw[List.length_map];omega);have i0 :=hx.Nh;by_cases q :vB f =true
 · have lt :decide ((((ps.filter fun p =>vB p.2).map fun p =>gJ p.1).length :Int)<6) =true :=decide_eq_true (by rw[List.length_map];have :=hg q;omega);have k1 :=GJ f;rw[q]at k1;simp only[xG,gI,XA,Zd,jc,if_true,uc (f :=some),yc,Nat.reduceAdd,Nat.reduceSub,List.replicate,Jc,Ec,Wc,GA,JA,CA,pA,MB,jA,lA,Xd,Yd,kA,iA,fl,FK,ge,vA,Xc,if_false,bB,FA,BA,DM,i0,OI,k1,Bool.not_true,Bool.not_false,aM,YA,KA,HA,g,ZJ,fE,lt,yA]
 · have k1 :=GJ f;have q :vB f =false :=by simpa using q
   rw[q]at k1;simp only[xG,gI,XA,Zd,jc,if_true,uc (f :=some),yc,Nat.reduceAdd,Nat.reduceSub,List.replicate,Jc,Ec,Wc,GA,JA,CA,pA,MB,jA,lA,Xd,Yd,kA,iA,fl,FK,ge,vA,Xc,if_false,bB,FA,BA,DM,i0,OI,k1,Bool.not_true,Bool.not_false,aM,YA,KA,HA,g,ZJ,yA]
noncomputable abbrev spS :Str :=⟨#[32]⟩
noncomputable abbrev iz :Str :=⟨#[10]⟩
structure zC(w :Str) :Prop where
 len :w.length ≤ 19
 sp :32∉w.cps.toList
 nl :10∉w.cps.toList
theorem Lq.wd{s :Str}(h :Lq s) :zC s :=⟨by have :=h.hi;omega,h.free.1,h.free.2⟩
theorem LQ{k :Nat}(hk :k<13) :zC (wS k) :=⟨by have :=(JI k hk).1;omega,(JI k hk).2.1,(JI k hk).2.2.1⟩
theorem gU{n :Nat}(hn :n ≤ 1000000000000000000) :zC (AA n) :=⟨(lH hn).2,(bP n).1,(bP n).2⟩
theorem BH{nm :List Str}(ok :fB nm){w :Wy}(hw :rG nm.length w) :∀s∈wW nm w,zC s :=by
 intro s hs;simp only[wW,List.mem_cons,List.mem_append,List.not_mem_nil,or_false]at hs;rcases hs with rfl | hs | rfl
 · exact(ok.ok _ (vD hw.i)).wd
 · unfold kB at hs;obtain⟨k,hk,rfl⟩ :=List.mem_map.mp hs;exact LQ (Jq.mp hk).1
 · exact(ok.ok _ (vD hw.j)).wd
theorem k8 :zC "or" :=⟨by decide,by decide,by decide⟩
theorem jQ :∀(xs :List (List Str))(_ :∀x∈xs,∀s∈x,zC s),∀s∈xC xs,zC s
 | [],_ =>by simp[xC]
 | [x],h =>h x (by simp)
 | x ::y ::r,h =>by
  intro s hs;simp only[xC,List.mem_append,List.mem_cons]at hs;rcases hs with hs | rfl | hs
  · exact h x (by simp) s hs
  · exact k8
  · exact jQ (y ::r) (fun z m =>h z (List.mem_cons_of_mem _ m)) s hs
theorem aK{nm :List Str}(ok :fB nm){f :Ft}(hf :gD nm.length f) :∀s∈UC nm f,zC s :=by
 cases f with
 | Rq i lo hi =>
  obtain⟨h1,h2,h3⟩ :=hf;intro s hs;simp only[UC,List.mem_cons,List.not_mem_nil,or_false]at hs;rcases hs with rfl | rfl | rfl | rfl
  · exact⟨by decide,by decide,by decide⟩
  · exact(ok.ok _ (vD h1)).wd
  · exact gU (by omega)
  · exact gU h3
 | way w =>
  intro s hs;simp only[UC,List.mem_cons]at hs;rcases hs with rfl | hs
  · exact⟨by decide,by decide,by decide⟩
  · exact BH ok hf s hs
 | one ws =>
  intro s hs;simp only[UC,List.mem_cons]at hs;rcases hs with rfl | hs
  · exact⟨by decide,by decide,by decide⟩
  · exact jQ _ (fun x hx =>by obtain⟨v,hv,rfl⟩ :=List.mem_map.mp hx;exact BH ok (hf.2.2 v hv)) s hs
theorem Z3{nm :List Str}{f :Ft}(hf :gD nm.length f) :(UC nm f).length ≤ 97 :=by
 cases f with
 | Rq i lo hi =>simp[UC]
 | way w =>have :=vF nm w;simp[UC];omega
 | one ws =>have :=QP (ws.map (wW nm)) (fun x hx =>by obtain⟨v,_,rfl⟩ :=List.mem_map.mp hx;exact vF nm v);have :=hf.2.1;simp[UC]at *;omega
theorem cG{z :Str}{ts :List Str}{B :Nat}(hB :∀t∈ts,t.length ≤ B) :(Str.join z ts).length ≤ ts.length*(B+z.length) :=by have h1 :=StrLaws.join_length_le z ts;have h2 :=StrLaws.sumLen_le ts hB;rw[Nat.mul_add];omega
theorem jL{c :Nat}{z :Str}(hz :c∉z.cps.toList) :∀ts :List Str,(∀t∈ts,c∉t.cps.toList) → c∉(Str.join z ts).cps.toList
 | [],_ =>by simp[Str.join,Str.empty]
 | [x],h =>h x (by simp)
 | x ::y ::r,h =>by
  have h2 :=jL hz (y ::r) fun t m =>h t (List.mem_cons_of_mem _ m)
  have h1 :=h x (by simp);show c∉(x ++ z ++ Str.join z (y ::r)).cps.toList;rw[ED,ED];simp only[List.mem_append,not_or];exact⟨⟨h1,hz⟩,h2⟩
def NC(nm :List Str)(f :Ft) :Str :=Str.join spS (UC nm f)
def pE (s :Str) :Str :=Str.join spS ["stretch",s]
theorem qM{nm :List Str}(ok :fB nm){f :Ft}(hf :gD nm.length f) :(NC nm f).length ≤ 2000 ∧ 10∉(NC nm f).cps.toList :=by
 have wd :=aK ok hf;refine⟨?_,jL (by decide) _ fun t m =>(wd t m).nl⟩;have h1 :=cG (z :=spS) fun t m =>(wd t m).len
 have h2 :=Z3 hf;have h3 :(UC nm f).length*(19+spS.length) ≤ 97*20 :=Nat.mul_le_mul h2 (by decide);unfold NC;omega
theorem sQ{s :Str}(ok :Lq s) :(pE s).length ≤ 2000 ∧ 10∉(pE s).cps.toList :=by
 have wd :∀t ∈ [("stretch" :Str),s],zC t :=by
  intro t ht;simp only[List.mem_cons,List.not_mem_nil,or_false]at ht;rcases ht with rfl | rfl
  · exact⟨by decide,by decide,by decide⟩
  · exact ok.wd
 refine⟨?_,jL (by decide) _ fun t m =>(wd t m).nl⟩;have h1 :=cG (z :=spS) fun t m =>(wd t m).len
 have h3 :([("stretch" :Str),s].length)*(19+spS.length) ≤ 2*20 :=show 2*(19+spS.length) ≤ 2*20 by decide
 unfold pE;omega
theorem MS{nm :List Str}(ok :fB nm){f :Ft}(hf :gD nm.length f)(h :HI) :rK (.str (NC nm f)) (.str spS,h) =some (.lst ((UC nm f).map Dt.str),h) :=
 xH (by cases f<;>simp[UC]) (fun t m =>(aK ok hf t m).sp) (Nat.le_trans (qM ok hf).1 (by decide))
theorem P1 {s :Str} (ok :Lq s) (h :HI) :rK (.str (pE s)) (.str spS,h) =some (.lst ([("stretch" :Str),s].map Dt.str),h) :=
 xH (by simp) (fun t m =>by
  simp only[List.mem_cons,List.not_mem_nil,or_false]at m;rcases m with rfl | rfl
  · decide
  · exact ok.wd.sp) (Nat.le_trans (sQ ok).1 (by decide))
def dB(nm :List Str)(fs :List Ft) :List Str :=nm.map pE ++ fs.map (NC nm)
def zH(nm :List Str)(fs :List Ft) :Str :=Str.join iz (dB nm fs)
theorem ZL{nm :List Str}(ok :fB nm){fs :List Ft}(hf :∀f∈fs,gD nm.length f) :∀t∈dB nm fs,t.length ≤ 2000 ∧ 10∉t.cps.toList :=by
 intro t ht;rcases List.mem_append.mp ht with ht | ht
 · obtain⟨s,hs,rfl⟩ :=List.mem_map.mp ht;exact sQ (ok.ok s hs)
 · obtain⟨f,hs,rfl⟩ :=List.mem_map.mp ht;exact qM ok (hf f hs)
theorem RZ{nm :List Str}(ok :fB nm){fs :List Ft}(hf :∀f∈fs,gD nm.length f)(hl :fs.length ≤ 60) :JoinOk iz (dB nm fs) =true ∧ (zH nm fs).length ≤ 200000 :=by
 have l1 :(dB nm fs).length ≤ 68 :=by have :=ok.len;simp[dB];omega
 have hB :=fun t m =>(ZL ok hf t m).1
 have hj :=cG (z :=iz) hB;have e1 :(dB nm fs).length*(2000+iz.length) ≤ 68*2001 :=Nat.mul_le_mul l1 (by decide);refine⟨cH hB ?_,by unfold zH;omega⟩;rw[Nat.mul_add]at e1;omega
theorem WX{nm :List Str}(ok :fB nm)(hn :nm ≠ []){fs :List Ft}(hf :∀f∈fs,gD nm.length f)(hl :fs.length ≤ 60)(h :HI) :rK (.str (zH nm fs)) (.str iz,h) =some (.lst ((dB nm fs).map Dt.str),h) :=
 xH (by cases nm with | nil =>exact absurd rfl hn | cons a b =>simp[dB]) (fun t m =>(ZL ok hf t m).2) (Nat.le_trans (RZ ok hf hl).2 (by decide))
theorem M0{h :HI}(ws :List Wy)(k :Nat) :AD (BB h (k+2)) (ws.map VA) =some (ws.map VA) :=by
 induction ws with
 | nil =>rfl
 | cons w ws ih =>simp only[uc,AD,VA,BB,Dc,Bc]at ih ⊢;simp[ih,VA]
theorem Fq.res{B :Nat}{h :HI}{d :Dt}{f :Ft}(x :Fq B h d f)(k :Nat) :BB h (k+4) d =some (DB f) :=by
 cases x with
 | Rq i lo hi =>simp[DB,BB,AD]
 | way w =>simp[DB,VA,BB,AD]
 | one n ws b e =>have r :=M0 (h :=h) ws k;simp only[BB,AD,e,r,Bc,Dc];rfl
theorem pT{B :Nat}{h :HI} :∀(ps :List (Dt×Ft))(_ :∀p∈ps,Fq B h p.1 p.2)(k :Nat),AD (BB h (k+4)) (ps.map Prod.fst) =some (ps.map fun p =>DB p.2)
 | [],_,_ =>rfl
 | p ::ps,hp,k =>by have r :=(hp p (by simp)).res k;simp only[uc,AD,r,Dc,pT ps (fun q m =>hp q (by simp[m])) k,Bc]
theorem t6(f :Ft) :MA (DB f) =true :=by
 cases f with
 | Rq i lo hi =>rfl
 | way w =>rfl
 | one ws =>simp only[DB,MA,mC,cP,Bool.and_self]
theorem C4(f :Ft) :oE (DB f) ≤ 4 :=by
 cases f with
 | Rq i lo hi =>simp[DB,oE,uC]
 | way w =>simp[DB,VA,oE,uC]
 | one ws =>have :=DP ws;simp only[DB,oE,uC];omega
theorem HS :∀fs :List Ft,mC (fs.map DB) =true
 | [] =>rfl
 | f ::fs =>by simp only[uc,mC,t6,HS fs,Bool.and_self]
theorem zT :∀fs :List Ft,uC (fs.map DB) ≤ 4
 | [] =>by simp[uC]
 | f ::fs =>by have :=C4 f;have :=zT fs;simp only[uc,uC];omega
theorem QL{B b :Nat}{h :HI}{ps :List (Dt×Ft)}(hp :∀p∈ps,Fq B h p.1 p.2)(e :h[b]? =some (.lst (ps.map Prod.fst))) :CD (.ref b) (.lst []) h =some (.bl ps.isEmpty,h) :=by
 have r :=pT ps hp 3;have em :(ps.map fun p =>DB p.2) =(ps.map Prod.snd).map DB :=by rw[List.map_map];rfl
 rw[em]at r;have e1 :BB h 8 (.ref b) =some (.lst ((ps.map Prod.snd).map DB)) :=by rw[BB];simp only[e,r,Bc]
 have e2 :BB h 8 (.lst []) =some (.lst []) :=rfl;have dk :iE ((ps.map Prod.snd).map DB) [] =true :=by have :=zT (ps.map Prod.snd);unfold iE;rw[HS];simp[mC];simp at this;omega
 rw[S9 e1 e2 dk];cases ps<;>rfl
theorem TR(h :HI)(T :Option Dt)(ys :List Dt) :∀(rest done :List Str)(_ :fB (done ++ rest))(k :Nat)(y3 y4 y5 y6 :Option Dt),∃Xv Yv Zv dw,ZC (aE 3 4) HD (XB k (rest.map fun s =>Dt.str (pE s)) ++ ys) [T,some (.ref h.length),some (.ref (h.length+1)),y3,y4,y5,y6] (h ++ [.lst (done.map Dt.str), .lst []]) =
 ZC (aE 3 4) HD ys [T,some (.ref h.length),some (.ref (h.length+1)),Xv,Yv,Zv,dw] (h ++ [.lst ((done ++ rest).map Dt.str), .lst []]) :=by
 intro rest
 induction rest with
 | nil =>intro done _ k y3 y4 y5 y6;exact⟨y3,y4,y5,y6,by rw[Wc];rfl⟩
 | cons s rest ih =>
  intro done ok k y3 y4 y5 y6;have os :Lq s :=ok.ok s (by simp);have ns :s∉done :=fun m =>by have :=ok.nd;rw[List.nodup_append]at this;exact this.2.2 s m s (by simp) rfl
  have dl :done.length<8 :=by have :=ok.len;simp at this;omega
  obtain⟨Xv,Yv,Zv,dw,e⟩ :=ih (done ++ [s]) (by simpa using ok) (k+1) (some (.int (k :Nat))) (some (.str (pE s))) (some (.lst ([("stretch" :Str),s].map Dt.str))) y6;refine⟨Xv,Yv,Zv,dw,?_⟩;have ha :(h ++ [Ob.lst (done.map Dt.str), .lst []])[h.length]? =some (.lst (done.map Dt.str)) :=by simp
  have hb :(h ++ [Ob.lst (done.map Dt.str), .lst []])[h.length+1]? =some (.lst (([] :List (Dt×Ft)).map Prod.fst)) :=by rw[Vc (by omega),show h.length+1-h.length =1 by omega];rfl
  have q :=QL (B :=0) (ps := []) (fun p m =>by cases m) hb;have tl :=N3 (nm :=done) os ns dl (h :=h ++ [Ob.lst (done.map Dt.str), .lst []]) (d := .ref h.length) (d0 := .lst ([("stretch" :Str),s].map Dt.str)) rfl (by simp only[uA,ha]);have sp :=P1 os (h ++ [Ob.lst (done.map Dt.str), .lst []]);have ix :xA (.lst ([("stretch" :Str),s].map Dt.str)) (.int 1) (h ++ [Ob.lst (done.map Dt.str), .lst []]) =some (.str s,h ++ [Ob.lst (done.map Dt.str), .lst []]) :=TC (xs := [("stretch" :Str),s].map Dt.str) rfl (k :=1) rfl;have ap :=AG (l := [T,some (.ref h.length),some (.ref (h.length+1)),some (.int (k :Nat)),some (.str (pE s)),some (.lst ([("stretch" :Str),s].map Dt.str)),y6]) (h :=h ++ [Ob.lst (done.map Dt.str), .lst []]) (g :=e2 xA (eV 5) (eC (.int 1))) (n :=h.length) (d := .str s) (xs :=done.map Dt.str) (ys :=done.map Dt.str) (h' :=h ++ [Ob.lst (done.map Dt.str), .lst []]) ha (by simp only[pA,jA,lA,Xd,Yd,kA,iA,ix]) ha (by rw[List.length_map];exact Nat.lt_of_lt_of_le dl (by decide));have es :(h ++ [Ob.lst (done.map Dt.str), .lst []]).set h.length (.lst (done.map Dt.str ++ [.str s])) =h ++ [.lst ((done ++ [s]).map Dt.str), .lst []] :=by simp
  rw[es]at ap;have Ax :Str.ofString " " =spS :=by decide
  have st :HD [T,some (.ref h.length),some (.ref (h.length+1)),some (.int (k :Nat)),some (.str (pE s)),y5,y6] (h ++ [Ob.lst (done.map Dt.str), .lst []]) =some (.nx [T,some (.ref h.length),some (.ref (h.length+1)),some (.int (k :Nat)),some (.str (pE s)),some (.lst ([("stretch" :Str),s].map Dt.str)),y6] (h ++ [.lst ((done ++ [s]).map Dt.str), .lst []])) :=by simp only[HD,GA,wB,bG,Ax,jA,lA,Xd,Yd,kA,iA,sp,Ac,zc,FA,JA,YE,CA,pA,YD,HA,jc,Nat.zero_le,if_true,q,List.isEmpty_nil,vA,YA,KA,Wc,Jc,Ec,tl,aG,zG,ap]
  simp only[uc,XB,Jc,ZC,aE,Ac,zc,Dc,st];rw[List.append_assoc,List.singleton_append]at e;exact e
theorem DJ (nm :List Str) (f :Ft) :∃s ts,UC nm f =s ::ts ∧ s ≠ "stretch" :=by
 cases f with
 | Rq i lo hi =>exact⟨_,_,rfl,by decide⟩
 | way w =>exact⟨_,_,rfl,by decide⟩
 | one ws =>exact⟨_,_,rfl,by decide⟩
theorem mY(nm :List Str)(ok :fB nm)(h :HI)(T :Option Dt) :∀(rest :List Ft)(_ :∀f∈rest,gD nm.length f)(ps :List (Dt×Ft))(_ :ps.length+rest.length ≤ 60)(_ :(ps.filter fun p =>vB p.2).length+(rest.filter vB).length ≤ 6)(e0 :HI)(_ :(h ++ e0)[h.length]? =some (.lst (nm.map Dt.str)))(_ :(h ++ e0)[h.length+1]? =some (.lst (ps.map Prod.fst)))(_ :∀p∈ps,Fq (h.length+2) (h ++ e0) p.1 p.2)(k :Nat)(y3 y4 y5 y6 :Option Dt),
 ∃Xv Yv Zv dw e1 qs,ZC (aE 3 4) HD (XB k (rest.map fun f =>Dt.str (NC nm f))) [T,some (.ref h.length),some (.ref (h.length+1)),y3,y4,y5,y6] (h ++ e0) =some (.nx [T,some (.ref h.length),some (.ref (h.length+1)),Xv,Yv,Zv,dw] (h ++ e1)) ∧
  (h ++ e1)[h.length]? =some (.lst (nm.map Dt.str)) ∧ (h ++ e1)[h.length+1]? =some (.lst ((ps ++ qs).map Prod.fst)) ∧ qs.map Prod.snd =rest ∧ ∀p∈ps ++ qs,Fq (h.length+2) (h ++ e1) p.1 p.2 :=by
 intro rest
 induction rest with
 | nil =>intro _ ps _ _ e0 h1 h2 h3 k y3 y4 y5 y6;exact⟨y3,y4,y5,y6,e0, [],rfl,h1,by rw[Wc];exact h2,rfl,by rw[Wc];exact h3⟩
 | cons f rest ih =>
  intro hf ps hl hg e0 h1 h2 h3 k y3 y4 y5 y6;have of :=hf f (by simp);have l1 :=(Kc h1).1;have l2 :=(Kc h2).1;have grow :∀g :HI,(h ++ e0 ++ g)[h.length]? =some (.lst (nm.map Dt.str)) :=fun g =>by rw[Qc l1];exact h1
  obtain⟨g,x,ef,fx⟩ :=AO ok of (d := .ref h.length) (h :=h ++ e0) (fun g =>by simp only[uA,grow g]);have fx :Fq (h.length+2) (h ++ e0 ++ g) x f :=fx.mono (by omega);have Mw :(h ++ e0 ++ g)[h.length+1]? =some (.lst (ps.map Prod.fst)) :=by rw[Qc l2];exact h2
  have Ik :∀p∈ps,Fq (h.length+2) (h ++ e0 ++ g) p.1 p.2 :=fun p m =>(h3 p m).grow g
  have room :=aS Ik Mw (by simp at hl;omega) fx (by
   intro o;rw[List.filter_cons,if_pos o]at hg;simp only[Zd]at hg;omega)
  have q :=QL h3 h2;obtain⟨s,ts,ew,ns⟩ :=DJ nm f;have tl :=BO ns (h :=h ++ e0) (d := .ref h.length) (d0 := .lst ((UC nm f).map Dt.str)) (ts :=ts) (by rw[ew];rfl);have sp :=MS ok of (h ++ e0);have xn :∀H :HI,lF x .non H =some (.bl false,H) :=by intro H;cases fx<;>rfl
  have ap :=AG (l := [T,some (.ref h.length),some (.ref (h.length+1)),some (.int (k :Nat)),some (.str (NC nm f)),some (.lst ((UC nm f).map Dt.str)),some x]) (h :=h ++ e0 ++ g) (g :=eV 6) (n :=h.length+1) (d :=x) (xs :=ps.map Prod.fst) (ys :=ps.map Prod.fst) (h' :=h ++ e0 ++ g) Mw (by rfl) Mw (by rw[List.length_map];exact Nat.lt_of_le_of_lt (show ps.length ≤ 60 by omega) (by decide));obtain⟨e1,Bw⟩ :∃e1,(h ++ e0 ++ g).set (h.length+1) (.lst (ps.map Prod.fst ++ [x])) =h ++ e1 :=⟨(e0 ++ g).set 1 (.lst (ps.map Prod.fst ++ [x])),by
   rw[List.append_assoc,List.set_append_right _ _ (by omega),show h.length+1-h.length =1 by omega]⟩
  rw[Bw]at ap;have n1 :(h ++ e1)[h.length]? =some (.lst (nm.map Dt.str)) :=by rw[← Bw,List.getElem?_set_ne (by omega)];exact grow g
  have n2 :(h ++ e1)[h.length+1]? =some (.lst ((ps ++ [(x,f)]).map Prod.fst)) :=by rw[← Bw,List.getElem?_set_self (by rw[List.length_append];omega)];simp
  have n3 :∀p∈ps ++ [(x,f)],Fq (h.length+2) (h ++ e1) p.1 p.2 :=by
   intro p m;rw[← Bw];simp only[List.mem_append,List.mem_singleton]at m;rcases m with m | rfl
   · exact(Ik p m).set (by omega) _
   · exact fx.set (by omega) _
  have Ax :Str.ofString " " =spS :=by decide
  have st :HD [T,some (.ref h.length),some (.ref (h.length+1)),some (.int (k :Nat)),some (.str (NC nm f)),y5,y6] (h ++ e0) =some (.nx [T,some (.ref h.length),some (.ref (h.length+1)),some (.int (k :Nat)),some (.str (NC nm f)),some (.lst ((UC nm f).map Dt.str)),some x] (h ++ e1)) :=by
   have tt :(LD (Aq (e2 CD (eV 2) (iC sA))) (Aq (UA DD [] (cA (eV 5) (cA (eV 1) sA))))) [T,some (.ref h.length),some (.ref (h.length+1)),some (.int (k :Nat)),some (.str (NC nm f)),some (.lst ((UC nm f).map Dt.str)),y6] (h ++ e0) =some (false,h ++ e0) :=by simp only[YE,CA,pA,YD,HA,jA,jc,Nat.zero_le,if_true,Xd,Yd,kA,iA,q,vA,YA,KA,Wc,Jc,Ec,tl];cases ps.isEmpty<;>rfl
   simp only[HD,GA,wB,bG,Ax,jA,lA,Xd,Yd,kA,iA,sp,Ac,zc,FA,JA,tt,Xc,if_false,YA,KA,HA,Wc,ef,JC,wH,CA,pA,xn,vA,room,Bool.not_true,bB,aG,zG,ap]
  obtain⟨Xv,Yv,Zv,dw,e2,qs,w,a1,a2,a3,a4⟩ :=ih (fun f m =>hf f (by simp[m])) (ps ++ [(x,f)]) (by simp at hl ⊢;omega) (by
   rw[List.filter_cons]at hg;rw[List.filter_append,List.length_append];by_cases o :vB f =true
   · rw[if_pos o]at hg;simp[o]at hg ⊢;omega
   · rw[if_neg o]at hg;simp[o]at hg ⊢;omega) e1 n1 n2 n3 (k+1) (some (.int (k :Nat))) (some (.str (NC nm f))) (some (.lst ((UC nm f).map Dt.str))) (some x)
  refine⟨Xv,Yv,Zv,dw,e2,(x,f) ::qs,?_,a1,?_,by rw[uc,a3],?_⟩
  · simp only[uc,XB,ZC,aE,Ac,zc,Dc,st];exact w
  · rw[a2];simp
  · intro p m;exact a4 p (by simpa using m)
theorem fL :∀(xs ys :List Dt)(k :Nat),XB k (xs ++ ys) =XB k xs ++ XB (k+xs.length) ys
 | [],ys,k =>by simp[XB]
 | x ::xs,ys,k =>by simp only[Jc,XB,fL xs ys,Zd];rw[show k+1+xs.length =k+(xs.length+1) by omega]
theorem K4{nm :List Str}(ok :fB nm)(hn :nm ≠ []){fs :List Ft}(hf :∀f∈fs,gD nm.length f)(hl :fs.length ≤ 60)(hg :(fs.filter vB).length ≤ 6)(h :HI) :
 ∃(e :HI)(qs :List (Dt×Ft)),fG [.str (zH nm fs)] h =some (.tup [.ref h.length, .ref (h.length+1)],h ++ e) ∧ (h ++ e)[h.length]? =some (.lst (nm.map Dt.str)) ∧ (h ++ e)[h.length+1]? =some (.lst (qs.map Prod.fst)) ∧ qs.map Prod.snd =fs ∧ ∀p∈qs,Fq (h.length+2) (h ++ e) p.1 p.2 :=by
 obtain⟨y3,y4,y5,y6,w1⟩ :=TR h (some (.str (zH nm fs))) (XB (1+nm.length) (fs.map fun f =>Dt.str (NC nm f))) nm [] (by simpa using ok) 1 none none none none;rw[Ec]at w1;obtain⟨z3,z4,z5,z6,e,qs,w2,a1,a2,a3,a4⟩ :=mY nm ok h (some (.str (zH nm fs))) fs hf [] (by simpa using hl) (by simpa using hg) [.lst (nm.map Dt.str), .lst []] (by simp) (by
  rw[Vc (by omega),show h.length+1-h.length =1 by omega];rfl) (fun p m =>by cases m) (1+nm.length) y3 y4 y5 y6
 rw[Ec]at a2 a4;refine⟨e,qs,?_,a1,a2,a3,a4⟩;have er :XB 1 ((dB nm fs).map Dt.str) =XB 1 (nm.map fun s =>Dt.str (pE s)) ++ XB (1+nm.length) (fs.map fun f =>Dt.str (NC nm f)) :=by unfold dB;rw[List.map_append,List.map_map,List.map_map,fL,List.length_map];rfl
 have wk :=w1;rw[← er,w2]at wk;have ak :Str.ofString "\n" =iz :=by decide
 have sp :=WX ok hn hf hl;have it :∀(l :LI)(H :HI),l[0]? =some (some (.str (zH nm fs))) → BI (aF (eV 0) (eC (.str "\n"))) l H =some (.vals (XB 1 ((dB nm fs).map Dt.str)),H) :=by
  intro l H h0;have :aF (eV 0) (eC (.str "\n")) l H =some (.lst ((dB nm fs).map Dt.str),H) :=by simp only[bG,jA,h0,kA,iA,lA,ak,sp]
  simp only[BI,this,Dc]
 have h2 :(h ++ [Ob.lst []]) ++ [Ob.lst []] =h ++ [.lst (([] :List Str).map Dt.str), .lst []] :=by simp
 have hl1 :(h ++ [Ob.lst []]).length =h.length+1 :=by simp
 have s2 :2 ≤ sizeLine :=by decide
 simp only[fG,OL,XA,Zd,jc,if_true,uc (f :=some),yc (f :=some),Nat.reduceAdd,Nat.reduceSub,List.replicate,Jc,Ec,GA,wB,UJ,HA,iA,Nat.zero_le,Ac,zc,FA,hl1,h2,WJ,it,Xd,BJ,wk,BA,ND,KA,jA,Yd,kA,s2,yA]
theorem JS :∀xs ys :List Str,IC (xs.map Dt.str) (ys.map Dt.str) =decide (xs =ys)
 | [], [] =>rfl
 | [],_ ::_ =>rfl
 | _ ::_, [] =>rfl
 | x ::xs,y ::ys =>by
  have ih :=JS xs ys;simp only[uc,IC,ih,bC];by_cases a :x =y
  · by_cases b :xs =ys
    · simp[a,b]
    · simp[a,b]
  · simp[a]
theorem lZ(xs ys :List Str)(h :HI) :QA (.lst (xs.map Dt.str)) (.lst (ys.map Dt.str)) h =some (.bl (decide (xs =ys)),h) :=by
 have ok :iE (xs.map Dt.str) (ys.map Dt.str) =true :=by have :=FJ xs;have :=FJ ys;unfold iE;rw[qI,qI];simp;omega
 simp only[QA,if_pos ok,JS]
def Nz(ws :List Str) :Nat :=mk fun k =>decide (wS k∈ws)
def Tv(ws :List Str) :Nat :=if kB (Nz ws) =ws then Nz ws else 0
theorem cZ(ws :List Str)(h :HI) :yG [.lst (ws.map Dt.str)] h =some (.int (Tv ws :Nat),h) :=by
 have ec :=mI (te :=tJ) (tc :=vJ) (i :=0) (fun(k :Nat) =>Dt.int (k :Int)) (fun k =>decide (wS k∈ws)) (fun(k :Nat) =>Dt.int (k :Int)) h (List.range 13) [none,some (.lst (ws.map Dt.str))] fun k hk =>⟨by
  have hk :=List.mem_range.mp hk;have e :=DE (h :=h) (d := .lst (ws.map Dt.str)) (wS k) false rfl;simp[vJ,SM.sF,nL hk,e],fun _ =>by simp[tJ]⟩
 have lf :((List.range 13).filter fun k =>decide (wS k∈ws)).length ≤ 13 :=List.length_filter_le _ _;have es :=bT ((List.range 13).filter fun k =>decide (wS k∈ws)) (fun k hk =>List.mem_range.mp (List.mem_filter.mp hk).1) lf h;have em :=RU fun k =>decide (wS k∈ws)
 rw[em]at es;have es :yJ [.lst (((List.range 13).filter fun k =>decide (wS k∈ws)).map fun(k :Nat) =>Dt.int (k :Int))] h =some (.int (Nz ws :Nat),h) :=es;have wl :=bS (Nz ws) h;have eq :=lZ (kB (Nz ws)) ws h;have tl :(Ox.length :Int) =13 :=by decide
 by_cases c :kB (Nz ws) =ws
 · have st :Tv ws =Nz ws :=if_pos c;rw[decide_eq_true c]at eq;rw[st];simp[yG,wJ,tl,kR,VD _ _ _ (eR _),ec,es,wl,eq]
 · have st :Tv ws =0 :=if_neg c;rw[decide_eq_false c]at eq;rw[st];simp[yG,wJ,tl,kR,VD _ _ _ (eR _),ec,es,wl,eq]
def kG(nm ws :List Str) :Prop :=∃a is b m,ws =a ::(is ++ [b]) ∧ a∈nm ∧ b∈nm ∧ a≠b ∧ 0<m ∧ m<8192 ∧ is =kB m
theorem AU(a b :Dt)(xs :List Dt) :SM.xE (a ::(xs ++ [b])) (some 1) (some (-1)) =xs :=by
 unfold SM.xE;have e1 :HT.Rx (a ::(xs ++ [b])).length 0 (some 1) =1 :=by have :=HT.Sx (a ::(xs ++ [b])).length 0 1;rw[show((1 :Nat) :Int) =1 from rfl]at this;rw[this];simp only[Zd];omega
 have e2 :HT.Rx (a ::(xs ++ [b])).length (a ::(xs ++ [b])).length (some (-1)) =xs.length+1 :=by unfold HT.Rx;simp only[Zd,List.length_append,jc];rw[if_pos (by decide)];omega
 rw[e1,e2];simp
theorem W3 :∀(ws :List Str),¬ws.length<3 → ∃a is b,ws =a ::(is ++ [b])
 | [],h =>absurd (by decide) h
 | a ::ts,h =>by
  rcases List.eq_nil_or_concat ts with z | ⟨is,b,z⟩
  · rw[z]at h;exact absurd (show 1<3 by decide) h
  · exact⟨a,is,b,by rw[z,List.concat_eq_append]⟩
theorem LR{nm ws :List Str}(bad :¬kG nm ws){d d0 :Dt}{h :HI}(Yq :uA h d0 =some (ws.map Dt.str))(e :uA h d =some (nm.map Dt.str)) :BE [d0,d] h =some (.non,h) :=by
 have fl :=XD Yq;rw[List.length_map]at fl;by_cases ln :ws.length<3
 · have c :decide (((ws.length :Nat) :Int)<3) =true :=decide_eq_true (by omega);simp only[BE,sJ,XA,Zd,jc,if_true,uc,yc,Nat.reduceAdd,Nat.reduceSub,List.replicate,Jc,Ec,GA,JA,JC,CA,pA,MB,jA,lA,Xd,kA,iA,fl,fE,c,vA,BA,ZA,yA]
 · obtain⟨a,is,b,rfl⟩ :=W3 ws ln;obtain⟨L,hL⟩ :∃L :Nat,L =(a ::(is ++ [b])).length :=⟨_,rfl⟩
   rw[← hL]at fl ln;have c :decide ((L :Int)<3) =false :=decide_eq_false (by omega);have ew :(a ::(is ++ [b])).map Dt.str =Dt.str a ::(is.map Dt.str ++ [Dt.str b]) :=by simp
   have Dk :(a ::(is ++ [b])).map Dt.str =(Dt.str a ::is.map Dt.str) ++ [Dt.str b] :=by simp
   have g0 :xA d0 (.int 0) h =some (.str a,h) :=GD (ew ▸ Yq);have g1 :xA d0 (.int (-1)) h =some (.str b,h) :=TL (Dk ▸ Yq);have n1 :=DE (h :=h) a true (FE e);have n2 :=DE (h :=h) b true (FE e);have qe :=cR a b h;generalize hX :BE [d0,d] h =X;simp only[BE,sJ,XA,Zd,jc,if_true,uc,yc,Nat.reduceAdd,Nat.reduceSub,List.replicate,Jc,Ec,GA,JA,JC,CA,pA,MB,jA,lA,lG,dG,Xd,Yd,kA,iA,fl,fE,c,vA,Xc,if_false,g0,g1,n1,n2,qe]at hX;by_cases ha :a∈nm
   · rw[decide_eq_true ha]at hX;simp only[Bool.not_true,Xc,if_false,if_true,g0,g1,n1,n2,qe,iA,vA]at hX;by_cases hb :b∈nm
     · rw[decide_eq_true hb]at hX;simp only[Bool.not_true,Xc,if_false,if_true,g0,g1,qe,iA,vA]at hX;by_cases ab :a =b
       · rw[decide_eq_true ab]at hX;simp only[if_true,iA,BA,lA,ZA,yA]at hX;exact hX.symm
       · rw[decide_eq_false ab]at hX;have s0 :Tv is =0 :=by
          unfold Tv;split
          · rename_i z;rcases Nat.eq_zero_or_pos (Nz is)with y | y
            · exact y
            · exact absurd ⟨a,is,b,Nz is,rfl,ha,hb,ab,y,cV _,z.symm⟩ bad
          · rfl
         have es :=cZ is h;rw[s0]at es;have sl :IH (eV 0) (fF (eC (.int 1))) (fF (aD (eC (.int 1)))) [some d0,some d,none] h =some (.lst (is.map Dt.str),h) :=by have e9 :=FE Yq;have ct :=AU (.str a) (.str b) (is.map Dt.str);rw[← ew]at ct;simp only[nV,jA,Xd,kA,iA,oV,lA,uT,lG,dG,Yq,Bc,ct]
         have es :yG [.lst (is.map Dt.str)] h =some (.int 0,h) :=es;have z0 :decide ((0 :Int) =0) =true :=by decide
         simp only[Xc,if_false,iA,bB,FA,GA,wB,YA,KA,HA,sl,Wc,es,Ac,zc,JA,CA,pA,jA,lA,Xd,Yd,kA,LB,z0,vA,if_true,BA,ZA,yA]at hX;exact hX.symm
     · rw[decide_eq_false hb]at hX;simp only[Bool.not_false,if_true,iA,BA,lA,ZA,yA]at hX;exact hX.symm
   · rw[decide_eq_false ha]at hX;simp only[Bool.not_false,if_true,iA,BA,lA,ZA,yA]at hX;exact hX.symm
noncomputable def qE (s :Str) :Bool :=(decide (1 ≤ s.length)&&decide (s.length ≤ 19))&&((s.cps.toList.all fun c =>decide (c∈(Str.ofString "0123456789").cps.toList))&&(decide (s = "0") || !decide (s.cps.toList.head? =some 48)))
theorem JL{s :Str}(hl :s.length ≤ 1000)(h :HI) :WF [.str s] h =some (.bl (qE s),h) :=by
 have e1 :=wL s "0123456789" hl h;have ln :=UL (x :=s) (by omega) h;generalize hX :WF [.str s] h =X;simp only[WF,rJ,XA,Zd,jc,if_true,uc,yc,Nat.reduceAdd,Nat.reduceSub,List.replicate,Wc,GA,JA,JC,wH,CA,jT,MB,jA,lA,Xd,kA,iA,ln,jR,SM.zU]at hX;unfold qE;by_cases a :1 ≤ s.length
 · have a' :decide ((1 :Int) ≤ ((s.length :Nat) :Int)) =true :=decide_eq_true (by omega);by_cases b :s.length ≤ 19
   · have b' :decide (((s.length :Nat) :Int) ≤ 19) =true :=decide_eq_true (by omega);rw[a',b']at hX;simp only[if_true,iA,vA,Bool.not_true,Xc,if_false,YA,KA,HA,jA,lA,Xd,kA,Wc,e1]at hX;rw[decide_eq_true a,decide_eq_true b];cases c :(s.cps.toList.all fun c =>decide (c∈(Str.ofString "0123456789").cps.toList))with
     | false =>rw[c]at hX;simp only[Bool.not_false,if_true,BA,lA,iA,ZA,yA]at hX;rw[← hX];rfl
     | true =>
      rw[c]at hX;obtain⟨x,xs,ex⟩ :∃x xs,s.cps.toList =x ::xs :=by
       cases q :s.cps.toList with
       | nil =>
        have :s.length =0 :=by unfold Str.length;rw[← Array.length_toList,q];rfl
        omega
       | cons x xs =>exact⟨x,xs,rfl⟩
      have ix :xA (.str s) (.int 0) h =some (.str ⟨#[x]⟩,h) :=by simp only[xA];have z :=SM.sF (x ::xs) 0;rw[if_pos (Nat.le_trans hl (by decide)),ex,show(0 :Int) =((0 :Nat) :Int)from rfl,z];rfl
      have hx :decide ((⟨#[x]⟩ :Str) = "0") =decide (s.cps.toList.head? =some 48) :=by
       rw[ex];apply decide_eq_decide.mpr;constructor
       · intro q;have q :=congrArg (fun s :Str =>s.cps.toList) q;rw[show(Str.ofString "0").cps.toList = [48] by decide]at q;have q : [x] = [48] :=q;injection q with q _
         rw[q];rfl
       · intro q;have q :some x =some 48 :=q;injection q with q
         rw[q];exact UE (by decide)
      simp only[Bool.not_true,Xc,if_false,bB,iA,FA,BA,DM,pA,jA,lA,Xd,kA,cR,aM,ix,OI,hx]at hX;rw[← hX];cases decide (s =Str.ofString "0")<;>rfl
   · have b' :decide (((s.length :Nat) :Int) ≤ 19) =false :=decide_eq_false (by omega);rw[a',b']at hX;simp only[if_true,iA,vA,Bool.not_false,BA,lA,ZA,yA]at hX;rw[← hX,decide_eq_false b,Bool.and_false,Bool.false_and]
 · have a' :decide ((1 :Int) ≤ ((s.length :Nat) :Int)) =false :=decide_eq_false (by omega);rw[a']at hX;simp only[Xc,if_false,iA,vA,Bool.not_false,if_true,BA,lA,ZA,yA]at hX;rw[← hX,decide_eq_false a,Bool.false_and,Bool.false_and]
theorem NX{ws :List Str}(bad :ws.length≠3){d d0 :Dt}{h :HI}(Yq :uA h d0 =some (ws.map Dt.str)) :UD [d0,d] h =some (.non,h) :=by have fl :=XD Yq;rw[List.length_map]at fl;have c :decide (((ws.length :Nat) :Int) =3) =false :=decide_eq_false (by omega);simp only[UD,aI,XA,Zd,jc,if_true,uc,yc,Nat.reduceAdd,Nat.reduceSub,List.replicate,Jc,Ec,GA,JA,JC,CA,pA,MB,jA,lA,Xd,kA,iA,fl,LF,c,Bool.not_false,vA,BA,ZA,yA]
theorem OX{nm :List Str}{a x y :Str}(lx :x.length ≤ 1000)(ly :y.length ≤ 1000)(bad :a∉nm ∨ qE x =false ∨ qE y =false){d d0 :Dt}{h :HI}(Yq :uA h d0 =some ([a,x,y].map Dt.str))(e :uA h d =some (nm.map Dt.str)) :UD [d0,d] h =some (.non,h) :=by
 have fl :oB d0 h =some (.int 3,h) :=XD Yq;have g0 :xA d0 (.int 0) h =some (.str a,h) :=GD Yq;have g1 :xA d0 (.int 1) h =some (.str x,h) :=TC Yq (k :=1) rfl;have g2 :xA d0 (.int 2) h =some (.str y,h) :=TC Yq (k :=2) rfl;have n1 :=DE (h :=h) a true (FE e);have e1 :=JL lx h;have e2' :=JL ly h;generalize hX :UD [d0,d] h =X;simp only[UD,aI,XA,Zd,jc,if_true,uc,yc,Nat.reduceAdd,Nat.reduceSub,List.replicate,Jc,Ec,GA,JA,JC,wH,CA,pA,MB,jA,lA,Xd,Yd,kA,iA,fl,LF,decide_true,vA,Bool.not_true,Xc,if_false,g0,n1]at hX;by_cases ha :a∈nm
 · rw[decide_eq_true ha]at hX;simp only[Bool.not_true,Xc,if_false,if_true,YA,KA,HA,pA,jA,lA,Xd,kA,iA,g1,g2,Wc,e1,e2',vA]at hX;cases hx :qE x with
   | false =>rw[hx]at hX;simp only[Bool.not_false,if_true,iA,BA,lA,ZA,yA]at hX;exact hX.symm
   | true =>
    have hy :qE y =false :=by
     rcases bad with z | z | z
     · exact absurd ha z
     · rw[hx]at z;cases z
     · exact z
    rw[hx,hy]at hX;simp only[Bool.not_true,Bool.not_false,Xc,if_false,if_true,iA,BA,lA,ZA,yA]at hX;exact hX.symm
 · rw[decide_eq_false ha]at hX;simp only[Bool.not_false,if_true,iA,BA,lA,ZA,yA]at hX;exact hX.symm
theorem wG{n :Nat}(hn :n<10000000000000000000) :1 ≤ (AA n).length ∧ (AA n).length ≤ 19 :=by
 have e :(AA n).length =(Nat.toDigits 10 n).length :=by have :=congrArg List.length (kH n);simpa[Str.length]using this
 rw[e];exact⟨toDigits_len_ge 10 n,toDigits_len_pow (by decide) (by decide) (by omega)⟩
theorem QR{n :Nat}(hn :n<10000000000000000000) :PySem.intText? (AA n) =some (n :Int) :=by
 have l :=wG hn;have e :=PySem.intText_digits (x :=AA n) (eG n) (fun z =>by
  have z0 :(AA n).cps.toList.length =0 :=by rw[z];rfl
  have z1 :=l.1;rw[Array.length_toList]at z0;unfold Str.length at z1;omega) (by omega)
 rw[kH,PySem.W.KIN.val_back]at e;exact e
theorem fU{n :Nat}(hn :n<10000000000000000000) :qE (AA n) =true :=by
 have l :=wG hn;have e2 :((AA n).cps.toList.all fun c =>decide (c∈(Str.ofString "0123456789").cps.toList)) =true :=by rw[List.all_eq_true];intro c hc;exact decide_eq_true (MR c (eG n c hc).1 (eG n c hc).2)
 unfold qE;rw[decide_eq_true l.1,decide_eq_true l.2,e2,Bool.true_and,Bool.true_and];by_cases z :n =0
 · subst z;rw[decide_eq_true (show AA 0 = "0" by decide)];rfl
 · obtain⟨c,r,e,hc⟩ :=QS n z;have e3 :(AA n).cps.toList =c.toNat ::r.map Char.toNat :=by rw[kH,e];rfl
   have :¬(AA n).cps.toList.head? =some 48 :=by rw[e3];intro q;injection q with q;exact hc q
   rw[decide_eq_false this];cases decide (AA n =Str.ofString "0")<;>rfl
theorem wX{a b :Nat}(bad :¬(a ≤ b ∧ b ≤ 1000000000000000000))(h :HI) :YG [.int (a :Nat), .int (b :Nat)] h =some (.bl false,h) :=by
 have g0 :(0 :Int) ≤ a :=by omega
 by_cases x :a ≤ b
 · have g1 :(a :Int) ≤ b :=by omega
   have g2 :¬(b :Int) ≤ 1000000000000000000 :=by have :¬b ≤ 1000000000000000000 :=fun z =>bad ⟨x,z⟩;omega
   simp[YG,qJ,MJ,g1,g2]
 · have g1 :¬(a :Int) ≤ b :=by omega
   simp[YG,qJ,MJ,g1]
theorem PX{nm :List Str}{a :Str}(ha :a∈nm){lo hi :Nat}(l1 :lo<10000000000000000000)(l2 :hi<10000000000000000000)(bad :¬(lo ≤ hi ∧ hi ≤ 1000000000000000000)){d d0 :Dt}{h :HI}(Yq :uA h d0 =some ([a,AA lo,AA hi].map Dt.str))(e :uA h d =some (nm.map Dt.str)) :UD [d0,d] h =some (.non,h) :=by
 have fl :oB d0 h =some (.int 3,h) :=XD Yq;have g0 :xA d0 (.int 0) h =some (.str a,h) :=GD Yq;have g1 :xA d0 (.int 1) h =some (.str (AA lo),h) :=TC Yq (k :=1) rfl;have g2 :xA d0 (.int 2) h =some (.str (AA hi),h) :=TC Yq (k :=2) rfl;have n1 :=DE (h :=h) a true (FE e);rw[decide_eq_true ha]at n1;have m1 :=wG l1;have m2 :=wG l2;have e1 :=JL (s :=AA lo) (by omega) h;have e2' :=JL (s :=AA hi) (by omega) h;rw[fU l1]at e1;rw[fU l2]at e2';have f1 :IE (.str (AA lo)) h =some (.int (lo :Nat),h) :=by simp only[IE,QR l1,Dc];rw[if_pos (by omega)]
 have f2 :IE (.str (AA hi)) h =some (.int (hi :Nat),h) :=by simp only[IE,QR l2,Dc];rw[if_pos (by omega)]
 have il :=wX bad h;simp only[UD,aI,XA,Zd,jc,if_true,uc,yc,Nat.reduceAdd,Nat.reduceSub,List.replicate,Jc,Ec,GA,JA,JC,wH,CA,pA,MB,jA,lA,Xd,Yd,kA,iA,fl,LF,decide_true,vA,Bool.not_true,Xc,if_false,g0,g1,g2,n1,YA,KA,HA,Wc,e1,e2',bB,FA,wB,f1,f2,Ac,zc,il,Bool.not_false,BA,ZA,yA]
inductive Pt where
 | good (w :Wy)
 | bad (ws :List Str)
def pD(nm :List Str) :Pt → List Str
 | .good w =>wW nm w
 | .bad ws =>ws
def gF :Pt → Dt
 | .good w =>VA w
 | .bad _ => .non
def eJ(nm :List Str) :Pt → Prop
 | .good w =>rG nm.length w
 | .bad ws =>¬kG nm ws ∧ ws ≠ [] ∧ ws.length ≤ 100 ∧ ∀s∈ws,s ≠ "or"
theorem J4{nm :List Str}(ok :fB nm){p :Pt}(hp :eJ nm p){d d0 :Dt}{h :HI}(Yq :uA h d0 =some ((pD nm p).map Dt.str))(e :uA h d =some (nm.map Dt.str)) :BE [d0,d] h =some (gF p,h) :=by
 cases p with
 | good w =>exact CO ok hp Yq e
 | bad ws =>exact LR hp.1 Yq e
noncomputable def kN(n :Nat)(w :Pt)(r :List Pt) :List (Nat×Pt) :=(n,w) ::(List.range r.length).map fun j =>(n+2+j,r.getD j w)
theorem u0(n :Nat)(w :Pt)(r :List Pt) :(kN n w r).map (fun p =>Dt.ref p.1) =JD n r.length :=by simp[kN,JD]
theorem B0(n :Nat)(w :Pt)(r :List Pt) :(kN n w r).map (fun p =>gF p.2) =(w ::r).map gF :=by
 unfold kN;rw[uc,uc,List.map_map]
 congr 1
 apply List.ext_getElem (by simp);intro i h1 h2;have :i<r.length :=by simpa using h2
 simp[this]
theorem KP :∀ws :List Pt,mC (ws.map gF) =true
 | [] =>rfl
 | .good w ::ws =>by simp only[uc,mC,gF,VA,MA,KP ws,Bool.and_self]
 | .bad w ::ws =>by simp only[uc,mC,gF,MA,KP ws,Bool.and_self]
theorem ZP :∀ws :List Pt,uC (ws.map gF) ≤ 1
 | [] =>by simp[uC]
 | .good w ::ws =>by have :=ZP ws;simp only[uc,uC,oE,gF,VA];omega
 | .bad w ::ws =>by have :=ZP ws;simp only[uc,uC,oE,gF];omega
noncomputable def vM :Pt → Bool
 | .bad _ =>true
 | .good _ =>false
theorem VS :∀(xs :List (List Str))(_ :∀x∈xs,x.length ≤ 100),(xC xs).length ≤ 101*xs.length
 | [],_ =>by simp[xC]
 | [x],h =>by have :=h x (by simp);simp[xC];omega
 | x ::y ::r,h =>by
  have h1 :=h x (by simp);have h2 :=VS (y ::r) fun z m =>h z (List.mem_cons_of_mem _ m)
  simp only[xC,List.length_append,Zd]at h2 ⊢;omega
theorem uX{nm :List Str}(ok :fB nm){ps :List Pt}(h0 :ps ≠ [])(l8 :ps.length ≤ 8)(hp :∀p∈ps,eJ nm p)(bad :6<ps.length ∨ ∃p∈ps,vM p =true){d :Dt}{h :HI}(hd :∀g :HI,uA (h ++ g) d =some (nm.map Dt.str)) :
 ∃g,QF [.lst ((xC (ps.map (pD nm))).map Dt.str),d] h =some (.non,h ++ g) :=by
 obtain⟨w,r,rfl⟩ :∃w r,ps =w ::r :=by
  cases ps with
  | nil =>exact absurd rfl h0
  | cons w r =>exact⟨w,r,rfl⟩
 have no :∀p∈pD nm w ::r.map (pD nm),∀s∈p,s ≠ "or" :=by
  intro p hp';rw[← uc]at hp';obtain⟨v,hv,rfl⟩ :=List.mem_map.mp hp';have :=hp v hv;cases v with
  | good w =>exact gK ok this
  | bad ws =>exact this.2.2.2
 have ll :∀x∈(w ::r).map (pD nm),x.length ≤ 100 :=fun x hx =>by
  obtain⟨v,hv,rfl⟩ :=List.mem_map.mp hx;have :=hp v hv;cases v with
  | good w =>have :=vF nm w;show(wW nm w).length ≤ 100;omega
  | bad ws =>exact this.2.2.1
 have ol :(xC ((w ::r).map (pD nm))).length ≤ 101*8 :=by have :=VS _ ll;rw[List.length_map]at this;omega
 have fd :=XU (pD nm w) (r.map (pD nm)) no;rw[← uc]at fd;obtain⟨y,lp⟩ :=OS h (some (.lst ((xC ((w ::r).map (pD nm))).map Dt.str))) (some d) none (xC ((w ::r).map (pD nm))) 0 (by omega) [] [] (by simp) (by simp) none;rw[fd]at lp;obtain⟨g1,hg1⟩ :∃g1 :HI,gh h (pD nm w) (r.map (pD nm)) =h ++ g1 :=⟨_,rfl⟩
 have BC :=AI h (pD nm w) (r.map (pD nm));have p0 :=MM h (pD nm w) (r.map (pD nm));have pat :=fun k (p :List Str) =>KQ h (pD nm w) (rs :=r.map (pD nm)) (k :=k) (p :=p)
 rw[hg1]at BC p0 pat lp;rw[List.length_map, ← u0 h.length w r]at BC;have cp :=pP (te :=mJ) (i :=0) (n :=h.length+1) (fun p :Nat×Pt =>Dt.ref p.1) (fun p =>gF p.2) (kN h.length w r) [none,some d] (h ++ g1) BC (by simp only[kN,Zd,List.length_map,List.length_range]at l8 ⊢;exact Nat.lt_of_le_of_lt l8 (by decide)) (by
  intro p hp';have hq :eJ nm p.2 ∧ uA (h ++ g1) (.ref p.1) =some ((pD nm p.2).map Dt.str) :=by
   simp only[kN,List.mem_cons,List.mem_map,List.mem_range]at hp';rcases hp' with rfl | ⟨j,hj,rfl⟩
   · exact⟨hp w (by simp),by simp only[uA,p0];rfl⟩
   · have e :r[j]? =some (r.getD j w) :=by simp[hj]
     refine⟨hp _ (by simp[hj]),?_⟩;have :=pat j (pD nm (r.getD j w)) (by rw[List.getElem?_map,e];rfl);simp only[uA,this];rfl
  have e :=J4 ok hq.1 hq.2 (hd g1);simp only[mJ,YA,KA,HA,jA,zc,Xd,Yd,kA,iA,Wc,e])
 rw[B0]at cp;refine⟨g1 ++ [.lst ((w ::r).map gF)],?_⟩;have e0 :(h ++ [Ob.lst []]) ++ [Ob.lst [.ref h.length]] =gh h [] [] :=by simp[gh,OE,JD]
 have sq :NF (.ref (h.length+1),h ++ g1) =some (.rf (h.length+1),h ++ g1) :=EL BC;have hN :((h ++ g1) ++ [Ob.lst ((w ::r).map gF)])[(h ++ g1).length]? =some (.lst ((w ::r).map gF)) :=by simp
 have fl :oB (.ref (h ++ g1).length) ((h ++ g1) ++ [Ob.lst ((w ::r).map gF)]) =some (.int (((w ::r).map gF).length :Nat),(h ++ g1) ++ [Ob.lst ((w ::r).map gF)]) :=qF hN;rw[List.length_map]at fl;have s1 :1 ≤ sizeLine :=by decide
 have hl :(h ++ [Ob.lst []]).length =h.length+1 :=by simp
 have ap :h ++ (g1 ++ [Ob.lst ((w ::r).map gF)]) =h ++ g1 ++ [Ob.lst ((w ::r).map gF)] :=by rw[List.append_assoc]
 rw[ap];obtain⟨L,hL⟩ :∃L :Nat,L =(w ::r).length :=⟨_,rfl⟩
 rw[← hL]at fl bad;obtain⟨H,hH⟩ :∃H :HI,H =h ++ g1 ++ [Ob.lst ((w ::r).map gF)] :=⟨_,rfl⟩
 rw[← hH]at fl hN ⊢;generalize hX :QF [.lst ((xC ((w ::r).map (pD nm))).map Dt.str),d] h =X;simp only[QF,YK,XA,Zd,jc,if_true,uc (f :=some),yc (f :=some),Nat.reduceAdd,Nat.reduceSub,List.replicate,Jc,Ec,GA,wB,UJ,KA,HA,iA,Nat.zero_le,s1,hl,e0,Ac,zc,FA,WJ,FG,jA,Xd,Yd,kA,nH,BJ,lp,DL,sq,WE,TF,XE,Option.join_some,cp, ← hH,JA,JC,CA,pA,MB,lA,fl,GK,vA]at hX;by_cases l6 :6<L
 · have gt :decide ((6 :Int)<(L :Int)) =true :=decide_eq_true (by omega);rw[gt]at hX;simp only[if_true,iA,BA,lA,ZA,yA]at hX;exact hX.symm
 · have gt :decide ((6 :Int)<(L :Int)) =false :=decide_eq_false (by omega);have inn :pG .non (.ref (h ++ g1).length) H =some (.bl true,H) :=by
    have sl :uA H (.ref (h ++ g1).length) =some ((w ::r).map gF) :=by simp only[uA,hN]
    have ok :dF ((w ::r).map gF) .non =true :=by have :=ZP (w ::r);simp only[dF,KP,MA,Bool.and_self,Bool.true_and,decide_eq_true_eq];omega
    have an :(((w ::r).map gF).any fun x =>bC x .non) =true :=by
     rcases bad with z | ⟨p,hp',z⟩
     · exact absurd z l6
     · rw[List.any_map,List.any_eq_true];refine⟨p,hp',?_⟩;cases p with
       | good w =>cases z
       | bad ws =>rfl
    simp only[pG,sl,Dc,if_pos ok,an]
   rw[gt]at hX;simp only[Xc,if_false,CA,pA,lA,jA,Xd,Yd,kA,iA,inn,vA,if_true,BA,ZA,yA]at hX;exact hX.symm
inductive bE(nm :List Str) :List Str → Prop
 | head {a :Str} {ts :List Str} :a ≠ "ways" → a ≠ "long" → a ≠ "one" → bE nm (a ::ts)
 | ways {ws :List Str} :¬kG nm ws → bE nm ("ways" ::ws)
 | len {ws :List Str} :ws.length≠3 → bE nm ("long" ::ws)
 | num {a x y :Str} :x.length ≤ 1000 → y.length ≤ 1000 → (a∉nm ∨ qE x =false ∨ qE y =false) → bE nm ["long",a,x,y]
 | long {a :Str} {lo hi :Nat} :a∈nm → lo<10000000000000000000 → hi<10000000000000000000 → ¬(lo ≤ hi ∧ hi ≤ 1000000000000000000) → bE nm ["long",a,AA lo,AA hi]
 | one {ps :List Pt} :ps ≠ [] → ps.length ≤ 8 → (∀p∈ps,eJ nm p) → (6<ps.length ∨ ∃p∈ps,vM p =true) → bE nm ("one" ::xC (ps.map (pD nm)))
theorem LX{nm :List Str}(ok :fB nm){ws :List Str}(bad :bE nm ws){d :Dt}{h :HI}(hd :∀g :HI,uA (h ++ g) d =some (nm.map Dt.str)) :
 ∃g,AE [.lst (ws.map Dt.str),d] h =some (.non,h ++ g) :=by
 have hd0 :uA h d =some (nm.map Dt.str) :=by have :=hd [];rwa[Wc]at this
 have sl :∀(l :LI)(h :HI)(a :Dt)(xs :List Dt),l[0]? =some (some (.lst (a ::xs))) → IH (eV 0) (fF (eC (.int 1))) jN l h =some (.lst xs,h) :=by intro l h a xs h0;simp[h0,aR]
 have fin :∀(a :Str) (ts :List Str) (F :fC),(∃g,F [.lst (ts.map Dt.str),d] h =some (.non,h ++ g)) → ((a = "ways" ∧ F =BE) ∨ (a = "long" ∧ F =UD) ∨ (a = "one" ∧ F =QF)) → ∃g,AE [.lst ((a ::ts).map Dt.str),d] h =some (.non,h ++ g) :=by
  intro a ts F ⟨g,e⟩ c;refine⟨g,?_⟩;have g0 :xA (.lst ((a ::ts).map Dt.str)) (.int 0) h =some (.str a,h) :=GD rfl;have s1 :=sl [some (.lst ((a ::ts).map Dt.str)),some d] h _ _ rfl;rcases c with⟨rfl,rfl⟩ | ⟨rfl,rfl⟩ | ⟨rfl,rfl⟩
  · simp only[AE,VF,XA,Zd,jc,if_true,uc (f :=some),yc (f :=some),Nat.reduceAdd,Nat.reduceSub,List.replicate,Jc,Ec,Wc,GA,JA,CA,pA,jA,lA,Xd,Yd,kA,iA,g0,rD,decide_true,vA,bB,FA,BA,YA,KA,HA,s1,e,ZA,yA]
  · have n1 :decide (Str.ofString "long" =Str.ofString "ways") =false :=by decide
    simp only[AE,VF,XA,Zd,jc,if_true,uc (f :=some),yc (f :=some),Nat.reduceAdd,Nat.reduceSub,List.replicate,Jc,Ec,Wc,GA,JA,CA,pA,jA,lA,Xd,Yd,kA,iA,g0,rD,n1,decide_true,vA,Xc,if_false,bB,FA,BA,YA,KA,HA,s1,e,ZA,yA]
  · have n1 :decide (Str.ofString "one" =Str.ofString "ways") =false :=by decide
    have n2 :decide (Str.ofString "one" =Str.ofString "long") =false :=by decide
    simp only[AE,VF,XA,Zd,jc,if_true,uc (f :=some),yc (f :=some),Nat.reduceAdd,Nat.reduceSub,List.replicate,Jc,Ec,Wc,GA,JA,CA,pA,jA,lA,Xd,Yd,kA,iA,g0,rD,n1,n2,decide_true,vA,Xc,if_false,bB,FA,BA,YA,KA,HA,s1,e,ZA,yA]
 cases bad with
 | @head a ts n1 n2 n3 =>refine⟨[],?_⟩;have g0 :xA (.lst ((a ::ts).map Dt.str)) (.int 0) h =some (.str a,h) :=GD rfl;rw[Wc];have n1 :decide (a =Str.ofString "ways") =false :=decide_eq_false n1;have n2 :decide (a =Str.ofString "long") =false :=decide_eq_false n2;have n3 :decide (a =Str.ofString "one") =false :=decide_eq_false n3;simp only[AE,VF,XA,Zd,jc,if_true,uc (f :=some),yc (f :=some),Nat.reduceAdd,Nat.reduceSub,List.replicate,Jc,Ec,Wc,GA,JA,CA,pA,jA,lA,Xd,Yd,kA,iA,g0,rD,n1,n2,n3,vA,Xc,if_false,bB,FA,BA,yA]
 | @ways ws b =>exact fin "ways" ws BE ⟨[],by rw[Wc];exact LR b rfl hd0⟩ (.inl ⟨rfl,rfl⟩)
 | @len ws b =>exact fin "long" ws UD ⟨[],by rw[Wc];exact NX b rfl⟩ (.inr (.inl ⟨rfl,rfl⟩))
 | @num a x y lx ly b =>exact fin "long" [a,x,y] UD ⟨[],by rw[Wc];exact OX lx ly b rfl hd0⟩ (.inr (.inl ⟨rfl,rfl⟩))
 | @long a lo hi ha l1 l2 b =>exact fin "long" [a,AA lo,AA hi] UD ⟨[],by rw[Wc];exact PX ha l1 l2 b rfl hd0⟩ (.inr (.inl ⟨rfl,rfl⟩))
 | @one ps h0 l8 hp b =>obtain⟨g,e⟩ :=uX ok h0 l8 hp b hd;exact fin "one" _ QF ⟨g,e⟩ (.inr (.inr ⟨rfl,rfl⟩))
theorem vY{s :Str}(hl :s.length ≤ 1000)(no :¬Lq s)(h :HI) :dH [.str s] h =some (.bl false,h) :=by
 have e1 :=wL s "abcdefghijklmnopqrstuvwxyz" hl h;have ln :=UL (x :=s) (by omega) h;generalize hX :dH [.str s] h =X;simp only[dH,pL,XA,Zd,jc,if_true,uc,yc,Nat.reduceAdd,Nat.reduceSub,List.replicate,Wc,BA,XJ,jT,MB,jA,lA,Xd,kA,iA,ln,jR,SM.zU]at hX;by_cases a :1 ≤ s.length
 · have a' :decide ((1 :Int) ≤ ((s.length :Nat) :Int)) =true :=decide_eq_true (by omega);by_cases b :s.length ≤ 8
   · have b' :decide (((s.length :Nat) :Int) ≤ 8) =true :=decide_eq_true (by omega);rw[a',b']at hX;simp only[if_true,iA,uI,XJ,YA,KA,HA,jA,lA,Xd,kA,Wc,e1]at hX;cases c :(s.cps.toList.all fun c =>decide (c∈(Str.ofString "abcdefghijklmnopqrstuvwxyz").cps.toList))with
     | false =>rw[c]at hX;simp only[Xc,if_false,iA,yA]at hX;exact hX.symm
     | true =>
      rw[c]at hX;have no :s = "or" :=by
       by_cases z :s = "or"
       · exact z
       · refine absurd ⟨a,b,fun x hx =>?_,z⟩ no;have :=List.all_eq_true.mp c x hx;have :=of_decide_eq_true this;have t :∀x∈(Str.ofString "abcdefghijklmnopqrstuvwxyz").cps.toList,97 ≤ x ∧ x ≤ 122 :=by decide
         exact t x this
      have nf :=OI s "or" h;rw[decide_eq_true no]at nf;simp only[if_true,pA,jA,lA,Xd,kA,iA,nf,Bool.not_true,yA]at hX;exact hX.symm
   · have b' :decide (((s.length :Nat) :Int) ≤ 8) =false :=decide_eq_false (by omega);rw[a',b']at hX;simp only[if_true,iA,uI,Xc,if_false,yA]at hX;exact hX.symm
 · have a' :decide ((1 :Int) ≤ ((s.length :Nat) :Int)) =false :=decide_eq_false (by omega);rw[a']at hX;simp only[Xc,if_false,iA,uI,yA]at hX;exact hX.symm
inductive EF(nm :List Str) :List Str → Prop
 | len {ws :List Str} :ws.length≠2 → EF nm ws
 | head {a :Str} {ts :List Str} :a ≠ "stretch" → EF nm (a ::ts)
 | name {s :Str} :s.length ≤ 1000 → ¬Lq s → EF nm ["stretch",s]
 | twice {s :Str} :Lq s → s∈nm → EF nm ["stretch",s]
 | full {s :Str} :Lq s → 8 ≤ nm.length → EF nm ["stretch",s]
theorem xX{nm ws :List Str}(bad :EF nm ws){d d0 :Dt}{h :HI}(Yq :uA h d0 =some (ws.map Dt.str))(e :uA h d =some (nm.map Dt.str)) :DD [d0,d] h =some (.bl false,h) :=by
 cases bad with
 | @len b =>have fl :=XD Yq;rw[List.length_map]at fl;have c :decide (((ws.length :Nat) :Int) =2) =false :=decide_eq_false (by omega);simp only[DD,RF,XA,Zd,jc,if_true,uc,yc,Nat.reduceAdd,Nat.reduceSub,List.replicate,Wc,GA,JA,JC,CA,pA,MB,jA,lA,Xd,kA,iA,fl,LF,c,Bool.not_false,vA,BA,ZA,yA]
 | head n =>exact BO n Yq
 | @name s hl no =>have g0 :xA d0 (.int 0) h =some (.str "stretch",h) :=GD Yq;have g1 :xA d0 (.int 1) h =some (.str s,h) :=TC Yq (k :=1) rfl;have fl :oB d0 h =some (.int 2,h) :=XD Yq;have en :=vY hl no h;simp only[DD,RF,XA,Zd,jc,if_true,uc,yc,Nat.reduceAdd,Nat.reduceSub,List.replicate,Wc,GA,JA,JC,CA,pA,MB,jA,lA,Xd,Yd,kA,iA,fl,LF,decide_true,Bool.not_true,vA,Xc,if_false,g0,OI,bB,FA,BA,XJ,YA,KA,HA,g1,en,uI,yA]
 | @twice s ok m =>have g0 :xA d0 (.int 0) h =some (.str "stretch",h) :=GD Yq;have g1 :xA d0 (.int 1) h =some (.str s,h) :=TC Yq (k :=1) rfl;have fl :oB d0 h =some (.int 2,h) :=XD Yq;have en :=rP ok h;have n1 :=DE (h :=h) s true (FE e);rw[decide_eq_true m]at n1;simp only[DD,RF,XA,Zd,jc,if_true,uc,yc,Nat.reduceAdd,Nat.reduceSub,List.replicate,Wc,GA,JA,JC,CA,pA,MB,jA,lA,Xd,Yd,kA,iA,fl,LF,decide_true,Bool.not_true,vA,Xc,if_false,g0,OI,bB,FA,BA,XJ,YA,KA,HA,g1,en,uI,n1,yA]
 | @full s ok m =>have g0 :xA d0 (.int 0) h =some (.str "stretch",h) :=GD Yq;have g1 :xA d0 (.int 1) h =some (.str s,h) :=TC Yq (k :=1) rfl;have fl :oB d0 h =some (.int 2,h) :=XD Yq;have fd :=XD e;rw[List.length_map]at fd;have en :=rP ok h;have n1 :=DE (h :=h) s true (FE e);have c :decide (((nm.length :Nat) :Int)<8) =false :=decide_eq_false (by omega);generalize hX :DD [d0,d] h =X;simp only[DD,RF,XA,Zd,jc,if_true,uc,yc,Nat.reduceAdd,Nat.reduceSub,List.replicate,Wc,GA,JA,JC,CA,pA,MB,jA,lA,Xd,Yd,kA,iA,fl,LF,decide_true,Bool.not_true,vA,Xc,if_false,g0,OI,bB,FA,BA,XJ,YA,KA,HA,g1,en,uI,n1,fd,fE,c]at hX;rw[← hX];cases decide (s∈nm)<;>rfl
theorem CZ{B n :Nat}{h :HI}{ps :List (Dt×Ft)}(hp :∀p∈ps,Fq B h p.1 p.2)(e :h[n]? =some (.lst (ps.map Prod.fst)))(hl :ps.length ≤ 1000){d :Dt}{f :Ft}(hx :Fq B h d f)(bad :60 ≤ ps.length ∨ (vB f =true ∧ 6 ≤ (ps.filter fun p =>vB p.2).length)) :xG [.ref n,d] h =some (.bl false,h) :=by
 have g :=NR ps hp e hl;have fl :oB (.ref n) h =some (.int ((ps.map Prod.fst).length :Nat),h) :=qF e;rw[List.length_map]at fl;have i0 :=hx.Nh;by_cases Xf :60 ≤ ps.length
 · have ge :decide ((60 :Int) ≤ (ps.length :Int)) =true :=decide_eq_true (by omega);simp only[xG,gI,XA,Zd,jc,if_true,uc (f :=some),yc (f :=some),Nat.reduceAdd,Nat.reduceSub,List.replicate,Wc,GA,JA,CA,pA,MB,jA,lA,Xd,Yd,kA,iA,fl,FK,ge,vA,BA,ZA,yA]
 · obtain⟨q,z⟩ :vB f =true ∧ 6 ≤ (ps.filter fun p =>vB p.2).length :=by
    rcases bad with y | y
    · exact absurd y Xf
    · exact y
   have ge :decide ((60 :Int) ≤ (ps.length :Int)) =false :=decide_eq_false (by omega);have lt :decide ((((ps.filter fun p =>vB p.2).map fun p =>gJ p.1).length :Int)<6) =false :=decide_eq_false (by rw[List.length_map];omega);have k1 :=GJ f;rw[q]at k1;simp only[xG,gI,XA,Zd,jc,if_true,uc (f :=some),yc (f :=some),Nat.reduceAdd,Nat.reduceSub,List.replicate,Wc,GA,JA,CA,pA,MB,jA,lA,Xd,Yd,kA,iA,fl,FK,ge,vA,Xc,if_false,bB,FA,BA,DM,i0,OI,k1,Bool.not_true,aM,YA,KA,HA,g,ZJ,fE,lt,yA]
theorem NU(x fl :Str)(c :Int)(g :RE)(l :LI)(h :HI) :nN x fl c g l h =FB (g l h) fun r =>(nG c r.1).map fun i => .rt (.thr x fl i) r.2 :=by rfl
noncomputable def Zj(i :Nat)(l :LI)(r :Dt×HI) :Option Rs :=some (match r.1 with
 | .thr x f y => .rt (.thr x f y) r.2
 | d => .nx (l.set i (some d)) r.2)
noncomputable def sN(tab :List Str)(i j :Nat)(l :LI)(q :Dt×HI) :Option Rs :=match q.1 with
 | .thr x f y =>if x∈tab then some (.nx ((l.set i (some (.err x f y))).set j none) q.2)else none
 | _ =>some (.nx l q.2)
theorem TX(ys :List Dt)(nm :List Str)(ok :fB nm)(h :HI)(T :Option Dt) :∀(rest :List Ft)(_ :∀f∈rest,gD nm.length f)(ps :List (Dt×Ft))(_ :ps.length+rest.length ≤ 60)(_ :(ps.filter fun p =>vB p.2).length+(rest.filter vB).length ≤ 6)(e0 :HI)(_ :(h ++ e0)[h.length]? =some (.lst (nm.map Dt.str)))(_ :(h ++ e0)[h.length+1]? =some (.lst (ps.map Prod.fst)))(_ :∀p∈ps,Fq (h.length+2) (h ++ e0) p.1 p.2)(k :Nat)(y3 y4 y5 y6 :Option Dt),
 ∃Xv Yv Zv dw e1 qs,ZC (aE 3 4) HD (XB k (rest.map fun f =>Dt.str (NC nm f)) ++ ys) [T,some (.ref h.length),some (.ref (h.length+1)),y3,y4,y5,y6] (h ++ e0) =ZC (aE 3 4) HD ys [T,some (.ref h.length),some (.ref (h.length+1)),Xv,Yv,Zv,dw] (h ++ e1) ∧
  (h ++ e1)[h.length]? =some (.lst (nm.map Dt.str)) ∧ (h ++ e1)[h.length+1]? =some (.lst ((ps ++ qs).map Prod.fst)) ∧ qs.map Prod.snd =rest ∧ ∀p∈ps ++ qs,Fq (h.length+2) (h ++ e1) p.1 p.2 :=by
 intro rest
 induction rest with
 | nil =>intro _ ps _ _ e0 h1 h2 h3 k y3 y4 y5 y6;exact⟨y3,y4,y5,y6,e0, [],rfl,h1,by rw[Wc];exact h2,rfl,by rw[Wc];exact h3⟩
 | cons f rest ih =>
  intro hf ps hl hg e0 h1 h2 h3 k y3 y4 y5 y6;have of :=hf f (by simp);have l1 :=(Kc h1).1;have l2 :=(Kc h2).1;have grow :∀g :HI,(h ++ e0 ++ g)[h.length]? =some (.lst (nm.map Dt.str)) :=fun g =>by rw[Qc l1];exact h1
  obtain⟨g,x,ef,fx⟩ :=AO ok of (d := .ref h.length) (h :=h ++ e0) (fun g =>by simp only[uA,grow g]);have fx :Fq (h.length+2) (h ++ e0 ++ g) x f :=fx.mono (by omega);have Mw :(h ++ e0 ++ g)[h.length+1]? =some (.lst (ps.map Prod.fst)) :=by rw[Qc l2];exact h2
  have Ik :∀p∈ps,Fq (h.length+2) (h ++ e0 ++ g) p.1 p.2 :=fun p m =>(h3 p m).grow g
  have room :=aS Ik Mw (by simp at hl;omega) fx (by
   intro o;rw[List.filter_cons,if_pos o]at hg;simp only[Zd]at hg;omega)
  have q :=QL h3 h2;obtain⟨s,ts,ew,ns⟩ :=DJ nm f;have tl :=BO ns (h :=h ++ e0) (d := .ref h.length) (d0 := .lst ((UC nm f).map Dt.str)) (ts :=ts) (by rw[ew];rfl);have sp :=MS ok of (h ++ e0);have xn :∀H :HI,lF x .non H =some (.bl false,H) :=by intro H;cases fx<;>rfl
  have ap :=AG (l := [T,some (.ref h.length),some (.ref (h.length+1)),some (.int (k :Nat)),some (.str (NC nm f)),some (.lst ((UC nm f).map Dt.str)),some x]) (h :=h ++ e0 ++ g) (g :=eV 6) (n :=h.length+1) (d :=x) (xs :=ps.map Prod.fst) (ys :=ps.map Prod.fst) (h' :=h ++ e0 ++ g) Mw (by rfl) Mw (by rw[List.length_map];exact Nat.lt_of_le_of_lt (show ps.length ≤ 60 by omega) (by decide));obtain⟨e1,Bw⟩ :∃e1,(h ++ e0 ++ g).set (h.length+1) (.lst (ps.map Prod.fst ++ [x])) =h ++ e1 :=⟨(e0 ++ g).set 1 (.lst (ps.map Prod.fst ++ [x])),by
   rw[List.append_assoc,List.set_append_right _ _ (by omega),show h.length+1-h.length =1 by omega]⟩
  rw[Bw]at ap;have n1 :(h ++ e1)[h.length]? =some (.lst (nm.map Dt.str)) :=by rw[← Bw,List.getElem?_set_ne (by omega)];exact grow g
  have n2 :(h ++ e1)[h.length+1]? =some (.lst ((ps ++ [(x,f)]).map Prod.fst)) :=by rw[← Bw,List.getElem?_set_self (by rw[List.length_append];omega)];simp
  have n3 :∀p∈ps ++ [(x,f)],Fq (h.length+2) (h ++ e1) p.1 p.2 :=by
   intro p m;rw[← Bw];simp only[List.mem_append,List.mem_singleton]at m;rcases m with m | rfl
   · exact(Ik p m).set (by omega) _
   · exact fx.set (by omega) _
  have Ax :Str.ofString " " =spS :=by decide
  have st :HD [T,some (.ref h.length),some (.ref (h.length+1)),some (.int (k :Nat)),some (.str (NC nm f)),y5,y6] (h ++ e0) =some (.nx [T,some (.ref h.length),some (.ref (h.length+1)),some (.int (k :Nat)),some (.str (NC nm f)),some (.lst ((UC nm f).map Dt.str)),some x] (h ++ e1)) :=by
   have tt :(LD (Aq (e2 CD (eV 2) (iC sA))) (Aq (UA DD [] (cA (eV 5) (cA (eV 1) sA))))) [T,some (.ref h.length),some (.ref (h.length+1)),some (.int (k :Nat)),some (.str (NC nm f)),some (.lst ((UC nm f).map Dt.str)),y6] (h ++ e0) =some (false,h ++ e0) :=by simp only[YE,CA,pA,YD,HA,jA,jc,Nat.zero_le,if_true,Xd,Yd,kA,iA,q,vA,YA,KA,Wc,Jc,Ec,tl];cases ps.isEmpty<;>rfl
   simp only[HD,GA,wB,bG,Ax,jA,lA,Xd,Yd,kA,iA,sp,Ac,zc,FA,JA,tt,Xc,if_false,YA,KA,HA,Wc,ef,JC,wH,CA,pA,xn,vA,room,Bool.not_true,bB,aG,zG,ap]
  obtain⟨Xv,Yv,Zv,dw,e2,qs,w,a1,a2,a3,a4⟩ :=ih (fun f m =>hf f (by simp[m])) (ps ++ [(x,f)]) (by simp at hl ⊢;omega) (by
   rw[List.filter_cons]at hg;rw[List.filter_append,List.length_append];by_cases o :vB f =true
   · rw[if_pos o]at hg;simp[o]at hg ⊢;omega
   · rw[if_neg o]at hg;simp[o]at hg ⊢;omega) e1 n1 n2 n3 (k+1) (some (.int (k :Nat))) (some (.str (NC nm f))) (some (.lst ((UC nm f).map Dt.str))) (some x)
  refine⟨Xv,Yv,Zv,dw,e2,(x,f) ::qs,?_,a1,?_,by rw[uc,a3],?_⟩
  · simp only[uc,XB,Jc,ZC,aE,Ac,zc,Dc,st];exact w
  · rw[a2];simp
  · intro p m;exact a4 p (by simpa using m)
structure tK(nm :List Str)(fs :List Ft)(ws :List Str) :Prop where
 st :fs ≠ [] ∨ EF nm ws
 ft :bE nm ws ∨ ∃f,gD nm.length f ∧ ws =UC nm f ∧ (60 ≤ fs.length ∨ (vB f =true ∧ 6 ≤ (fs.filter vB).length))
theorem KZ{nm :List Str}(ok :fB nm){fs :List Ft}{ws :List Str}(bad :tK nm fs ws){H :HI}{a b B :Nat}{ps :List (Dt×Ft)}(ha :H[a]? =some (.lst (nm.map Dt.str)))(hb :H[b]? =some (.lst (ps.map Prod.fst)))(hp :∀p∈ps,Fq B H p.1 p.2)(hs :ps.map Prod.snd =fs)(lf :fs.length ≤ 1000){r :Str}(sp :∀H,rK (.str r) (.str spS,H) =some (.lst (ws.map Dt.str),H)){k :Nat}(hk :k ≤ 1000)(T y5 y6 :Option Dt)(hB :B ≤ H.length) :
 ∃g,HD [T,some (.ref a),some (.ref b),some (.int (k :Nat)),some (.str r),y5,y6] H =some (.rt (.thr "BadText" "row" (.inl (k :Nat))) (H ++ g)) :=by
 have Ax :Str.ofString " " =spS :=by decide
 have q :=QL hp hb;have sn :uA H (.ref a) =some (nm.map Dt.str) :=by simp only[uA,ha]
 have hd :∀g :HI,uA (H ++ g) (.ref a) =some (nm.map Dt.str) :=fun g =>by
  have :(H ++ g)[a]? =some (.lst (nm.map Dt.str)) :=by rw[Qc (Kc ha).1];exact ha
  simp only[uA,this]
 have ev :nG (-1) (.int (k :Nat)) =some (.inl (k :Nat)) :=by
  unfold nG;exact if_pos ⟨rfl,by
   have :((k :Nat) :Int).natAbs =k :=Int.natAbs_natCast k;rw[this];exact Nat.lt_of_le_of_lt hk (by decide)⟩
 have tt :(LD (Aq (e2 CD (eV 2) (iC sA))) (Aq (UA DD [] (cA (eV 5) (cA (eV 1) sA))))) [T,some (.ref a),some (.ref b),some (.int (k :Nat)),some (.str r),some (.lst (ws.map Dt.str)),y6] H =some (false,H) :=by
  simp only[YE,CA,pA,YD,HA,jA,jc,Nat.zero_le,if_true,Xd,Yd,kA,iA,q,vA];rcases bad.st with z | z
  · have :ps.isEmpty =false :=by
     cases ps with
     | nil =>exact absurd hs.symm z
     | cons p ps =>rfl
    rw[this];rfl
  · have tl :=xX z (d0 := .lst (ws.map Dt.str)) (d := .ref a) (h :=H) rfl sn;cases ps.isEmpty with
    | false =>rfl
    | true =>simp only[if_true,YA,KA,HA,jA,Xd,Yd,kA,iA,Wc,tl,vA]
 rcases bad.ft with z | ⟨f,of,rfl,nr⟩
 · obtain⟨g,e⟩ :=LX ok z hd;refine⟨g,?_⟩;have xn :∀H :HI,lF .non .non H =some (.bl true,H) :=fun _ =>rfl
   simp only[HD,GA,wB,bG,Ax,jA,lA,Xd,Yd,kA,iA,sp,Ac,zc,FA,JA,tt,Xc,if_false,YA,KA,HA,Wc,e,JC,CA,pA,xn,vA,if_true,NU,ev,Bc,ZA]
 · obtain⟨g,x,ef,fx⟩ :=AO ok of (d := .ref a) (h :=H) hd;refine⟨g,?_⟩;have fx :Fq B (H ++ g) x f :=fx.mono hB;have xn :∀H :HI,lF x .non H =some (.bl false,H) :=by intro H;cases fx<;>rfl
   have Kf :(H ++ g)[b]? =some (.lst (ps.map Prod.fst)) :=by rw[Qc (Kc hb).1];exact hb
   have pl :ps.length =fs.length :=by rw[← hs,List.length_map]
   have room :=CZ (fun p m =>(hp p m).grow g) Kf (by omega) fx (by
    rcases nr with y | ⟨y1,y2⟩
    · left;omega
    · right
      refine⟨y1,?_⟩;have :fs.filter vB =(ps.filter fun p =>vB p.2).map Prod.snd :=by rw[← hs,List.filter_map];rfl
      rw[this,List.length_map]at y2;exact y2)
   simp only[HD,GA,wB,bG,Ax,jA,lA,Xd,Yd,kA,iA,sp,Ac,zc,FA,JA,tt,Xc,if_false,YA,KA,HA,Wc,ef,JC,wH,CA,pA,xn,vA,room,Bool.not_false,if_true,NU,ev,Bc,ZA]
structure cF(r :Str) :Prop where
 nl :10∉r.cps.toList
 len :r.length ≤ 20000
theorem nY{rows :List Str}(h0 :rows ≠ [])(l :rows.length ≤ 100)(ok :∀r∈rows,cF r)(h :HI) :rK (.str (Str.join iz rows)) (.str iz,h) =some (.lst (rows.map Dt.str),h) :=by
 have hj :=cG (z :=iz) fun t m =>(ok t m).len
 have e1 :rows.length*(20000+iz.length) ≤ 100*20001 :=Nat.mul_le_mul l (by decide);exact xH h0 (fun t m =>(ok t m).nl) (show(Str.join iz rows).length ≤ 16000000 by omega)
theorem wY{nm :List Str}(ok :fB nm){fs :List Ft}(hf :∀f∈fs,gD nm.length f)(hl :fs.length ≤ 60)(hg :(fs.filter vB).length ≤ 6){ws :List Str}(bad :tK nm fs ws){r :Str}(sp :∀H,rK (.str r) (.str spS,H) =some (.lst (ws.map Dt.str),H))(rk :cF r){rest :List Str}(rs :∀r∈rest,cF r)(lr :nm.length+fs.length+rest.length ≤ 99)(h :HI) :
 ∃g,fG [.str (Str.join iz (dB nm fs ++ r ::rest))] h =some (.thr "BadText" "row" (.inl ((nm.length+fs.length+1 :Nat) :Int)),h ++ g) :=by
 have Ud :=ok.len;obtain⟨tx,htx⟩ :∃tx,tx =Str.join iz (dB nm fs ++ r ::rest) :=⟨_,rfl⟩
 rw[← htx];obtain⟨y3,y4,y5,y6,w1⟩ :=TR h (some (.str tx)) (XB (1+nm.length) (fs.map fun f =>Dt.str (NC nm f)) ++ XB (1+nm.length+fs.length) ((r ::rest).map Dt.str)) nm [] (by simpa using ok) 1 none none none none;rw[Ec]at w1;obtain⟨z3,z4,z5,z6,e,qs,w2,a1,a2,a3,a4⟩ :=TX (XB (1+nm.length+fs.length) ((r ::rest).map Dt.str)) nm ok h (some (.str tx)) fs hf [] (by simpa using hl) (by simpa using hg) [.lst (nm.map Dt.str), .lst []] (by simp) (by
  rw[Vc (by omega),show h.length+1-h.length =1 by omega];rfl) (fun p m =>by cases m) (1+nm.length) y3 y4 y5 y6
 rw[Ec]at a2 a4;have l2 :=(Kc a2).1;obtain⟨g,st⟩ :=KZ ok bad a1 a2 a4 a3 (by omega) sp (k :=1+nm.length+fs.length) (by omega) (some (.str tx)) z5 z6 (by omega);have er :XB 1 ((dB nm fs ++ r ::rest).map Dt.str) =XB 1 (nm.map fun s =>Dt.str (pE s)) ++ (XB (1+nm.length) (fs.map fun f =>Dt.str (NC nm f)) ++ XB (1+nm.length+fs.length) ((r ::rest).map Dt.str)) :=by unfold dB;rw[List.map_append,fL,List.map_append,List.map_map,List.map_map,fL,List.length_append,List.length_map,List.length_map,List.append_assoc, ← Nat.add_assoc];rfl
 have w3 :ZC (aE 3 4) HD (XB (1+nm.length+fs.length) ((r ::rest).map Dt.str)) [some (.str tx),some (.ref h.length),some (.ref (h.length+1)),z3,z4,z5,z6] (h ++ e) =some (.rt (.thr "BadText" "row" (.inl ((1+nm.length+fs.length :Nat) :Int))) (h ++ e ++ g)) :=by simp only[uc,XB,ZC,aE,Ac,zc,Dc,st,o9]
 have wk :=w1;rw[← er,w2,w3]at wk;refine⟨e ++ g,?_⟩;have ak :Str.ofString "\n" =iz :=by decide
 have spl :=nY (rows :=dB nm fs ++ r ::rest) (by simp) (by
  unfold dB;simp only[List.length_append,List.length_map,Zd];omega) (fun t m =>by
  rcases List.mem_append.mp m with z | z
  · have :=ZL ok hf t z;exact⟨this.2,by omega⟩
  · rcases List.mem_cons.mp z with y | y
    · rw[y];exact rk
    · exact rs t y)
 rw[← htx]at spl;have it :∀(l :LI)(H :HI),l[0]? =some (some (.str tx)) → BI (aF (eV 0) (eC (.str "\n"))) l H =some (.vals (XB 1 ((dB nm fs ++ r ::rest).map Dt.str)),H) :=by
  intro l H h0;have :aF (eV 0) (eC (.str "\n")) l H =some (.lst ((dB nm fs ++ r ::rest).map Dt.str),H) :=by simp only[bG,jA,h0,kA,iA,lA,ak,spl]
  simp only[BI,this,Dc]
 have h2 :(h ++ [Ob.lst []]) ++ [Ob.lst []] =h ++ [.lst (([] :List Str).map Dt.str), .lst []] :=by simp
 have hl1 :(h ++ [Ob.lst []]).length =h.length+1 :=by simp
 have en :((1+nm.length+fs.length :Nat) :Int) =((nm.length+fs.length+1 :Nat) :Int) :=by omega
 rw[en,List.append_assoc]at wk;simp only[fG,OL,XA,Zd,jc,if_true,uc (f :=some),yc (f :=some),Nat.reduceAdd,Nat.reduceSub,List.replicate,Jc,Ec,GA,wB,UJ,HA,iA,Nat.zero_le,Ac,zc,FA,hl1,h2,WJ,it,Xd,BJ,wk,ZA,yA]
theorem RD(z x :Str){ys :List Str}(h :ys ≠ []) :Str.join z (x ::ys) =x ++ z ++ Str.join z ys :=by
 cases ys with
 | nil =>exact absurd rfl h
 | cons y r =>rfl
theorem GP(z :Str){ys :List Str}(h :ys ≠ []) :∀(xs :List Str),xs ≠ [] → Str.join z (xs ++ ys) =Str.join z xs ++ z ++ Str.join z ys
 | [],n =>absurd rfl n
 | [x],_ =>RD z x h
 | x ::y ::r,_ =>by have ih :=GP z h (y ::r) (by simp);rw[Jc,RD z x (by simp),RD z x (ys :=y ::r) (by simp),ih];simp only[Str.append_assoc]
theorem tQ :∀(x :List Str)(r :List (List Str)),x ≠ [] → xC (x ::r) ≠ []
 | x, [],h =>h
 | x,y ::r,h =>by simp[xC]
theorem RP :∀(r :List (List Str)) (x :List Str),(∀p∈x ::r,p ≠ []) → Str.join (Str.ofString " or ") ((x ::r).map (Str.join spS)) =Str.join spS (xC (x ::r))
 | [],x,_ =>rfl
 | y ::r,x,h =>by
  have ih :=RP r y fun p m =>h p (List.mem_cons_of_mem _ m)
  have n1 :=tQ y r (h y (by simp));have eo :Str.ofString " or " =spS ++ Str.ofString "or" ++ spS :=by decide
  rw[uc,RD _ _ (by simp),ih];show _ =Str.join spS (x ++ (Str.ofString "or") ::xC (y ::r));rw[GP spS (by simp) x (h x (by simp)),RD spS (Str.ofString "or") n1,eo];simp only[Str.append_assoc]
theorem JY{n :Nat}(h :n ≤ 1000000000000000000) :(n :Int).natAbs.log2<1920 :=by
 rw[Int.natAbs_natCast];by_cases z :n =0
 · subst z;decide
 · exact(Nat.log2_lt z).mpr (Nat.lt_of_le_of_lt h (by decide))
theorem TU{n :Nat}(h :n ≤ 1000000000000000000)(H :HI) :BD (.int (n :Nat)) H =some (.str (AA n),H) :=by simp only[BD];rw[if_pos (JY h)];rfl
theorem PV{h :HI}(a c :Dt)(bs :List Dt)(hb :bs.length ≤ 1000) :pC (.lst [a]) (.lst bs) h =some (.lst (a ::bs),h) ∧ pC (.lst (a ::bs)) (.lst [c]) h =some (.lst (a ::(bs ++ [c])),h) :=by
 constructor
 · simp only[pC,uA,Dc];rw[if_pos (by simp only[Zd,jc];exact Nat.le_trans (show 0+1+bs.length ≤ 1001 by omega) (by decide))];rfl
 · simp only[pC,uA,Dc];rw[if_pos (by simp only[Zd,jc];exact Nat.le_trans (show bs.length+1+(0+1) ≤ 1002 by omega) (by decide))];rfl
theorem b5{nm :List Str}(ok :fB nm){w :Wy}(hw :rG nm.length w) :JoinOk spS (wW nm w) =true :=by have l :=vF nm w;have e1 :(wW nm w).length*19 ≤ 15*19 :=Nat.mul_le_mul l (by decide);have e2 :(wW nm w).length*spS.length ≤ 15*1 :=Nat.mul_le_mul l (by decide);exact cH (fun t m =>(BH ok hw t m).len) (by omega)
theorem aT(h :HI) :uJ [] h =some (.lst (Qq.map Dt.str),h) :=by
 have et :Str.ofString "ahead joins laps closedby holds opens same openedby within closes lappedby joinedby behind" =Str.join spS Qq :=by decide +kernel
 have sp :=xH (h :=h) (c :=32) (ts :=Qq) (by decide) (by decide +kernel) (by decide +kernel);have Ax :Str.ofString " " =spS :=by decide
 simp only[uJ,aO,XA,jc,if_true,yc,Nat.reduceSub,List.replicate,Ec,GA,wB,lA,iA,zc,FA,BA,bG,jA,Xd,kA,et,Ax,sp,yA]
theorem dL{nm :List Str}(ok :fB nm){w :Wy}(hw :rG nm.length w){d :Dt}{h :HI}(e :uA h d =some (nm.map Dt.str)) :vG [d,VA w] h =some (.str (Str.join spS (wW nm w)),h) :=by
 obtain⟨i,m,j⟩ :=w;have i1 :xA (VA (i,m,j)) (.int 1) h =some (.int (i :Nat),h) :=rfl;have i2 :xA (VA (i,m,j)) (.int 2) h =some (.int (m :Nat),h) :=rfl;have i3 :xA (VA (i,m,j)) (.int 3) h =some (.int (j :Nat),h) :=rfl;have g1 :xA d (.int (i :Nat)) h =some (.str (EB nm i),h) :=TC e (by rw[List.getElem?_map,List.getElem?_eq_getElem hw.i,sE hw.i];rfl);have g3 :xA d (.int (j :Nat)) h =some (.str (EB nm j),h) :=TC e (by rw[List.getElem?_map,List.getElem?_eq_getElem hw.j,sE hw.j];rfl);have c :=PV (h :=h) (.str (EB nm i)) (.str (EB nm j)) ((kB m).map Dt.str) (by rw[List.length_map];have :=xP m;omega);have ew :Dt.str (EB nm i) ::((kB m).map Dt.str ++ [Dt.str (EB nm j)]) =(wW nm (i,m,j)).map Dt.str :=by simp[wW]
 rw[ew]at c;have jk :=uF (h :=h) (d := .lst ((wW nm (i,m,j)).map Dt.str)) (ts :=wW nm (i,m,j)) rfl (b5 ok hw);have ec :=mI (te :=BN) (tc :=CN) (i :=0) (fun(k :Nat) =>Dt.int (k :Int)) m.testBit (fun(k :Nat) =>Dt.str (wS k)) h (List.range 13) [none,some (VA (i,m,j)),some (.lst (Qq.map Dt.str))] fun k hk =>⟨by
  simp[CN,i2,iV,xU],fun _ =>by
  have hk :=List.mem_range.mp hk;have :(Qq.map Dt.str)[k]? =some (.str (wS k)) :=bU ▸ nL hk;simp[BN,SM.sF];have q :∀k<13,Qq[k]? =some (wS k) :=by decide
  rw[q k hk]⟩
 have Dk :((List.range 13).filter m.testBit).map (fun(k :Nat) =>Dt.str (wS k)) =(kB m).map Dt.str :=by unfold kB;rw[List.map_map];rfl
 rw[Dk]at ec;have Ax :Str.ofString " " =spS :=by decide
 have s1 :1 ≤ sizeLine :=by decide
 simp only[vG,LN,XA,Zd,jc,if_true,uc (f :=some),yc,Nat.reduceAdd,Nat.reduceSub,List.replicate,Jc,Ec,Wc,GA,wB,iT,aT,iA,zc,Ac,FA,fH,BM,lA,kR,WE,TF,XE,Option.join_some,Xd,Yd,VD _ _ _ (eR _),ec,BA,kE,Ax,pA,YD,KA,HA,jA,kA,i1,i2,i3,g1,g3,s1,c.1,c.2,jk,yA]
theorem xQ{nm :List Str}(ok :fB nm){w :Wy}(hw :rG nm.length w) :(Str.join spS (wW nm w)).length ≤ 300 :=by
 have l :=vF nm w;have h1 :=cG (z :=spS) fun t m =>(BH ok hw t m).len
 have h3 :(wW nm w).length*(19+spS.length) ≤ 15*20 :=Nat.mul_le_mul l (by decide);omega
theorem w5 (nm :List Str) (w :Wy) :Str.ofString "ways " ++ Str.join spS (wW nm w) =NC nm (.way w) :=by
 have e :Str.ofString "ways " =Str.ofString "ways" ++ spS :=by decide
 rw[e];rfl
theorem N5 {nm :List Str} {ws :List Wy} (h :1 ≤ ws.length) :Str.ofString "one " ++ Str.join (Str.ofString " or ") (ws.map fun w =>Str.join spS (wW nm w)) =NC nm (.one ws) :=by
 cases ws with
 | nil =>simp at h
 | cons w r =>
  have e :Str.ofString "one " =Str.ofString "one" ++ spS :=by decide
  have n :∀p∈wW nm w ::r.map (wW nm),p ≠ [] :=by intro p hp;rw[← uc]at hp;obtain⟨v,_,rfl⟩ :=List.mem_map.mp hp;simp[wW]
  have j :=RP (r.map (wW nm)) (wW nm w) n;rw[← uc,List.map_map]at j;have j2 :Str.join (Str.ofString " or ") ((w ::r).map fun w =>Str.join spS (wW nm w)) =Str.join spS (xC ((w ::r).map (wW nm))) :=j;rw[j2,e];show _ =Str.join spS (Str.ofString "one" ::xC ((w ::r).map (wW nm)));have n1 :xC ((w ::r).map (wW nm)) ≠ [] :=by rw[uc];exact tQ _ _ (by simp[wW])
  rw[RD spS _ n1]
theorem X1 {nm :List Str} (ok :fB nm) {ws :List Wy} (hf :gD nm.length (.one ws)) :JoinOk (Str.ofString " or ") (ws.map fun w =>Str.join spS (wW nm w)) =true ∧ (Str.join (Str.ofString " or ") (ws.map fun w =>Str.join spS (wW nm w))).length ≤ 3000 :=by
 have hB :∀t∈ws.map fun w =>Str.join spS (wW nm w),t.length ≤ 300 :=by intro t ht;obtain⟨w,hw,rfl⟩ :=List.mem_map.mp ht;exact xQ ok (hf.2.2 w hw)
 have l :(ws.map fun w =>Str.join spS (wW nm w)).length ≤ 6 :=by rw[List.length_map];exact hf.2.1
 have e1 :(ws.map fun w =>Str.join spS (wW nm w)).length*(300+(Str.ofString " or ").length) ≤ 6*304 :=Nat.mul_le_mul l (by decide);have h1 :=cG (z :=Str.ofString " or ") hB;refine⟨cH hB ?_,by omega⟩;rw[Nat.mul_add]at e1;omega
theorem RX{nm :List Str}(ok :fB nm){f :Ft}(hf :gD nm.length f){d :Dt}{h :HI}(e :uA h d =some (nm.map Dt.str)) :dI [d,DB f] h =some (.str (NC nm f),h) :=by
 cases f with
 | way w =>have i0 :xA (DB (.way w)) (.int 0) h =some (.str "ways",h) :=rfl;have r :=dL ok hf e;have c :=RB (h :=h) (x :=Str.ofString "ways ") (y :=Str.join spS (wW nm w)) (by have :=xQ ok hf;have :(Str.ofString "ways ").length =5 :=(by decide);omega);rw[w5]at c;have r2 :vG [d,DB (.way w)] h =some (.str (Str.join spS (wW nm w)),h) :=r;simp only[dI,kJ,XA,Zd,jc,if_true,uc (f :=some),yc,Nat.reduceAdd,Nat.reduceSub,List.replicate,Wc,GA,JA,CA,pA,jA,lA,Xd,Yd,kA,iA,i0,rD,decide_true,vA,BA,YA,KA,HA,r2,c,ZA,yA]
 | Rq i lo hi =>
  obtain⟨h1,h2,h3⟩ :=hf;have i0 :xA (DB (.Rq i lo hi)) (.int 0) h =some (.str "long",h) :=rfl;have i1 :xA (DB (.Rq i lo hi)) (.int 1) h =some (.int (i :Nat),h) :=rfl;have i2 :xA (DB (.Rq i lo hi)) (.int 2) h =some (.int (lo :Nat),h) :=rfl;have i3 :xA (DB (.Rq i lo hi)) (.int 3) h =some (.int (hi :Nat),h) :=rfl;have g1 :xA d (.int (i :Nat)) h =some (.str (EB nm i),h) :=TC e (by rw[List.getElem?_map,List.getElem?_eq_getElem h1,sE h1];rfl);have n1 :decide (Str.ofString "long" =Str.ofString "ways") =false :=by decide
  have L1 :=(ok.ok _ (vD h1)).hi;have L2 :=lH (Nat.le_trans h2 h3);have L3 :=lH h3;have k1 :(Str.ofString "long ").length =5 :=by decide
  have k2 :(Str.ofString " ").length =1 :=by decide
  have c1 :=RB (h :=h) (x :=Str.ofString "long ") (y :=EB nm i) (by omega);have c2 :=RB (h :=h) (x :=Str.ofString "long " ++ EB nm i) (y :=Str.ofString " ") (by rw[Str.length_append];omega);have c3 :=RB (h :=h) (x :=Str.ofString "long " ++ EB nm i ++ Str.ofString " ") (y :=AA lo) (by rw[Str.length_append,Str.length_append];omega);have c4 :=RB (h :=h) (x :=Str.ofString "long " ++ EB nm i ++ Str.ofString " " ++ AA lo) (y :=Str.ofString " ") (by rw[Str.length_append,Str.length_append,Str.length_append];omega);have c5 :=RB (h :=h) (x :=Str.ofString "long " ++ EB nm i ++ Str.ofString " " ++ AA lo ++ Str.ofString " ") (y :=AA hi) (by rw[Str.length_append,Str.length_append,Str.length_append,Str.length_append];omega);have er :Str.ofString "long " ++ EB nm i ++ Str.ofString " " ++ AA lo ++ Str.ofString " " ++ AA hi =NC nm (.Rq i lo hi) :=by
   have e1 :Str.ofString "long " =Str.ofString "long" ++ spS :=by decide
   have Ax :Str.ofString " " =spS :=by decide
   rw[e1,Ax];show _ =Str.ofString "long" ++ spS ++ (EB nm i ++ spS ++ (AA lo ++ spS ++ AA hi));simp only[Str.append_assoc]
  rw[er]at c5;simp only[dI,kJ,XA,Zd,jc,if_true,uc (f :=some),yc,Nat.reduceAdd,Nat.reduceSub,List.replicate,Wc,GA,JA,CA,pA,jA,lA,Xd,Yd,kA,iA,i0,i1,i2,i3,rD,n1,decide_true,vA,Xc,if_false,bB,FA,BA,MB,g1,TU (Nat.le_trans h2 h3),TU h3,c1,c2,c3,c4,c5,ZA,yA]
 | one ws =>
  have i0 :xA (DB (.one ws)) (.int 0) h =some (.str "one",h) :=rfl;have i1 :xA (DB (.one ws)) (.int 1) h =some (.lst (ws.map VA),h) :=rfl;have n1 :decide (Str.ofString "one" =Str.ofString "ways") =false :=by decide
  have n2 :decide (Str.ofString "one" =Str.ofString "long") =false :=by decide
  have ec :=UF (te :=AN) (tc :=rC) (i :=0) VA (fun w =>Dt.str (Str.join spS (wW nm w))) h ws [none,some d] fun w hw =>⟨rfl,by
   have r :=dL ok (hf.2.2 w hw) e;simp only[AN,YA,KA,HA,jA,zc,Xd,Yd,kA,iA,Wc,r]⟩
  have hs :(ws.map VA).length<sizeLine :=by rw[List.length_map];exact Nat.lt_of_le_of_lt hf.2.1 (by decide)
  have oj :=X1 ok hf;have em :(ws.map fun w =>Dt.str (Str.join spS (wW nm w))) =(ws.map fun w =>Str.join spS (wW nm w)).map Dt.str :=by rw[List.map_map];rfl
  have jk :=uF (h :=h) (z :=Str.ofString " or ") (d := .lst ((ws.map fun w =>Str.join spS (wW nm w)).map Dt.str)) rfl oj.1;rw[em]at ec;have c :=RB (h :=h) (x :=Str.ofString "one ") (y :=Str.join (Str.ofString " or ") (ws.map fun w =>Str.join spS (wW nm w))) (by have :=oj.2;have :(Str.ofString "one ").length =4 :=(by decide);omega);rw[N5 hf.1]at c;simp only[dI,kJ,XA,Zd,jc,if_true,uc (f :=some),yc,Nat.reduceAdd,Nat.reduceSub,List.replicate,Wc,GA,JA,CA,pA,jA,lA,Xd,Yd,kA,iA,i0,i1,rD,n1,n2,vA,Xc,if_false,bB,FA,BA,kE,fH,FG,nH,WE,TF,XE,Option.join_some,VD _ _ _ hs,ec,jk,c,yA]
theorem lQ{c :Nat}(hc :c ≤ 1000)(h :HI) :AV (.int (c :Nat),h) =some (.vals ((List.range c).map fun(k :Nat) =>Dt.int (k :Int)),h) :=by have e :=mT (h :=h) (j :=(c :Int)) (by omega) (by omega);rw[show((c :Int)).toNat =c by omega]at e;exact e
theorem dU (s :Str) :Str.ofString "stretch " ++ s =pE s :=by
 have e :Str.ofString "stretch " =Str.ofString "stretch" ++ spS :=by decide
 rw[e];rfl
theorem gH(n :Int){k :Nat}(hk :k ≤ 1000)(h :HI) :∃M :Nat,M<998244353 ∧ wD [.int n, .int (k :Nat)] h =some (.int (M :Nat),h) :=by
 have m1 :=fun(h :HI) =>uB (h :=h) (i :=n) (j :=1000000007) (by decide)
 have u1 :=fun(h :HI) =>cK (h :=h) (i :=7) (j :=(k :Int)) (Or.inl ⟨by decide,by decide⟩)
 have u2 :=fun(h :HI) =>cK (h :=h) (i :=n%1000000007+7*(k :Int)+1) (j :=48271) (Or.inr ⟨by decide,by decide⟩)
 have m2 :=fun(h :HI) =>uB (h :=h) (i :=(n%1000000007+7*(k :Int)+1)*48271) (j :=2147483647) (by decide)
 generalize hO :(n%1000000007+7*(k :Int)+1)*48271%2147483647 =O at m2;have O0 :0 ≤ O :=by rw[← hO];exact Int.emod_nonneg _ (by decide)
 have O1 :O<2147483647 :=by rw[← hO];exact Int.emod_lt_of_pos _ (by decide)
 have m3 :=fun(h :HI) =>uB (h :=h) (i :=O) (j :=1009) (by decide)
 have u3 :=fun(h :HI) =>cK (h :=h) (i :=O) (j :=O%1009+(k :Int)+3) (Or.inl ⟨by omega,by omega⟩)
 have m4 :=fun(h :HI) =>uB (h :=h) (i :=O*(O%1009+(k :Int)+3)) (j :=998244353) (by decide)
 obtain⟨M,hM⟩ :=Int.eq_ofNat_of_zero_le (Int.emod_nonneg (O*(O%1009+(k :Int)+3)) (show(998244353 :Int)≠0 by decide));have M1 :=Int.emod_lt_of_pos (O*(O%1009+(k :Int)+3)) (show(0 :Int)<998244353 by decide);rw[hM]at m4 M1;refine⟨M,by omega,?_⟩;simp only[wD,iO,XA,Zd,jc,if_true,uc,yc,Nat.reduceAdd,Nat.reduceSub,List.replicate,Jc,Ec,GA,wB,pA,jA,lA,Xd,Yd,kA,iA,m1,u1,dD,u2,m2,Ac,zc,FA,BA,m3,u3,m4,yA]
theorem G4(N :Nat){c :Nat}(h2 :2 ≤ c)(h8 :c ≤ 8)(h :HI) :∃i j :Nat,i<c ∧ j<c ∧ i≠j ∧ UK [.int (N :Nat), .int (c :Nat)] h =some (.tup [.int (i :Nat), .int (j :Nat)],h) :=by
 have m1 :=fun(h :HI) =>uB (h :=h) (i :=(N :Int)) (j :=(c :Int)) (by omega)
 have d1 :=fun(h :HI) =>eD (h :=h) (i :=(N :Int)) (j :=(c :Int)) ⟨by omega,by omega⟩
 have m2 :=fun(h :HI) =>uB (h :=h) (i :=(N :Int)/(c :Int)) (j :=(c :Int)-1) (by omega)
 obtain⟨t,ht⟩ :=Int.eq_ofNat_of_zero_le (Int.emod_nonneg ((N :Int)/(c :Int)) (show(c :Int)-1≠0 by omega));have t1 :=Int.emod_lt_of_pos ((N :Int)/(c :Int)) (show(0 :Int)<(c :Int)-1 by omega);rw[ht]at m2 t1;have i1 :N%c<c :=Nat.mod_lt _ (by omega);have e1 :(N :Int)%(c :Int) =((N%c :Nat) :Int) :=rfl;rw[e1]at m1;have m3 :=fun(h :HI) =>uB (h :=h) (i :=((N%c :Nat) :Int)+1+(t :Int)) (j :=(c :Int)) (by omega)
 have e2 :(((N%c :Nat) :Int)+1+(t :Int))%(c :Int) =(((N%c+1+t)%c :Nat) :Int) :=rfl;rw[e2]at m3;refine⟨N%c,(N%c+1+t)%c,i1,Nat.mod_lt _ (by omega),?_,?_⟩
 · generalize N%c =a at *;have :t<c-1 :=by omega
   by_cases q :a+1+t<c
   · rw[Nat.mod_eq_of_lt q];omega
   · rw[Nat.mod_eq_sub_mod (by omega),Nat.mod_eq_of_lt (by omega)];omega
 · have s2 :2 ≤ sizeLine :=by decide
   simp only[UK,SN,XA,Zd,jc,if_true,uc,yc,Nat.reduceAdd,Nat.reduceSub,List.replicate,Jc,Ec,GA,wB,pA,jA,lA,Xd,Yd,kA,iA,m1,Ac,zc,FA,BA,ND,KA,HA,dD,d1,zM,m2,m3,s2,yA]
theorem V1{k :Nat}(h :k<13) :0<2^k ∧ 2^k<8192 :=⟨Nat.pow_pos (by decide),Nat.lt_of_lt_of_le (Nat.pow_lt_pow_right (by decide) h) (by decide)⟩
theorem yS(N :Nat){c :Nat}(h2 :2 ≤ c)(h8 :c ≤ 8)(h :HI) :∃w :Wy,rG c w ∧ ZG [.int (N :Nat), .int (c :Nat)] h =some (VA w,h) :=by
 obtain⟨i,j,hi,hj,ij,ep⟩ :=G4 N h2 h8 h;obtain⟨M3,b3,e3⟩ :=gH (N :Int) (k :=3) (by decide) h;obtain⟨M4,b4,e4⟩ :=gH (N :Int) (k :=4) (by decide) h;have m1 :=fun(h :HI) =>uB (h :=h) (i :=(M3 :Int)) (j :=8191) (by decide)
 have m2 :=fun(h :HI) =>uB (h :=h) (i :=(N :Int)) (j :=5) (by decide)
 have m3 :=fun(h :HI) =>uB (h :=h) (i :=(M4 :Int)) (j :=13) (by decide)
 have k13 :M4%13<13 :=Nat.mod_lt _ (by decide);have sh :=fun(h :HI) =>hV (h :=h) (YQ k13)
 have c1 :1+(M3 :Int)%8191 =((1+M3%8191 :Nat) :Int) :=by omega
 have c3 :(M4 :Int)%13 =((M4%13 :Nat) :Int) :=by omega
 rw[c3]at m3;have e3' :wD [.int (N :Nat), .int 3] h =some (.int (M3 :Nat),h) :=e3;have e4' :wD [.int (N :Nat), .int 4] h =some (.int (M4 :Nat),h) :=e4;have s4 :4 ≤ sizeLine :=by decide
 by_cases q :(N :Int)%5 =1
 · have qt :decide ((N :Int)%5 =1) =true :=decide_eq_true q;have ok :=V1 k13;have cs :(1 :Int)*2^((M4%13 :Nat) :Int).toNat =((2^(M4%13) :Nat) :Int) :=by rw[Int.toNat_natCast];simp
   rw[cs]at sh;refine⟨(i,2^(M4%13),j),⟨hi,hj,ij,ok.1,ok.2⟩,?_⟩;simp only[ZG,TK,XA,Zd,jc,if_true,uc,yc,Nat.reduceAdd,Nat.reduceSub,List.replicate,Jc,Ec,Wc,GA,mV,YA,KA,HA,kT,wB,pA,jA,lA,Xd,Yd,kA,iA,ep,Ac,zc,FA,e3',m1,dD,c1,JA,CA,m2,LB,qt,vA,e4',m3,sh,BA,ND,s4,yA];rfl
 · have qf :decide ((N :Int)%5 =1) =false :=decide_eq_false q;refine⟨(i,1+M3%8191,j),⟨hi,hj,ij,show 0<1+M3%8191 by omega,show 1+M3%8191<8192 by omega⟩,?_⟩;simp only[ZG,TK,XA,Zd,jc,if_true,uc,yc,Nat.reduceAdd,Nat.reduceSub,List.replicate,Jc,Ec,Wc,GA,mV,YA,KA,HA,kT,wB,pA,jA,lA,Xd,Yd,kA,iA,ep,Ac,zc,FA,e3',m1,dD,c1,JA,CA,m2,LB,qf,vA,Xc,if_false,bB,BA,ND,s4,yA];rfl
theorem QX(N :Nat)(i :Nat){c :Nat}(hi :i<c)(h :HI) :∃lo hi' :Nat,gD c (.Rq i lo hi') ∧ XG [.int (N :Nat), .int (i :Nat)] h =some (DB (.Rq i lo hi'),h) :=by
 obtain⟨M,bM,eM⟩ :=gH (N :Int) (k :=7) (by decide) h;have Gw :wD [.int (N :Nat), .int 7] h =some (.int (M :Nat),h) :=eM;have Yk :=fun(h :HI) =>fV (h :=h) (i :=10) (j :=18) ⟨by decide,by decide,by decide⟩
 have Tr :(10 :Int)^(18 :Int).toNat =1000000000000000000 :=by decide
 rw[Tr]at Yk;have u1 :=fun(h :HI) =>cK (h :=h) (i :=(N :Int)) (j :=48271000000019) (Or.inr ⟨by decide,by decide⟩)
 have m1 :=fun(h :HI) =>uB (h :=h) (i :=(N :Int)*48271000000019) (j :=1000000000000000000) (by decide)
 have m3 :=fun(h :HI) =>uB (h :=h) (i :=(N :Int)) (j :=3) (by decide)
 have m4 :=fun(h :HI) =>uB (h :=h) (i :=(N :Int)) (j :=4) (by decide)
 have d3 :=fun(h :HI) =>eD (h :=h) (i :=(N :Int)) (j :=3) ⟨by decide,by decide⟩
 have m9 :=fun(h :HI) =>uB (h :=h) (i :=(N :Int)/3) (j :=9) (by decide)
 have m5 :=fun(h :HI) =>uB (h :=h) (i :=(M :Int)) (j :=5) (by decide)
 have s4 :4 ≤ sizeLine :=by decide
 obtain⟨lo,hlo,el⟩ :∃lo :Nat,lo<1000000000000000000 ∧ (if(N :Int)%3 =0 then(N :Int)/3%9 else(N :Int)*48271000000019%1000000000000000000) =(lo :Int) :=by
  by_cases q :(N :Int)%3 =0
  · rw[if_pos q];exact⟨N/3%9,by omega,by omega⟩
  · rw[if_neg q];obtain⟨lo,e⟩ :=Int.eq_ofNat_of_zero_le (Int.emod_nonneg ((N :Int)*48271000000019) (show(1000000000000000000 :Int)≠0 by decide));have :=Int.emod_lt_of_pos ((N :Int)*48271000000019) (show(0 :Int)<1000000000000000000 by decide);exact⟨lo,by omega,e⟩
 obtain⟨hh,h1,h2,eh⟩ :∃hh :Nat,lo ≤ hh ∧ hh ≤ 1000000000000000000 ∧ (if(N :Int)%4 =1 then(1000000000000000000 :Int)else min 1000000000000000000 ((lo :Int)+(M :Int)%5)) =(hh :Int) :=by
  by_cases q :(N :Int)%4 =1
  · rw[if_pos q];exact⟨1000000000000000000,by omega,by omega,rfl⟩
  · rw[if_neg q];exact⟨min 1000000000000000000 (lo+M%5),by omega,by omega,by omega⟩
 refine⟨lo,hh,⟨hi,h1,h2⟩,?_⟩;by_cases q3 :(N :Int)%3 =0
 · rw[if_pos q3]at el;have t3 :decide ((N :Int)%3 =0) =true :=decide_eq_true q3;simp only[el]at m9;by_cases q4 :(N :Int)%4 =1
   · rw[if_pos q4]at eh;have t4 :decide ((N :Int)%4 =1) =true :=decide_eq_true q4;simp only[XG,bI,XA,Zd,jc,if_true,uc,yc,Nat.reduceAdd,Nat.reduceSub,List.replicate,Jc,Ec,Wc,GA,wB,pA,jA,lA,Xd,Yd,kA,iA,u1,Yk,m1,Ac,zc,FA,JA,CA,m3,LB,t3,vA,d3,m9,Xc,if_false,bB,IK,YA,KA,HA,Gw,m5,dD,nM,Bc,m4,t4,BA,ND,s4,yA];rw[eh];rfl
   · rw[if_neg q4]at eh;have t4 :decide ((N :Int)%4 =1) =false :=decide_eq_false q4;simp only[XG,bI,XA,Zd,jc,if_true,uc,yc,Nat.reduceAdd,Nat.reduceSub,List.replicate,Jc,Ec,Wc,GA,wB,pA,jA,lA,Xd,Yd,kA,iA,u1,Yk,m1,Ac,zc,FA,JA,CA,m3,LB,t3,vA,d3,m9,Xc,if_false,bB,IK,YA,KA,HA,Gw,m5,dD,nM,Bc,m4,t4,BA,ND,s4,yA,eh];rfl
 · rw[if_neg q3]at el;have t3 :decide ((N :Int)%3 =0) =false :=decide_eq_false q3;simp only[el]at m1;by_cases q4 :(N :Int)%4 =1
   · rw[if_pos q4]at eh;have t4 :decide ((N :Int)%4 =1) =true :=decide_eq_true q4;simp only[XG,bI,XA,Zd,jc,if_true,uc,yc,Nat.reduceAdd,Nat.reduceSub,List.replicate,Jc,Ec,Wc,GA,wB,pA,jA,lA,Xd,Yd,kA,iA,u1,Yk,m1,Ac,zc,FA,JA,CA,m3,LB,t3,vA,d3,m9,Xc,if_false,bB,IK,YA,KA,HA,Gw,m5,dD,nM,Bc,m4,t4,BA,ND,s4,yA];rw[eh];rfl
   · rw[if_neg q4]at eh;have t4 :decide ((N :Int)%4 =1) =false :=decide_eq_false q4;simp only[XG,bI,XA,Zd,jc,if_true,uc,yc,Nat.reduceAdd,Nat.reduceSub,List.replicate,Jc,Ec,Wc,GA,wB,pA,jA,lA,Xd,Yd,kA,iA,u1,Yk,m1,Ac,zc,FA,JA,CA,m3,LB,t3,vA,d3,m9,Xc,if_false,bB,IK,YA,KA,HA,Gw,m5,dD,nM,Bc,m4,t4,BA,ND,s4,yA,eh];rfl
theorem bZ(n :Int){c :Nat}(h1 :1 ≤ c)(h8 :c ≤ 8)(g :Nat)(h :HI) :∃f :Ft,gD c f ∧ (vB f =true → g<6) ∧ eI [.int n, .int (c :Nat), .int (g :Nat)] h =some (DB f,h) :=by
 obtain⟨M,bM,eM⟩ :=gH n (k :=1) (by decide) h;have Gw :wD [.int n, .int 1] h =some (.int (M :Nat),h) :=eM;have m5 :=fun(h :HI) =>uB (h :=h) (i :=(M :Int)) (j :=5) (by decide)
 have d5 :=fun(h :HI) =>eD (h :=h) (i :=(M :Int)) (j :=5) ⟨by decide,by decide⟩
 have c5 :(M :Int)/5 =((M/5 :Nat) :Int) :=rfl;rw[c5]at d5;have mc :=fun(h :HI) =>uB (h :=h) (i :=((M/5 :Nat) :Int)) (j :=(c :Int)) (by omega)
 have cc :((M/5 :Nat) :Int)%(c :Int) =((M/5%c :Nat) :Int) :=rfl;rw[cc]at mc;have m6 :=fun(h :HI) =>uB (h :=h) (i :=((M/5 :Nat) :Int)) (j :=6) (by decide)
 have c6 :((M/5 :Nat) :Int)%6 =((M/5%6 :Nat) :Int) :=rfl;rw[c6]at m6;by_cases q1 :(c :Int) =1 ∨ (M :Int)%5 =2
 · obtain⟨lo,hi,ok,e⟩ :=QX (M/5) (M/5%c) (c :=c) (Nat.mod_lt _ (by omega)) h;refine⟨.Rq (M/5%c) lo hi,ok,(fun z =>by cases z),?_⟩;have tt :(VC (Aq (e2 QA (eV 1) (eC (.int 1)))) (Aq (e2 QA (e2 WA (eV 3) (eC (.int 5))) (eC (.int 2))))) [some (.int n),some (.int (c :Nat)),some (.int (g :Nat)),some (.int (M :Nat))] h =some (true,h) :=by
    simp only[JC,CA,pA,jA,lA,Xd,Yd,kA,iA,LB,vA,m5];by_cases z :(c :Int) =1
    · rw[decide_eq_true z];rfl
    · rw[decide_eq_false z,decide_eq_true (q1.resolve_left z)];rfl
   simp only[eI,lJ,XA,Zd,jc,if_true,uc,yc,Nat.reduceAdd,Nat.reduceSub,List.replicate,Jc,Ec,Wc,GA,wB,YA,KA,HA,jA,lA,Xd,Yd,kA,iA,Gw,Ac,zc,FA,JA,tt,BA,pA,d5,mc,e,ZA,yA]
 · have z1 :¬(c :Int) =1 :=fun z =>q1 (.inl z)
   have z2 :¬(M :Int)%5 =2 :=fun z =>q1 (.inr z)
   have c2 :2 ≤ c :=by omega
   have f1 :=decide_eq_false z1;have f2 :=decide_eq_false z2;by_cases q2 :(M :Int)%5 =3 ∧ (g :Int)<6
   · have t3 :=decide_eq_true q2.1;have t4 :=decide_eq_true q2.2;have hw :∀k :Nat,k<1+M/5%6 → ∃w :Wy,rG c w ∧ pJ [some (.int (k :Nat)),some (.int n),some (.int (c :Nat))] h =some (VA w,h) :=by intro k hk;obtain⟨M2,_,e2⟩ :=gH n (k :=10+k) (by omega) h;obtain⟨w,ow,ew⟩ :=yS M2 c2 h8 h;refine⟨w,ow,?_⟩;have e2' :wD [.int n, .int (10+(k :Int))] h =some (.int (M2 :Nat),h) :=e2;simp only[pJ,YA,KA,HA,pA,jA,lA,Xd,Yd,kA,iA,dD,Wc,e2',ew]
     obtain⟨W,hW⟩ :∃W :Nat → Wy,∀k<1+M/5%6,rG c (W k) ∧ pJ [some (.int (k :Nat)),some (.int n),some (.int (c :Nat))] h =some (VA (W k),h) :=by refine⟨fun k =>if z :k<1+M/5%6 then(hw k z).choose else(0,0,0),fun k hk =>?_⟩;dsimp only;rw[dif_pos hk];exact(hw k hk).choose_spec
     have ec :=UF (te :=pJ) (tc :=rC) (i :=0) (fun(k :Nat) =>Dt.int (k :Int)) (fun k =>VA (W k)) h (List.range (1+M/5%6)) [none,some (.int n),some (.int (c :Nat))] fun k hk =>⟨rfl,(hW k (List.mem_range.mp hk)).2⟩
     have hs :((List.range (1+M/5%6)).map fun(k :Nat) =>Dt.int (k :Int)).length<sizeLine :=by rw[List.length_map,List.length_range];exact Nat.lt_of_le_of_lt (show 1+M/5%6 ≤ 6 by omega) (by decide)
     have em :(List.range (1+M/5%6)).map (fun k =>VA (W k)) =((List.range (1+M/5%6)).map W).map VA :=by rw[List.map_map];rfl
     rw[em]at ec;refine⟨.one ((List.range (1+M/5%6)).map W),⟨by simp,by simp;omega,fun w hw =>?_⟩,fun _ =>by omega,?_⟩
     · obtain⟨k,hk,rfl⟩ :=List.mem_map.mp hw;exact(hW k (List.mem_range.mp hk)).1
     · have ca :(1 :Int)+((M/5%6 :Nat) :Int) =((1+M/5%6 :Nat) :Int) :=by omega
       have r1 :=lQ (c :=1+M/5%6) (by omega) h;have s2 :2 ≤ sizeLine :=by decide
       simp only[eI,lJ,XA,Zd,jc,if_true,uc (f :=some),yc (f :=some),Nat.reduceAdd,Nat.reduceSub,List.replicate,Jc,Ec,Wc,GA,wB,YA,KA,HA,jA,lA,Xd,Yd,kA,iA,Gw,Ac,zc,FA,JA,JC,YE,CA,pA,LB,f1,f2,m5,vA,Xc,if_false,bB,t3,fE,t4,BA,ND,fH,BM,d5,m6,dD,ca,r1,WE,TF,XE,Option.join_some,VD _ _ _ hs,ec,s2,ZA,yA];rfl
   · obtain⟨w,ow,ew⟩ :=yS (M/5) c2 h8 h;refine⟨.way w,ow,(fun z =>by cases z),?_⟩;have tt :(LD (Aq (e2 QA (e2 WA (eV 3) (eC (.int 5))) (eC (.int 3)))) (Aq (e2 QG (eV 2) (eC (.int 6))))) [some (.int n),some (.int (c :Nat)),some (.int (g :Nat)),some (.int (M :Nat))] h =some (false,h) :=by
      simp only[YE,CA,pA,jA,lA,Xd,Yd,kA,iA,m5,LB,vA,fE];by_cases z :(M :Int)%5 =3
      · rw[decide_eq_true z,decide_eq_false (fun y =>q2 ⟨z,y⟩)];rfl
      · rw[decide_eq_false z];rfl
     have bf :ZG [.int ((M/5 :Nat) :Int), .int (c :Nat)] h =some (DB (.way w),h) :=ew;simp only[eI,lJ,XA,Zd,jc,if_true,uc,yc,Nat.reduceAdd,Nat.reduceSub,List.replicate,Jc,Ec,Wc,GA,wB,YA,KA,HA,jA,lA,Xd,Yd,kA,iA,Gw,Ac,zc,FA,JA,tt,JC,CA,pA,LB,f1,f2,m5,vA,Xc,if_false,bB,BA,d5,bf,yA]
theorem uY(cs :List Int)(hl :cs.length ≤ 60){c :Nat}(h1 :1 ≤ c)(h8 :c ≤ 8)(h :HI) :∃fs :List Ft,fs.length ≤ 60 ∧ (∀f∈fs,gD c f) ∧ (fs.filter vB).length ≤ 6 ∧ WK [.lst (cs.map Dt.int), .int (c :Nat)] h =some (.ref h.length,h ++ [.lst (fs.map DB)]) :=by
 obtain⟨l',h',w,⟨fs,y4,y5,rfl,hk,ok,hg,rfl⟩⟩ :=gQ (i :=4) (body :=DN) Dt.int (fun k l h' =>∃(fs :List Ft)(y4 y5 :Option Dt),l = [some (.lst (cs.map Dt.int)),some (.int (c :Nat)),some (.ref h.length),some (.int ((fs.filter vB).length :Nat)),y4,y5] ∧ fs.length =k ∧ (∀f∈fs,gD c f) ∧ (fs.filter vB).length ≤ 6 ∧ h' =h ++ [.lst (fs.map DB)]) cs 0 (by
  rintro k x hx l h' ⟨fs,y4,y5,rfl,hk,ok,hg,rfl⟩;have kl :k<cs.length :=(Kc hx).1;obtain⟨f,of,og,ef⟩ :=bZ x h1 h8 (fs.filter vB).length (h ++ [.lst (fs.map DB)]);have dh :(h ++ [Ob.lst (fs.map DB)])[h.length]? =some (.lst (fs.map DB)) :=by simp
  have i0 :xA (DB f) (.int 0) (h ++ [.lst (fs.map DB)]) =some (.str (AQ f),h ++ [.lst (fs.map DB)]) :=by cases f<;>rfl
  have k1 :=GJ f;have cnt :((fs.filter vB).length :Int)+(if vB f =true then 1 else 0) =(((fs ++ [f]).filter vB).length :Nat) :=by
   rw[List.filter_append,List.length_append];by_cases z :vB f =true
   · simp[z]
   · simp[z]
  have ap :=AG (l := [some (.lst (cs.map Dt.int)),some (.int (c :Nat)),some (.ref h.length),some (.int (((fs ++ [f]).filter vB).length :Nat)),some (.int x),some (DB f)]) (h :=h ++ [.lst (fs.map DB)]) (g :=eV 5) (n :=h.length) (d :=DB f) (xs :=fs.map DB) (ys :=fs.map DB) (h' :=h ++ [.lst (fs.map DB)]) dh (by rfl) dh (by rw[List.length_map];exact Nat.lt_of_le_of_lt (show fs.length ≤ 60 by omega) (by decide));have es :(h ++ [Ob.lst (fs.map DB)]).set h.length (.lst (fs.map DB ++ [DB f])) =h ++ [.lst ((fs ++ [f]).map DB)] :=by simp
  rw[es]at ap;refine⟨.nx [some (.lst (cs.map Dt.int)),some (.int (c :Nat)),some (.ref h.length),some (.int (((fs ++ [f]).filter vB).length :Nat)),some (.int x),some (DB f)] (h ++ [.lst ((fs ++ [f]).map DB)]),?_,fs ++ [f],_,_,rfl,by simp;omega,?_,?_,rfl⟩
  · simp only[DN,GA,wB,YA,KA,HA,jA,lA,Ac,zc,Xd,Yd,kA,iA,Wc,ef,FA,pA,MB,i0,rD,k1,M7,dD,cnt,aG,zG,ap]
  · intro z m;simp only[List.mem_append,List.mem_singleton]at m;rcases m with m | rfl
    · exact ok z m
    · exact of
  · rw[List.filter_append,List.length_append];by_cases z :vB f =true
    · have :=og z;simp[z];omega
    · simp[z];omega) [some (.lst (cs.map Dt.int)),some (.int (c :Nat)),some (.ref h.length),some (.int 0),none,none] (h ++ [.lst []]) ⟨[],none,none,rfl,rfl,by simp,by simp,by simp⟩
 refine⟨fs,by omega,ok,hg,?_⟩;simp only[WK,ZN,XA,Zd,jc,if_true,uc (f :=some),yc (f :=some),Nat.reduceAdd,Nat.reduceSub,List.replicate,Jc,Ec,GA,wB,UJ,HA,lA,iA,Nat.zero_le,Ac,zc,FA,WJ,FG,jA,Xd,Yd,kA,nH,BJ,w,BA,yA]
theorem PL {i :Nat} (hi :i<26) (h :HI) :xA (.str "abcdefghijklmnopqrstuvwxyz") (.int (i :Nat)) h =some (.str ⟨#[97+i]⟩,h) :=by
 have t :∀i<26,(Str.ofString "abcdefghijklmnopqrstuvwxyz").cps.toList[i]? =some (97+i) :=by decide
 simp only[xA];rw[if_pos (by decide),SM.sF,t i hi];rfl
theorem eY :∀xs :List Nat,Str.join (Str.ofString "") (xs.map fun x =>(⟨#[x]⟩ :Str)) =⟨xs.toArray⟩ :=by
 intro xs;apply UE;have e0 :(Str.ofString "").cps.toList = [] :=by decide
 induction xs with
 | nil =>rfl
 | cons x xs ih =>
  cases xs with
  | nil =>rfl
  | cons y r =>rw[uc,RD _ _ (by simp),ED,ED,e0,ih];simp
noncomputable def Fx(c k :Nat) :Nat :=2+(c+k*(c/7%2))%7
def Lx(c k :Nat) :Nat :=c/14%Fx c k
def yC(c k :Nat) :List Nat :=if c/5%4 =1 then [97+(k+c/20)%26]else((List.replicate (Fx c k) (97+c/98%26)).set (Lx c k) 97).set ((Lx c k+1)%Fx c k) (97+k)
def cD(c k :Nat) :Str :=⟨(yC c k).toArray⟩
theorem II(c k :Nat) :2 ≤ Fx c k ∧ Fx c k ≤ 8 ∧ Lx c k<Fx c k ∧ (Lx c k+1)%Fx c k<Fx c k ∧ Lx c k≠(Lx c k+1)%Fx c k :=by
 have h1 :2 ≤ Fx c k :=by unfold Fx;omega
 have h2 :Fx c k ≤ 8 :=by unfold Fx;omega
 have h3 :Lx c k<Fx c k :=Nat.mod_lt _ (by omega);refine⟨h1,h2,h3,Nat.mod_lt _ (by omega),?_⟩;by_cases q :Lx c k+1<Fx c k
 · rw[Nat.mod_eq_of_lt q];omega
 · rw[show Lx c k+1 =Fx c k by omega,Nat.mod_self];omega
theorem F4(n :Int){c k :Nat}(hc :n%1000003 =(c :Int))(hk :k<8)(h :HI) :∃g,nJ [.int n, .int (k :Nat)] h =some (.str (cD c k),h ++ g) :=by
 have m0 :=fun(h :HI) =>uB (h :=h) (i :=n) (j :=1000003) (by decide)
 rw[hc]at m0;have d5 :=fun(h :HI) =>eD (h :=h) (i :=(c :Int)) (j :=5) ⟨by decide,by decide⟩
 have m4 :=fun(h :HI) =>uB (h :=h) (i :=(c :Int)/5) (j :=4) (by decide)
 have Tf :decide ((k :Int)<26) =true :=decide_eq_true (by omega);by_cases q :c/5%4 =1
 · have qt :decide ((c :Int)/5%4 =1) =true :=decide_eq_true (by omega);have Lr :=fun(h :HI) =>eD (h :=h) (i :=(c :Int)) (j :=20) ⟨by decide,by decide⟩
   have Wt :=fun(h :HI) =>uB (h :=h) (i :=(k :Int)+(c :Int)/20) (j :=26) (by decide)
   have ce :((k :Int)+(c :Int)/20)%26 =(((k+c/20)%26 :Nat) :Int) :=by omega
   rw[ce]at Wt;have ab :=PL (i :=(k+c/20)%26) (Nat.mod_lt _ (by decide)) h;refine⟨[],?_⟩;have en :cD c k =⟨#[97+(k+c/20)%26]⟩ :=by unfold cD yC;rw[if_pos q]
   rw[en,Wc];simp only[nJ,RK,XA,Zd,jc,if_true,uc,yc,Nat.reduceAdd,Nat.reduceSub,List.replicate,Jc,Ec,GA,wB,pA,jA,lA,Xd,Yd,kA,iA,Ac,zc,FA,m0,JA,YE,CA,d5,m4,LB,qt,vA,fE,Tf,BA,Lr,dD,Wt,ab,ZA,yA]
 · have qf :decide ((c :Int)/5%4 =1) =false :=decide_eq_false (by omega);obtain⟨s1,s2,s3,s4,s5⟩ :=II c k;have d7 :=fun(h :HI) =>eD (h :=h) (i :=(c :Int)) (j :=7) ⟨by decide,by decide⟩
   have m2 :=fun(h :HI) =>uB (h :=h) (i :=(c :Int)/7) (j :=2) (by decide)
   have u1 :=fun(h :HI) =>cK (h :=h) (i :=(k :Int)) (j :=(c :Int)/7%2) (Or.inl ⟨by omega,by omega⟩)
   have m7 :=fun(h :HI) =>uB (h :=h) (i :=(c :Int)+(k :Int)*((c :Int)/7%2)) (j :=7) (by decide)
   have es :(2 :Int)+((c :Int)+(k :Int)*((c :Int)/7%2))%7 =((Fx c k :Nat) :Int) :=by unfold Fx;rw[Int.natCast_add];rfl
   have Kr :=fun(h :HI) =>eD (h :=h) (i :=(c :Int)) (j :=14) ⟨by decide,by decide⟩
   have mp :=fun(h :HI) =>uB (h :=h) (i :=(c :Int)/14) (j :=((Fx c k :Nat) :Int)) (by omega)
   have ep :(c :Int)/14%((Fx c k :Nat) :Int) =((Lx c k :Nat) :Int) :=rfl;rw[ep]at mp;have mq :=fun(h :HI) =>uB (h :=h) (i :=((Lx c k :Nat) :Int)+1) (j :=((Fx c k :Nat) :Int)) (by omega)
   have eq :(((Lx c k :Nat) :Int)+1)%((Fx c k :Nat) :Int) =(((Lx c k+1)%Fx c k :Nat) :Int) :=rfl;rw[eq]at mq;have dk :=fun(h :HI) =>eD (h :=h) (i :=(k :Int)) (j :=26) ⟨by decide,by decide⟩
   have mk1 :=fun(h :HI) =>uB (h :=h) (i :=(k :Int)/26) (j :=26) (by decide)
   have ek1 :(k :Int)/26%26 =((0 :Nat) :Int) :=by omega
   rw[ek1]at mk1;have mk2 :=fun(h :HI) =>uB (h :=h) (i :=(k :Int)) (j :=26) (by decide)
   have ek2 :(k :Int)%26 =((k :Nat) :Int) :=by omega
   rw[ek2]at mk2;have Nr :=fun(h :HI) =>eD (h :=h) (i :=(c :Int)) (j :=98) ⟨by decide,by decide⟩
   have Yt :=fun(h :HI) =>uB (h :=h) (i :=(c :Int)/98) (j :=26) (by decide)
   have Ur :(c :Int)/98%26 =((c/98%26 :Nat) :Int) :=rfl;rw[Ur]at Yt;have ec :=UF (te :=VN) (tc :=rC) (i :=0) (fun(k :Nat) =>Dt.int (k :Int)) (fun _ =>Dt.str ⟨#[97+c/98%26]⟩) h (List.range (Fx c k)) [none,some (.int (c :Nat)),some (.str "abcdefghijklmnopqrstuvwxyz")] fun j _ =>⟨rfl,by
    simp only[VN,pA,jA,lA,zc,Xd,Yd,kA,iA,Nr,Yt,PL (Nat.mod_lt _ (by decide))]⟩
   have hs :((List.range (Fx c k)).map fun(k :Nat) =>Dt.int (k :Int)).length<sizeLine :=by rw[List.length_map,List.length_range];exact Nat.lt_of_le_of_lt s2 (by decide)
   have r1 :=lQ (c :=Fx c k) (by omega) h;obtain⟨xs,hxs⟩ :∃xs :List Dt,xs =(List.range (Fx c k)).map fun _ =>Dt.str ⟨#[97+c/98%26]⟩ :=⟨_,rfl⟩
   have ex :xs =(List.replicate (Fx c k) (97+c/98%26)).map fun x =>Dt.str ⟨#[x]⟩ :=by rw[hxs];apply List.ext_getElem (by simp);intro a b1 b2;simp
   rw[← hxs]at ec;have xl :xs.length =Fx c k :=by rw[ex];simp
   have at1 :(h ++ [Ob.lst xs])[h.length]? =some (.lst xs) :=by simp
   have st1 :=fun(l :LI) =>JJ (l :=l) (h :=h ++ [Ob.lst xs]) (n :=h.length) (k :=Lx c k) (v := .str ⟨#[97+0]⟩) at1 (by omega)
   have h2 :(h ++ [Ob.lst xs]).set h.length (.lst (xs.set (Lx c k) (.str ⟨#[97+0]⟩))) =h ++ [.lst (xs.set (Lx c k) (.str ⟨#[97+0]⟩))] :=by simp
   rw[h2]at st1;have at2 :(h ++ [Ob.lst (xs.set (Lx c k) (.str ⟨#[97+0]⟩))])[h.length]? =some (.lst (xs.set (Lx c k) (.str ⟨#[97+0]⟩))) :=by simp
   have st2 :=fun(l :LI) =>JJ (l :=l) (h :=h ++ [Ob.lst (xs.set (Lx c k) (.str ⟨#[97+0]⟩))]) (n :=h.length) (k :=(Lx c k+1)%Fx c k) (v := .str ⟨#[97+k]⟩) at2 (by rw[List.length_set];omega)
   have en :(xs.set (Lx c k) (.str ⟨#[97+0]⟩)).set ((Lx c k+1)%Fx c k) (.str ⟨#[97+k]⟩) =((yC c k).map fun x =>(⟨#[x]⟩ :Str)).map Dt.str :=by unfold yC;rw[if_neg q,ex,List.map_map, ← List.map_set, ← List.map_set];rfl
   have h3 :(h ++ [Ob.lst (xs.set (Lx c k) (.str ⟨#[97+0]⟩))]).set h.length (.lst ((xs.set (Lx c k) (.str ⟨#[97+0]⟩)).set ((Lx c k+1)%Fx c k) (.str ⟨#[97+k]⟩))) =h ++ [.lst (((yC c k).map fun x =>(⟨#[x]⟩ :Str)).map Dt.str)] :=by rw[en];simp
   rw[h3]at st2;have nl :(yC c k).length ≤ 8 :=by unfold yC;rw[if_neg q];simp;exact s2
   have jk :=uF (h :=h ++ [.lst (((yC c k).map fun x =>(⟨#[x]⟩ :Str)).map Dt.str)]) (z :=Str.ofString "") (d := .ref h.length) (ts :=(yC c k).map fun x =>(⟨#[x]⟩ :Str)) (by simp[uA]) (cH (B :=1) (fun t m =>by obtain⟨x,_,rfl⟩ :=List.mem_map.mp m;exact Uc 1) (by
    have :(Str.ofString "").length =0 :=by decide
    rw[this,List.length_map];omega))
   rw[eY]at jk;have jk :QQ (.str (Str.ofString "")) (.ref h.length,h ++ [.lst (((yC c k).map fun x =>(⟨#[x]⟩ :Str)).map Dt.str)]) =some (.str (cD c k),h ++ [.lst (((yC c k).map fun x =>(⟨#[x]⟩ :Str)).map Dt.str)]) :=jk;have Er :=fun(h :HI) =>PL (i :=0) (by decide) h
   have Hr :=fun(h :HI) =>PL (i :=k) (by omega) h
   refine⟨[.lst (((yC c k).map fun x =>(⟨#[x]⟩ :Str)).map Dt.str)],?_⟩;simp only[nJ,RK,XA,Zd,jc,if_true,uc (f :=some),yc (f :=some),Nat.reduceAdd,Nat.reduceSub,List.replicate,Jc,Ec,GA,wB,pA,jA,lA,Xd,Yd,kA,iA,Ac,zc,FA,m0,JA,YE,CA,d5,m4,LB,qf,vA,Xc,if_false,bB,d7,m2,u1,dD,m7,es,Kr,mp,DL,BM,r1,WE,TF,XE,Option.join_some,VD _ _ _ hs,ec,WL,dk,mk1,Er,st1,mk2,Hr,mq,st2,BA,kE,jk,yA]
theorem ZS{α :Type}{te :RE}{i :Nat}(D F :α → Dt)(h0 :HI) :∀(xs :List α)(l :LI)(e :HI),(∀x∈xs,∀e,∃g,te (l.set i (some (D x))) (h0 ++ e) =some (F x,h0 ++ e ++ g)) →
 ∃g,lE (UB i) rC te (xs.map D) l (h0 ++ e) =some (xs.map F,h0 ++ e ++ g)
 | [],_,e,_ =>⟨[],by simp[lE]⟩
 | x ::xs,l,e,H =>by
  obtain⟨g,hx⟩ :=H x (by simp) e;obtain⟨g2,ih⟩ :=ZS D F h0 xs (l.set i (some (D x))) (e ++ g) (te :=te) (i :=i) (fun y hy e =>by
   rw[List.set_set];exact H y (by simp[hy]) e)
  rw[← List.append_assoc]at ih;refine⟨g ++ g2,?_⟩;simp only[uc,lE,VJ,Dc,lT,hx,if_true,ih];rw[List.append_assoc (h0 ++ e)]
theorem fS(c k :Nat) :(cD c k).length =(yC c k).length :=by simp[cD,Str.length]
theorem pI(c k :Nat) :(cD c k).cps.toList =yC c k :=by simp[cD]
theorem V2{c k x :Nat}(hk :k<8)(h :x∈yC c k) :97 ≤ x ∧ x ≤ 122 :=by
 unfold yC at h;split at h
 · rw[List.mem_singleton.mp h];omega
 · rcases List.mem_or_eq_of_mem_set h with h | rfl
   · rcases List.mem_or_eq_of_mem_set h with h | rfl
     · rw[(List.mem_replicate.mp h).2];omega
     · omega
   · omega
theorem K1(c k :Nat) :1 ≤ (yC c k).length ∧ (yC c k).length ≤ 8 :=by
 obtain⟨s1,s2,_⟩ :=II c k;unfold yC;split
 · simp
 · simp;omega
theorem g8{c k :Nat}(q :¬c/5%4 =1) :97∈yC c k :=by obtain⟨s1,s2,s3,s4,s5⟩ :=II c k;unfold yC;rw[if_neg q];refine List.mem_iff_getElem?.mpr ⟨Lx c k,?_⟩;rw[List.getElem?_set_ne (by omega),List.getElem?_set_self (by simpa using s3)]
theorem tF{c k :Nat}(s :Str)(h1 :97∉s.cps.toList)(h2 :2 ≤ s.cps.toList.length) :cD c k≠s :=by
 intro e;have e :=congrArg (fun s :Str =>s.cps.toList) e;rw[pI]at e;by_cases q :c/5%4 =1
 · have :(yC c k).length =1 :=by unfold yC;rw[if_pos q];rfl
   rw[e]at this;omega
 · exact h1 (e ▸ g8 q)
theorem W2{c k :Nat}(hk :k<8) :Lq (cD c k) :=by have l :=K1 c k;refine⟨by rw[fS];exact l.1,by rw[fS];exact l.2,fun x hx =>?_,tF _ (by decide) (by decide)⟩;rw[pI]at hx;exact V2 hk hx
theorem jY {c k :Nat} (hk :k<8) :cD c k ≠ "ahead" :=by
 intro e;have e :=congrArg (fun s :Str =>s.cps.toList) e;rw[pI,show(Str.ofString "ahead").cps.toList = [97,104,101,97,100] by decide]at e;have el :=congrArg List.length e;unfold yC at e el;by_cases q :c/5%4 =1
 · rw[if_pos q]at el;simp at el
 · rw[if_neg q]at e el;obtain⟨s1,s2,s3,s4,s5⟩ :=II c k;have sz :Fx c k =5 :=by simpa using el
   rw[sz]at e s3;have t :∀p<5,∀b<26,∀k<8,((List.replicate 5 (97+b)).set p 97).set ((p+1)%5) (97+k) ≠ [97,104,101,97,100] :=by decide +kernel
   exact t _ s3 _ (Nat.mod_lt _ (by decide)) k hk e
theorem J1{c k k' :Nat}(hk :k<8)(hk' :k'<8)(e :cD c k =cD c k') :k =k' :=by
 have e :=congrArg (fun s :Str =>s.cps.toList) e;rw[pI,pI]at e;unfold yC at e;by_cases q :c/5%4 =1
 · rw[if_pos q,if_pos q]at e;injection e with e _
   omega
 · rw[if_neg q,if_neg q]at e;have el :=congrArg List.length e;simp only[List.length_set,List.length_replicate]at el;obtain⟨s1,s2,s3,s4,s5⟩ :=II c k;have ep :Lx c k =Lx c k' :=by unfold Lx;rw[el]
   rw[el,ep]at e s4;have e2 :=congrArg (fun l :List Nat =>l[(Lx c k'+1)%Fx c k']?) e;rw[List.getElem?_set_self (by simpa using s4),List.getElem?_set_self (by simpa using s4)]at e2;injection e2 with e2
   omega
def aJ(c n :Nat) :List Str :=(List.range n).map (cD c)
theorem O6{c n :Nat}(hn :n ≤ 8) :fB (aJ c n) :=by
 refine⟨?_,by simp[aJ];exact hn,fun s hs =>?_⟩
 · unfold aJ List.Nodup;rw[List.pairwise_map];refine List.Pairwise.imp_of_mem ?_ List.pairwise_lt_range;intro a b ha hb lt e;have :=J1 (by have :=List.mem_range.mp ha;omega) (by have :=List.mem_range.mp hb;omega) e;omega
 · obtain⟨k,hk,rfl⟩ :=List.mem_map.mp hs;exact W2 (by have :=List.mem_range.mp hk;omega)
theorem uQ(ns :List Int)(k :Nat)(h :HI) :mF [.lst (ns.map Dt.int), .int (k :Int)] h =some (.int (ns[k]?.getD 0),h) :=by
 simp[mF,RN];by_cases hk :k<ns.length
 · simp[hk]
 · simp[hk]
structure Nx(nm :List Str)(fs :List Ft)(r :Str) :Prop where
 ex :∃ws,ws ≠ [] ∧ (∀s∈ws,32∉s.cps.toList ∧ 10∉s.cps.toList) ∧ r =Str.join spS ws ∧ r.length ≤ 20000 ∧ tK nm fs ws
theorem Nx.sp{nm :List Str}{fs :List Ft}{r :Str}(S :Nx nm fs r) :cF r ∧ ∃ws,tK nm fs ws ∧ ∀H,rK (.str r) (.str spS,H) =some (.lst (ws.map Dt.str),H) :=by obtain⟨ws,h0,fr,rfl,hl,bad⟩ :=S.ex;exact⟨⟨jL (by decide) _ fun t m =>(fr t m).2,hl⟩,ws,bad,fun H =>xH h0 (fun t m =>(fr t m).1) (show(Str.join spS ws).length ≤ 16000000 by omega)⟩
theorem V7(ws :List Str)(h :ws ≠ [])(x :Str) :Str.join spS ws ++ spS ++ x =Str.join spS (ws ++ [x]) :=by rw[GP spS (ys := [x]) (by simp) ws h];rfl
theorem CI(x :Str){ws :List Str}(h :ws ≠ []) :x ++ spS ++ Str.join spS ws =Str.join spS (x ::ws) :=(RD spS x h).symm
theorem sT (x :Str) :x ++ Str.ofString "" =x :=UE (by rw[ED,show(Str.ofString "").cps.toList = [] by decide,Wc])
theorem NJ (x :Str) :Str.ofString "" ++ x =x :=UE (by rw[ED,show(Str.ofString "").cps.toList = [] by decide,Ec])
theorem FL(x y z :Str) :x ++ y ++ z =x ++ (y ++ z) :=UE (by simp only[ED,List.append_assoc])
theorem uM {nm :List Str} (ok :fB nm) :("" :Str)∉nm :=fun m =>by have :=(ok.ok _ m).lo;exact absurd this (by decide)
theorem G5 {nm :List Str} (ok :fB nm) :("zzzzzzzzz" :Str)∉nm :=fun m =>by have :=(ok.ok _ m).hi;exact absurd this (by decide)
theorem GO{nm :List Str}{a :Str}{ts :List Str}(h :a∉nm) :¬kG nm (a ::ts) :=by
 rintro⟨a',is,b,m,e,ha,_⟩;injection e with e _
 exact h (e ▸ ha)
theorem JO{nm :List Str}{b :Str}{ts :List Str}(h :b∉nm) :¬kG nm (ts ++ [b]) :=by
 rintro⟨a',is,b',m,e,_,hb,_⟩;rw[← Jc]at e;have :=(List.append_inj' e rfl).2;injection this with e _
 exact h (e ▸ hb)
theorem fO{nm ws :List Str}(h :ws.length<3) :¬kG nm ws :=by rintro⟨a',is,b',m,rfl,_,_,_,m0,m1,rfl⟩;have :=iQ m0 m1;simp only[Zd,List.length_append,jc]at h;omega
theorem QO{nm :List Str}{a b :Str}{is :List Str}(h :∀m,0<m → m<8192 → is≠kB m) :¬kG nm (a ::(is ++ [b])) :=by
 rintro⟨a',is',b',m,e,_,_,_,m0,m1,rfl⟩;injection e with _ e
 exact h m m0 m1 (List.append_inj' e rfl).1
theorem kY{nm :List Str}{a :Str}{is :List Str} :¬kG nm (a ::(is ++ [a])) :=by
 rintro⟨a',is',b',m,e,_,_,ne,_⟩;injection e with e1 e
 have :=(List.append_inj' e rfl).2;injection this with e2 _
 exact ne (e1 ▸ e2)
theorem WS(y :Str) :∀(xs :List (List Str))(x :List Str),xC (xs ++ [x]) ++ [y] =xC (xs ++ [x ++ [y]])
 | [],x =>rfl
 | [a],x =>by simp[xC]
 | a ::b ::r,x =>by have ih :=WS y (b ::r) x;simp only[Jc,xC,List.append_assoc]at ih ⊢;rw[ih]
theorem Y1(y :Str)(x :List Str)(r :List (List Str)) :y ::xC (x ::r) =xC ((y ::x) ::r) :=by cases r<;>rfl
inductive RowW(nm :List Str) :List Str → Prop
 | st {s :Str} :Lq s → RowW nm ["stretch",s]
 | ft {f :Ft} :gD nm.length f → RowW nm (UC nm f)
theorem RowW.wd{nm :List Str}(ok :fB nm){ws :List Str}(h :RowW nm ws) :∀s∈ws,zC s :=by
 cases h with
 | st os =>
  intro s m;simp only[List.mem_cons,List.not_mem_nil,or_false]at m;rcases m with rfl | rfl
  · exact⟨by decide,by decide,by decide⟩
  · exact os.wd
 | ft of =>exact aK ok of
theorem RowW.two {nm :List Str} {ws :List Str} (h :RowW nm ws) :∃a b ts,ws =a ::b ::ts ∧ (a = "stretch" ∨ a = "ways" ∨ a = "long" ∨ a = "one") :=by
 cases h with
 | st os =>exact⟨_,_,_,rfl, .inl rfl⟩
 | @ft f of =>
  cases f with
  | Rq i lo hi =>exact⟨_,_,_,rfl, .inr (.inr (.inl rfl))⟩
  | way w =>exact⟨_,_,_,rfl, .inr (.inl rfl)⟩
  | one ws =>
   obtain⟨l1,_,_⟩ :=of;cases ws with
   | nil =>simp at l1
   | cons w r =>
    cases r with
    | nil =>exact⟨_,_,_,rfl, .inr (.inr (.inr rfl))⟩
    | cons w2 r =>exact⟨_,_,_,rfl, .inr (.inr (.inr rfl))⟩
theorem RowW.len{nm :List Str}(ok :fB nm){ws :List Str}(h :RowW nm ws) :(Str.join spS ws).length ≤ 2000 :=by
 cases h with
 | st os =>exact(sQ os).1
 | ft of =>exact(qM ok of).1
theorem vR{nm :List Str}(ok :fB nm){ws :List Str}(h :RowW nm ws) :∀s∈ws,32∉s.cps.toList ∧ 10∉s.cps.toList :=fun s m =>⟨(h.wd ok s m).sp,(h.wd ok s m).nl⟩
theorem VB(x y :Str) :(x ++ y).length =x.length+y.length :=by have :=congrArg List.length (ED x y);simpa[Str.length]using this
theorem qK :spS.length =1 :=by decide
theorem oG :32∉(Str.ofString "").cps.toList ∧ 10∉(Str.ofString "").cps.toList :=by decide
theorem A3 {nm :List Str} (ok :fB nm) {f :Ft} (of :gD nm.length f) :bE nm (UC nm f ++ [("" :Str)]) :=by
 cases f with
 | Rq i lo hi =>exact .len (by simp)
 | way w =>show bE nm ("ways" ::(wW nm w ++ [("" :Str)]));exact .ways (JO (uM ok))
 | one ws =>
  obtain⟨l1,l6,hw⟩ :=of;rcases List.eq_nil_or_concat ws with rfl | ⟨r,w,rfl⟩
  · simp at l1
  · rw[List.concat_eq_append]at *;show bE nm ("one" ::(xC ((r ++ [w]).map (wW nm)) ++ [("" :Str)]));have e :xC ((r ++ [w]).map (wW nm)) ++ [("" :Str)] =xC ((r.map Pt.good ++ [Pt.bad (wW nm w ++ [("" :Str)])]).map (pD nm)) :=by rw[List.map_append,uc,yc,WS,List.map_append,List.map_map];rfl
    rw[e];refine .one (by simp) (by simp at l6 ⊢;omega) (fun p m =>?_) (.inr ⟨Pt.bad (wW nm w ++ [("" :Str)]),by simp,rfl⟩);rcases List.mem_append.mp m with z | z
    · obtain⟨v,hv,rfl⟩ :=List.mem_map.mp z;exact hw v (by simp[hv])
    · rw[List.mem_singleton.mp z];refine⟨JO (uM ok),by simp,by have :=vF nm w;simp;omega,fun s hs =>?_⟩;rcases List.mem_append.mp hs with y | y
      · exact gK ok (hw w (by simp)) s y
      · rw[List.mem_singleton.mp y];decide
theorem B3 {nm :List Str} (ok :fB nm) {f :Ft} (of :gD nm.length f) {a b :Str} {ts :List Str} (e :UC nm f =a ::b ::ts) :bE nm (a :: "" ::b ::ts) :=by
 cases f with
 | Rq i lo hi =>
  injection e with e1 e
  rw[← e1];exact .len (by rw[← e];simp)
 | way w =>
  injection e with e1 e
  rw[← e1];exact .ways (GO (uM ok))
 | one ws =>
  obtain⟨l1,l6,hw⟩ :=of;cases ws with
  | nil =>simp at l1
  | cons w r =>
   have e :("one" :Str) ::xC ((w ::r).map (wW nm)) =a ::b ::ts :=e;injection e with e1 e
   rw[← e1, ← e];have e2 :("" :Str) ::xC ((w ::r).map (wW nm)) =xC ((Pt.bad ("" ::wW nm w) ::r.map Pt.good).map (pD nm)) :=by rw[uc,Y1,uc,List.map_map];rfl
   rw[e2];refine .one (by simp) (by simp at l6 ⊢;omega) (fun p m =>?_) (.inr ⟨Pt.bad ("" ::wW nm w),by simp,rfl⟩);rcases List.mem_cons.mp m with z | z
   · rw[z];refine⟨GO (uM ok),by simp,by have :=vF nm w;simp;omega,fun s hs =>?_⟩;rcases List.mem_cons.mp hs with y | y
     · rw[y];decide
     · exact gK ok (hw w (by simp)) s y
   · obtain⟨v,hv,rfl⟩ :=List.mem_map.mp z;exact hw v (by simp[hv])
theorem ET {nm :List Str} {f :Ft} {a b :Str} {ts :List Str} (e :UC nm f =a ::b ::ts) :a ≠ "stretch" :=by
 obtain⟨s,ts',e',n⟩ :=DJ nm f;rw[e]at e';injection e' with e' _
 rw[e'];exact n
section
variable{nm :List Str}{fs :List Ft}{ws :List Str}
theorem T4 (ok :fB nm) {Wz :List Str} (h :RowW nm ws) (h0 :∀f,ws =UC nm f → Wz =nm) :Nx Wz fs (Str.join spS ws ++ Str.ofString " ") :=by
 have Ax :Str.ofString " " =spS :=by decide
 obtain⟨a,b,ts,e,_⟩ :=h.two;have wn :ws ≠ [] :=by rw[e];simp
 have l :=h.len ok;have ej :Str.join spS ws ++ Str.ofString " " =Str.join spS (ws ++ [("" :Str)]) :=by rw[← V7 ws wn "",Ax,sT]
 refine⟨⟨ws ++ [("" :Str)],by simp,fun s m =>?_,ej,(by rw[VB,Ax,qK];omega),?_⟩⟩
 · rcases List.mem_append.mp m with z | z
   · exact vR ok h s z
   · rw[List.mem_singleton.mp z];exact oG
 · cases h with
   | st os =>exact⟨.inr (.len (by simp)), .inl (.head (by decide) (by decide) (by decide))⟩
   | @ft f of =>have en :=h0 f rfl;subst en;refine⟨.inr ?_, .inl (A3 ok of)⟩;rw[e];exact .head (ET e)
theorem QZ (ok :fB nm) {Wz :List Str} (h :RowW nm ws) :Nx Wz fs (Str.ofString " " ++ Str.join spS ws) :=by
 have Ax :Str.ofString " " =spS :=by decide
 obtain⟨a,b,ts,e,_⟩ :=h.two;have wn :ws ≠ [] :=by rw[e];simp
 have l :=h.len ok;have ej :Str.ofString " " ++ Str.join spS ws =Str.join spS ("" ::ws) :=by rw[← CI "" wn,Ax,NJ]
 refine⟨⟨"" ::ws,by simp,fun s m =>?_,ej,(by rw[VB,Ax,qK];omega),⟨.inr (.head (by decide)), .inl (.head (by decide) (by decide) (by decide))⟩⟩⟩;rcases List.mem_cons.mp m with z | z
 · rw[z];exact oG
 · exact vR ok h s z
theorem S0 {Wz :List Str} :Nx Wz fs (Str.ofString "") :=
 ⟨⟨[("" :Str)],by simp,fun s m =>by rw[List.mem_singleton.mp m];exact oG,rfl,by decide,⟨.inr (.len (by simp)), .inl (.head (by decide) (by decide) (by decide))⟩⟩⟩
theorem U4 (ok :fB nm) {Wz :List Str} (h :RowW nm ws) (h0 :∀f,ws =UC nm f → Wz =nm) {a b :Str} {ts :List Str} (e :ws =a ::b ::ts) :Nx Wz fs (Str.join spS (a :: "" ::b ::ts)) :=by
 have l :=h.len ok;have e1 :(Str.join spS (a :: "" ::b ::ts)).length =(Str.join spS ws).length+1 :=by
  rw[e, ← CI a (ws := "" ::b ::ts) (by simp), ← CI "" (ws :=b ::ts) (by simp), ← CI a (ws :=b ::ts) (by simp),NJ];simp only[VB];have :spS.length =1 :=by decide
  omega
 refine⟨⟨a :: "" ::b ::ts,by simp,fun s m =>?_,rfl,by omega,?_⟩⟩
 · have w :=vR ok h;rw[e]at w;simp only[List.mem_cons]at m;rcases m with rfl | rfl | m
   · exact w s (by simp)
   · exact oG
   · exact w s (by simp only[List.mem_cons];exact .inr m)
 · cases h with
   | st os =>
    injection e with e1 e
    injection e with e2 e3
    rw[← e1, ← e3];exact⟨.inr (.len (by simp)), .inl (.head (by decide) (by decide) (by decide))⟩
   | @ft f of =>have en :=h0 f rfl;subst en;exact⟨.inr (.head (ET e)), .inl (B3 ok of e)⟩
theorem B9 {a :Str} (k :a = "stretch" ∨ a = "ways" ∨ a = "long" ∨ a = "one") :(Str.ofString "x" ++ a ≠ "stretch" ∧ Str.ofString "x" ++ a ≠ "ways" ∧ Str.ofString "x" ++ a ≠ "long" ∧ Str.ofString "x" ++ a ≠ "one") ∧ 32∉(Str.ofString "x" ++ a).cps.toList ∧ 10∉(Str.ofString "x" ++ a).cps.toList :=by rcases k with rfl | rfl | rfl | rfl<;>decide
theorem A8 (ok :fB nm) {Wz :List Str} (h :RowW nm ws) :Nx Wz fs (Str.ofString "x" ++ Str.join spS ws) :=by
 obtain⟨a,b,ts,e,k⟩ :=h.two;have l :=h.len ok;obtain⟨⟨k1,k2,k3,k4⟩,k5⟩ :=B9 k;have ej :Str.ofString "x" ++ Str.join spS ws =Str.join spS ((Str.ofString "x" ++ a) ::b ::ts) :=by rw[e, ← CI a (ws :=b ::ts) (by simp), ← CI (Str.ofString "x" ++ a) (ws :=b ::ts) (by simp)];simp only[FL]
 refine⟨⟨(Str.ofString "x" ++ a) ::b ::ts,by simp,fun s m =>?_,ej,(by rw[VB,show(Str.ofString "x").length =1 by decide];omega),⟨.inr (.head k1), .inl (.head k2 k3 k4)⟩⟩⟩;rcases List.mem_cons.mp m with z | z
 · rw[z];exact k5
 · exact vR ok h s (by rw[e];exact List.mem_cons_of_mem _ z)
end
theorem wQ(x :Str) :(Txt.upper x).cps.toList =x.cps.toList.flatMap Unicode.upperOf :=by
 show((x.cps.mapIdx fun i c =>(Unicode.upperOf c).toArray).flatten).toList =_;rw[Array.toList_flatten,Array.toList_mapIdx,List.mapIdx_eq_zipIdx_map,List.map_map];rw[List.flatMap_def]
 congr 1
 apply List.ext_getElem (by simp);intro i h1 h2;simp
theorem DU(x y :Str) :Txt.upper (x ++ y) =Txt.upper x ++ Txt.upper y :=UE (by simp only[wQ,ED,List.flatMap_append])
theorem YT :∀ws :List Str,Txt.upper (Str.join spS ws) =Str.join spS (ws.map Txt.upper)
 | [] =>by exact UE (by rw[wQ];rfl)
 | [x] =>rfl
 | x ::y ::r =>by
  have ih :=YT (y ::r);rw[RD spS x (by simp),DU,DU,ih,uc,uc,RD spS (Txt.upper x) (by simp), ← uc]
  congr 2
theorem EU(x :Str) :(Txt.upper x).length ≤ 3*x.length :=StrLaws.placedRaw_le3 x.cps (fun _ c =>Unicode.upperOf c) fun _ c =>StrLaws.upperOf_le3 c
theorem A9 :∀k<75,∀d∈Unicode.upperOf (48+k),d≠32 ∧ d≠10 :=by decide +kernel
noncomputable def jw(s :Str) :Prop :=∀c∈s.cps.toList,48 ≤ c ∧ c ≤ 122
theorem jw.up{s :Str}(h :jw s) :32∉(Txt.upper s).cps.toList ∧ 10∉(Txt.upper s).cps.toList :=by
 have t :∀d∈(Txt.upper s).cps.toList,d≠32 ∧ d≠10 :=by
  intro d hd;rw[wQ]at hd;obtain⟨c,hc,hd⟩ :=List.mem_flatMap.mp hd;have :=h c hc;have e :c =48+(c-48) :=by omega
  rw[e]at hd;exact A9 (c-48) (by omega) d hd
 exact⟨fun m =>(t _ m).1 rfl,fun m =>(t _ m).2 rfl⟩
theorem vL{s :Str}(h :Lq s) :jw s :=fun c m =>by have :=h.Zz c m;omega
theorem tT(n :Nat) :jw (AA n) :=fun c m =>by have :=eG n c m;omega
theorem F5 :∀k<13,∀c∈(wS k).cps.toList,48 ≤ c ∧ c ≤ 122 :=by decide
theorem FU{nm :List Str}(ok :fB nm){w :Wy}(hw :rG nm.length w) :∀s∈wW nm w,jw s :=by
 intro s hs;simp only[wW,List.mem_cons,List.mem_append,List.not_mem_nil,or_false]at hs;rcases hs with rfl | hs | rfl
 · exact vL (ok.ok _ (vD hw.i))
 · unfold kB at hs;obtain⟨k,hk,rfl⟩ :=List.mem_map.mp hs;exact F5 k (Jq.mp hk).1
 · exact vL (ok.ok _ (vD hw.j))
theorem UT :∀(xs :List (List Str))(_ :∀x∈xs,∀s∈x,jw s),∀s∈xC xs,jw s
 | [],_ =>by simp[xC]
 | [x],h =>h x (by simp)
 | x ::y ::r,h =>by
  intro s hs;simp only[xC,List.mem_append,List.mem_cons]at hs;rcases hs with hs | rfl | hs
  · exact h x (by simp) s hs
  · exact(by decide :∀c∈(Str.ofString "or").cps.toList,48 ≤ c ∧ c ≤ 122)
  · exact UT (y ::r) (fun z m =>h z (List.mem_cons_of_mem _ m)) s hs
theorem yL {a :Str} (k :a = "stretch" ∨ a = "ways" ∨ a = "long" ∨ a = "one") :jw a :=by
 rcases k with rfl | rfl | rfl | rfl
 · exact(by decide :∀c∈(Str.ofString "stretch").cps.toList,48 ≤ c ∧ c ≤ 122)
 · exact(by decide :∀c∈(Str.ofString "ways").cps.toList,48 ≤ c ∧ c ≤ 122)
 · exact(by decide :∀c∈(Str.ofString "long").cps.toList,48 ≤ c ∧ c ≤ 122)
 · exact(by decide :∀c∈(Str.ofString "one").cps.toList,48 ≤ c ∧ c ≤ 122)
theorem RowW.asc{nm :List Str}(ok :fB nm){ws :List Str}(h :RowW nm ws) :∀s∈ws,jw s :=by
 cases h with
 | st os =>
  intro s m;simp only[List.mem_cons,List.not_mem_nil,or_false]at m;rcases m with rfl | rfl
  · exact yL (.inl rfl)
  · exact vL os
 | @ft f of =>
  intro s m;cases f with
  | Rq i lo hi =>
   simp only[UC,List.mem_cons,List.not_mem_nil,or_false]at m;rcases m with rfl | rfl | rfl | rfl
   · exact yL (.inr (.inr (.inl rfl)))
   · exact vL (ok.ok _ (vD of.1))
   · exact tT lo
   · exact tT hi
  | way w =>
   rcases List.mem_cons.mp m with rfl | m
   · exact yL (.inr (.inl rfl))
   · exact FU ok of s m
  | one ws =>
   rcases List.mem_cons.mp m with rfl | m
   · exact yL (.inr (.inr (.inr rfl)))
   · exact UT _ (fun x hx =>by
      obtain⟨w,hw,rfl⟩ :=List.mem_map.mp hx;exact FU ok (of.2.2 w hw)) s m
theorem Z4 {a :Str} (k :a = "stretch" ∨ a = "ways" ∨ a = "long" ∨ a = "one") :Txt.upper a ≠ "stretch" ∧ Txt.upper a ≠ "ways" ∧ Txt.upper a ≠ "long" ∧ Txt.upper a ≠ "one" :=by rcases k with rfl | rfl | rfl | rfl<;>decide +kernel
theorem l9{nm Wz :List Str}{fs :List Ft}{ws :List Str}(ok :fB nm)(h :RowW nm ws) :Nx Wz fs (Txt.upper (Str.join spS ws)) :=by
 obtain⟨a,b,ts,e,k⟩ :=h.two;have l :=h.len ok;have ul :=EU (Str.join spS ws);obtain⟨k1,k2,k3,k4⟩ :=Z4 k;refine⟨⟨ws.map Txt.upper,by rw[e];simp,fun s m =>?_,YT ws,by omega,?_⟩⟩
 · obtain⟨t,ht,rfl⟩ :=List.mem_map.mp m;exact(h.asc ok t ht).up
 · rw[e];exact⟨.inr (.head k1), .inl (.head k2 k3 k4)⟩
theorem V4(x :Str) :x.length =x.cps.toList.length :=by simp[Str.length]
theorem P4 {a :Str} (ha :32∉a.cps.toList) {r :List Str} (hr :r ≠ []) :qD (Str.join spS (a ::r)) spS (Str.ofString "  ") =Str.join spS (a :: "" ::r) :=by
 obtain⟨y,hy⟩ :∃y,y =Str.join spS r :=⟨_,rfl⟩
 obtain⟨x,hx⟩ :∃x,x =Str.join spS (a ::r) :=⟨_,rfl⟩
 have ex :x.cps.toList =a.cps.toList ++ 32 ::y.cps.toList :=by rw[hx,RD spS a hr,ED,ED, ← hy,List.append_assoc];rfl
 have at1 :=fun i =>StrLaws.subAt_one x 32 i
 have occ :Builtin.Str.occurrences x spS 0 x.length 1 = [a.cps.toList.length] :=by
  have le :=StrLaws.occ_length_le x spS 0 x.length 1;rcases StrLaws.occ_head x spS 1 (Uc 1)with⟨_,h⟩ | ⟨i,q,e,h1,h2⟩
  · exact absurd ((at1 a.cps.toList.length).mpr (by rw[ex];simp)) (h _)
  · rw[e]at le ⊢;have q0 :q = [] :=by
     cases q with
     | nil =>rfl
     | cons b q =>simp at le
    have e1 :x.cps.toList[i]? =some 32 :=(at1 i).mp h1;have :i =a.cps.toList.length :=by
     rcases Nat.lt_trichotomy i a.cps.toList.length with z | z | z
     · rw[ex,Qc z]at e1;exact absurd (List.mem_of_getElem? e1) ha
     · exact z
     · exact absurd ((at1 a.cps.toList.length).mpr (by rw[ex];simp)) (h2 _ z)
    rw[q0,this]
 rw[← hx];unfold qD;rw[occ,if_neg (by simp;decide)];have er :Str.join spS (a :: "" ::r) =a ++ Str.ofString "  " ++ y :=by
  rw[RD spS a (by simp),RD spS "" hr, ← hy,NJ, ← FL];have :Str.ofString "  " =spS ++ spS :=by decide
  rw[this, ← FL]
 rw[er];apply UE;have xl :x.length =a.cps.toList.length+1+y.cps.toList.length :=by rw[V4,ex];simp;omega
 show(((x.cps.extract 0 a.cps.toList.length) ++ (Str.ofString "  ").cps ++ (x.cps.extract (a.cps.toList.length+1) x.length))).toList =_;rw[ED,ED,Array.toList_append,Array.toList_append,Array.toList_extract,Array.toList_extract,List.extract_eq_drop_take,List.extract_eq_drop_take,ex,xl]
 congr 1
 · congr 1
   simp
 · rw[List.drop_append,show a.cps.toList.length+1-a.cps.toList.length =1 by omega,List.drop_eq_nil_of_le (by omega),show a.cps.toList.length+1+y.cps.toList.length-(a.cps.toList.length+1) =y.cps.toList.length by omega];simp;exact List.take_of_length_le (by simp)
structure OQ(nm :List Str) :Prop where
 ok :fB nm
 wd :∀s∈nm,s∉Qq
 st :("strange" :Str)∉nm
theorem u5{m :Nat}{s :Str}(h :s∈kB m) :∃k<13,s =wS k :=by unfold kB at h;obtain⟨k,hk,rfl⟩ :=List.mem_map.mp h;exact⟨k,(Jq.mp hk).1,rfl⟩
theorem R9 :∀k<13,wS k∈Qq :=by decide
theorem l5{m :Nat}{s :Str}(h :s∈kB m) :s∈Qq :=by obtain⟨k,hk,rfl⟩ :=u5 h;exact R9 k hk
theorem aU(m :Nat) :(sD m).Pairwise (· < ·) :=(List.pairwise_lt_range).sublist (List.filter_sublist)
theorem t5(m :Nat) :(kB m).Nodup :=by unfold kB List.Nodup;rw[List.pairwise_map];refine List.Pairwise.imp_of_mem ?_ (aU m);intro a b ha hb lt e;have :=jM a (Jq.mp ha).1 b (Jq.mp hb).1 e;omega
theorem VZ{m j :Nat}(hj :0<j)(h13 :j<13) :kB m ≠ [wS j,wS 0] :=by
 intro e;unfold kB at e;have p :=aU m;have q :∀k∈sD m,k<13 :=fun k hk =>(Jq.mp hk).1
 match w :sD m with
 | [] =>rw[w]at e;simp at e
 | [x] =>rw[w]at e;simp at e
 | x ::y ::z ::r =>rw[w]at e;simp at e
 | [x,y] =>
  rw[w]at e p q;injection e with e1 e
  injection e with e2 _
  have a1 :=jM x (q x (by simp)) j h13 e1;have a2 :=jM y (q y (by simp)) 0 (by decide) e2;have :=(List.pairwise_cons.mp p).1 y (by simp);omega
structure uK(nm ws :List Str) :Prop where
 no :¬kG nm ws
 ne :ws ≠ []
 len :ws.length ≤ 17
 wd :∀s∈ws,zC s ∧ s ≠ "or"
theorem QH {ws :List Str} (l :ws.length ≤ 17) (ok :∀s∈ws,zC s ∧ s ≠ "or") (h :HI) :QQ (.str spS) (.lst (ws.map Dt.str),h) =some (.str (Str.join spS ws),h) :=by have e1 :ws.length*19 ≤ 17*19 :=Nat.mul_le_mul l (by decide);have e2 :ws.length*spS.length ≤ 17*1 :=Nat.mul_le_mul l (by decide);exact uF rfl (cH (fun t m =>(ok t m).1.len) (by omega))
theorem UI(a :Str)(W :List Str)(x y :Dt)(l :W.length ≤ 100)(h :HI) :pC (.lst [.str a]) (.lst (W.map Dt.str)) h =some (.lst ((a ::W).map Dt.str),h) ∧ pC (.lst ((a ::W).map Dt.str)) (.lst [x]) h =some (.lst ((a ::W).map Dt.str ++ [x]),h) ∧ pC (.lst ((a ::W).map Dt.str)) (.lst [x,y]) h =some (.lst ((a ::W).map Dt.str ++ [x,y]),h) :=by
 have s :(1000 :Nat) ≤ sizeLine :=by decide
 refine⟨FH (by simp only[Zd,jc,List.length_map];omega),FH (by simp only[Zd,jc,List.length_map];omega),FH (by simp only[Zd,jc,List.length_map];omega)⟩
theorem jJ :(∀z ∈ [("Ahead" :Str), "meets", "or2", "ahea", "zzzzzzzzz", "strange"],z.length ≤ 19 ∧ 32∉z.cps.toList ∧ 10∉z.cps.toList ∧ z ≠ "or") ∧ ∀z ∈ [("Ahead" :Str), "meets", "or2", "ahea"],z∉Qq :=by decide
theorem KI {z :Str} (h :z ∈ [("Ahead" :Str), "meets", "or2", "ahea", "zzzzzzzzz", "strange"]) :zC z ∧ z ≠ "or" :=by obtain⟨a,b,c,d⟩ :=jJ.1 z h;exact⟨⟨a,b,c⟩,d⟩
theorem ZR{nm :List Str}(X :OQ nm){w :Wy}(hw :rG nm.length w)(N :Nat){d :Dt}{h :HI}(e :uA h d =some (nm.map Dt.str)) :
 ∃ws,uG [d,VA w, .int (N :Nat)] h =some (.str (Str.join spS ws),h) ∧ uK nm ws :=by
 have Ax :Str.ofString " " =spS :=by decide
 have ok :=X.ok;have r :=dL ok hw e;have wl :=vF nm w;have sp :=xH (h :=h) (c :=32) (ts :=wW nm w) (by simp[wW]) (fun t m =>(BH ok hw t m).sp) (by have :=xQ ok hw;exact Nat.le_trans this (by decide));have uh :∀s∈wW nm w,zC s ∧ s ≠ "or" :=fun s m =>⟨BH ok hw s m,gK ok hw s m⟩
 obtain⟨a,ha⟩ :∃a,a =EB nm w.1 :=⟨_,rfl⟩
 obtain⟨b,hb⟩ :∃b,b =EB nm w.2.2 :=⟨_,rfl⟩
 obtain⟨W,hW⟩ :∃W,W =kB w.2.1 :=⟨_,rfl⟩
 have am :a∈nm :=ha ▸ vD hw.i;have ew :wW nm w =a ::(W ++ [b]) :=by rw[ha,hb,hW];rfl
 rw[ew]at sp r wl uh;have Od :W.length ≤ 13 :=hW ▸ xP _;have W1 :1 ≤ W.length :=hW ▸ iQ hw.lo hw.hi;have oa :=uh a (by simp);have ob :=uh b (by simp);have oW :∀s∈W,zC s ∧ s ≠ "or" :=fun s m =>uh s (by simp[m])
 have g0 :xA (.lst ((a ::(W ++ [b])).map Dt.str)) (.int 0) h =some (.str a,h) :=uU;have g1 :xA (.lst ((a ::(W ++ [b])).map Dt.str)) (.int (-1)) h =some (.str b,h) :=by
  have :(a ::(W ++ [b])).map Dt.str =(a ::W).map Dt.str ++ [Dt.str b] :=by simp
  rw[this];exact qQ
 have sl :∀l :LI,l[4]? =some (some (.lst ((a ::(W ++ [b])).map Dt.str))) → IH (eV 4) (fF (eC (.int 1))) (fF (aD (eC (.int 1)))) l h =some (.lst (W.map Dt.str),h) :=by
  intro l hl;have ct :=AU (.str a) (.str b) (W.map Dt.str);have :(a ::(W ++ [b])).map Dt.str =Dt.str a ::(W.map Dt.str ++ [Dt.str b]) :=by simp
  simp only[nV,jA,hl,kA,iA,oV,lA,uT,lG,dG,uA,Bc,this,ct]
 have m8 :=fun(h :HI) =>uB (h :=h) (i :=(N :Int)) (j :=8) (by decide)
 have d8 :=fun(h :HI) =>eD (h :=h) (i :=(N :Int)) (j :=8) ⟨by omega,by decide⟩
 have s1 :1 ≤ sizeLine :=by decide
 have s2 :2 ≤ sizeLine :=by decide
 have s4 :4 ≤ sizeLine :=by decide
 have s5 :5 ≤ sizeLine :=by decide
 generalize hX :uG [d,VA w, .int (N :Nat)] h =Y;simp only[uG,YN,XA,Zd,jc,if_true,uc (f :=some),yc (f :=some),Nat.reduceAdd,Nat.reduceSub,List.replicate,Jc,Ec,Wc,GA,wB,iT,aT,iA,Ac,zc,FA,bG,YA,KA,HA,jA,lA,Xd,Yd,kA,r,Ax,sp,pA,g0,lG,dG,g1,sl,m8]at hX;obtain⟨t,ht⟩ :∃t :Int,t =(N :Int)%8 :=⟨_,rfl⟩
 rw[← ht]at hX;have c1 :=(UI a W .non .non (by omega) h).1;have c2 :=fun(x :Dt) =>(UI a W x .non (by omega) h).2.1
 have c3 :=fun(x y :Dt) =>(UI a W x y (by omega) h).2.2
 have tc :t =0 ∨ t =1 ∨ t =2 ∨ t =3 ∨ t =4 ∨ t =5 ∨ t =6 ∨ t =7 :=by omega
 have fin :∀ws :List Str,uK nm ws → Y =some (.str (Str.join spS ws),h) → ∃ws,Y =some (.str (Str.join spS ws),h) ∧ uK nm ws :=fun ws q z =>⟨ws,z,q⟩
 rcases tc with rfl | rfl | rfl | rfl | rfl | rfl | rfl | rfl
 · have k1 :=oa.1.len;have k2 :=ob.1.len;have e1 :=RB (h :=h) (x :=a) (y :=spS) (by rw[qK];omega);have e2 :=RB (h :=h) (x :=a ++ spS) (y :=b) (by rw[VB,qK];omega);simp only[JA,CA,pA,jA,lA,Xd,Yd,kA,iA,LB,decide_true,vA,if_true,BA,Ax,e1,e2,ZA,yA]at hX;refine fin [a,b] ⟨fO (by simp),by simp,by simp,fun s m =>?_⟩ hX.symm;simp only[List.mem_cons,List.not_mem_nil,or_false]at m;rcases m with rfl | rfl
   · exact oa
   · exact ob
 · obtain⟨I,x,hI⟩ :∃I x,W =I ++ [x] :=by
    rcases List.eq_nil_or_concat W with z | ⟨I,x,z⟩
    · rw[z]at W1;simp at W1
    · exact⟨I,x,by rw[z,List.concat_eq_append]⟩
   have gx :xA (.lst (W.map Dt.str)) (.int (-1)) h =some (.str x,h) :=by rw[hI,List.map_append];exact qQ
   have ox :=oW x (by rw[hI];simp);have em :(a ::W).map Dt.str ++ [Dt.str x,Dt.str b] =(a ::(W ++ [x] ++ [b])).map Dt.str :=by simp
   have Rz :∀s∈a ::(W ++ [x] ++ [b]),zC s ∧ s ≠ "or" :=fun s m =>by
    simp only[List.mem_cons,List.mem_append,List.not_mem_nil,or_false]at m;rcases m with rfl | (m | rfl) | rfl
    · exact oa
    · exact oW s m
    · exact ox
    · exact ob
   have jk :=QH (ws :=a ::(W ++ [x] ++ [b])) (by simp;omega) Rz h;simp only[JA,CA,pA,jA,lA,Xd,Yd,kA,iA,LB,Int.reduceEq,decide_false,decide_true,vA,Xc,if_false,if_true,bB,FA,GA,BA,kE,Ax,YD,KA,HA,lG,dG,Zd,jc,Nat.reduceAdd,s1,s2,c1,c3,gx,em,jk,ZA,yA]at hX;refine fin _ ⟨QO fun m _ _ z =>?_,by simp,by simp;omega,Rz⟩ hX.symm;have nd :=t5 m;rw[← z,List.nodup_append]at nd;exact nd.2.2 x (by rw[hI];simp) x (by simp) rfl
 · have j1 :((12 :Int)-(N :Int)/8%12) =((12-N/8%12 :Nat) :Int) :=by omega
   have j2 :0<12-N/8%12 :=by omega
   have j3 :12-N/8%12<13 :=by omega
   have Zf :=fun(h :HI) =>uB (h :=h) (i :=(N :Int)/8) (j :=12) (by decide)
   have q :∀k<13,Qq[k]? =some (wS k) :=by decide
   have gx :∀k<13,xA (.lst (Qq.map Dt.str)) (.int (k :Nat)) h =some (.str (wS k),h) :=fun k hk =>TC rfl (by rw[List.getElem?_map,q k hk];rfl)
   have gy :=gx 0 (by decide);have gy :xA (.lst (Qq.map Dt.str)) (.int 0) h =some (.str (wS 0),h) :=gy;have gx :=gx _ j3;have Rz :∀s∈a ::([wS (12-N/8%12),wS 0] ++ [b]),zC s ∧ s ≠ "or" :=fun s m =>by
    simp only[List.mem_cons,List.mem_append,List.not_mem_nil,or_false]at m;rcases m with rfl | (rfl | rfl) | rfl
    · exact oa
    · exact⟨LQ j3,(JI _ j3).2.2.2⟩
    · exact⟨LQ (by decide),(JI 0 (by decide)).2.2.2⟩
    · exact ob
   have jk :=QH (ws :=a ::([wS (12-N/8%12),wS 0] ++ [b])) (by simp) Rz h;have jk :QQ (.str spS) (.lst [Dt.str a, .str (wS (12-N/8%12)), .str (wS 0), .str b],h) =_ :=jk;simp only[JA,CA,pA,jA,lA,Xd,Yd,kA,iA,LB,Int.reduceEq,decide_false,decide_true,vA,Xc,if_false,if_true,bB,FA,GA,BA,kE,Ax,YD,KA,HA,d8,Zf,zM,j1,gx,gy,Zd,jc,Nat.reduceAdd,s4,jk,ZA,yA]at hX;exact fin _ ⟨QO fun m _ _ z =>VZ j2 j3 z.symm,by simp,by simp,Rz⟩ hX.symm
 · have m5 :=fun(h :HI) =>uB (h :=h) (i :=(N :Int)/8) (j :=5) (by decide)
   obtain⟨z,gz,oz,nz⟩ :∃z,xA (.lst [.str "Ahead", .str "meets", .str "or2", .str "ahea", .str a]) (.int ((N :Int)/8%5)) h =some (.str z,h) ∧ (zC z ∧ z ≠ "or") ∧ z∉Qq :=by
    have tc :(N :Int)/8%5 =0 ∨ (N :Int)/8%5 =1 ∨ (N :Int)/8%5 =2 ∨ (N :Int)/8%5 =3 ∨ (N :Int)/8%5 =4 :=by omega
    rcases tc with z | z | z | z | z<;>rw[z]
    · exact⟨"Ahead",rfl,KI (by simp),jJ.2 _ (by simp)⟩
    · exact⟨"meets",rfl,KI (by simp),jJ.2 _ (by simp)⟩
    · exact⟨"or2",rfl,KI (by simp),jJ.2 _ (by simp)⟩
    · exact⟨"ahea",rfl,KI (by simp),jJ.2 _ (by simp)⟩
    · exact⟨a,rfl,oa,X.wd a am⟩
   have em :(a ::W).map Dt.str ++ [Dt.str z,Dt.str b] =(a ::(W ++ [z] ++ [b])).map Dt.str :=by simp
   have Rz :∀s∈a ::(W ++ [z] ++ [b]),zC s ∧ s ≠ "or" :=fun s m =>by
    simp only[List.mem_cons,List.mem_append,List.not_mem_nil,or_false]at m;rcases m with rfl | (m | rfl) | rfl
    · exact oa
    · exact oW s m
    · exact oz
    · exact ob
   have jk :=QH (ws :=a ::(W ++ [z] ++ [b])) (by simp;omega) Rz h;simp only[JA,CA,pA,jA,lA,Xd,Yd,kA,iA,LB,Int.reduceEq,decide_false,decide_true,vA,Xc,if_false,if_true,bB,FA,GA,BA,kE,Ax,YD,KA,HA,d8,m5,gz,Zd,jc,Nat.reduceAdd,s1,s2,s5,c1,c3,em,jk,ZA,yA]at hX;refine fin _ ⟨QO fun m _ _ y =>?_,by simp,by simp;omega,Rz⟩ hX.symm;exact nz (l5 (m :=m) (by rw[← y];simp))
 · have c1 :=(UI "zzzzzzzzz" W .non .non (by omega) h).1;have c2 :=fun(x :Dt) =>(UI "zzzzzzzzz" W x .non (by omega) h).2.1
   have em :(("zzzzzzzzz" :Str) ::W).map Dt.str ++ [Dt.str b] =(("zzzzzzzzz" :Str) ::(W ++ [b])).map Dt.str :=by simp
   have Rz :∀s∈("zzzzzzzzz" :Str) ::(W ++ [b]),zC s ∧ s ≠ "or" :=fun s m =>by
    simp only[List.mem_cons,List.mem_append,List.not_mem_nil,or_false]at m;rcases m with rfl | m | rfl
    · exact KI (by simp)
    · exact oW s m
    · exact ob
   have jk :=QH (ws :=("zzzzzzzzz" :Str) ::(W ++ [b])) (by simp;omega) Rz h;simp only[JA,CA,pA,jA,lA,Xd,Yd,kA,iA,LB,Int.reduceEq,decide_false,decide_true,vA,Xc,if_false,if_true,bB,FA,GA,BA,kE,Ax,YD,KA,HA,Zd,jc,Nat.reduceAdd,s1,c1,c2,em,jk,ZA,yA]at hX;exact fin _ ⟨GO (G5 ok),by simp,by simp;omega,Rz⟩ hX.symm
 · have em :(a ::W).map Dt.str ++ [Dt.str "strange"] =((a ::W) ++ [("strange" :Str)]).map Dt.str :=by simp
   have Rz :∀s∈(a ::W) ++ [("strange" :Str)],zC s ∧ s ≠ "or" :=fun s m =>by
    simp only[List.mem_cons,List.mem_append,List.not_mem_nil,or_false]at m;rcases m with(rfl | m) | rfl
    · exact oa
    · exact oW s m
    · exact KI (by simp)
   have jk :=QH (ws :=(a ::W) ++ [("strange" :Str)]) (by simp;omega) Rz h;simp only[JA,CA,pA,jA,lA,Xd,Yd,kA,iA,LB,Int.reduceEq,decide_false,decide_true,vA,Xc,if_false,if_true,bB,FA,GA,BA,kE,Ax,YD,KA,HA,Zd,jc,Nat.reduceAdd,s1,c1,c2,em,jk,ZA,yA]at hX;exact fin _ ⟨JO X.st,by simp,by simp;omega,Rz⟩ hX.symm
 · have em :(a ::W).map Dt.str ++ [Dt.str a] =(a ::(W ++ [a])).map Dt.str :=by simp
   have Rz :∀s∈a ::(W ++ [a]),zC s ∧ s ≠ "or" :=fun s m =>by
    simp only[List.mem_cons,List.mem_append,List.not_mem_nil,or_false]at m;rcases m with rfl | m | rfl
    · exact oa
    · exact oW s m
    · exact oa
   have jk :=QH (ws :=a ::(W ++ [a])) (by simp;omega) Rz h;simp only[JA,CA,pA,jA,lA,Xd,Yd,kA,iA,LB,Int.reduceEq,decide_false,decide_true,vA,Xc,if_false,if_true,bB,FA,GA,BA,kE,Ax,YD,KA,HA,Zd,jc,Nat.reduceAdd,s1,c1,c2,em,jk,ZA,yA]at hX;exact fin _ ⟨kY,by simp,by simp;omega,Rz⟩ hX.symm
 · simp only[JA,CA,pA,jA,lA,Xd,Yd,kA,iA,LB,Int.reduceEq,decide_false,decide_true,vA,Xc,if_false,if_true,bB,FA,GA,BA,ZA,yA]at hX;refine fin [a] ⟨fO (by simp),by simp,by simp,fun s m =>?_⟩ hX.symm;rw[List.mem_singleton.mp m];exact oa
theorem aZ(N :Nat)(h :HI) :∃z :Str,WG [.int (N :Nat)] h =some (.str z,h) ∧ (z =spS ∨ (qE z =false ∧ 32∉z.cps.toList ∧ 10∉z.cps.toList)) ∧ z.length ≤ 20 :=by
 have m :=fun(h :HI) =>uB (h :=h) (i :=(N :Int)) (j :=11) (by decide)
 have Ed :11 ≤ sizeLine :=by decide
 obtain⟨t,ht⟩ :∃t :Int,t =(N :Int)%11 :=⟨_,rfl⟩
 rw[← ht]at m;have tc :t =0 ∨ t =1 ∨ t =2 ∨ t =3 ∨ t =4 ∨ t =5 ∨ t =6 ∨ t =7 ∨ t =8 ∨ t =9 ∨ t =10 :=by omega
 generalize hX :WG [.int (N :Nat)] h =Y;simp only[WG,zN,XA,Zd,jc,if_true,uc (f :=some),yc (f :=some),Nat.reduceAdd,Nat.reduceSub,List.replicate,Jc,Ec,GA,wB,YD,KA,HA,lA,iA,Ed,Ac,zc,FA,BA,pA,jA,Xd,Yd,kA,m]at hX;have fin :∀z :Str,((z =spS ∨ (qE z =false ∧ 32∉z.cps.toList ∧ 10∉z.cps.toList)) ∧ z.length ≤ 20) → Y =some (.str z,h) → ∃z :Str,Y =some (.str z,h) ∧ (z =spS ∨ (qE z =false ∧ 32∉z.cps.toList ∧ 10∉z.cps.toList)) ∧ z.length ≤ 20 :=fun z q e =>⟨z,e,q⟩
 rcases tc with rfl | rfl | rfl | rfl | rfl | rfl | rfl | rfl | rfl | rfl | rfl
 · exact fin "01" (by decide +kernel) hX.symm
 · exact fin "00" (by decide +kernel) hX.symm
 · exact fin "" (by decide +kernel) hX.symm
 · exact fin "-1" (by decide +kernel) hX.symm
 · exact fin "+1" (by decide +kernel) hX.symm
 · exact fin "1.0" (by decide +kernel) hX.symm
 · exact fin "a" (by decide +kernel) hX.symm
 · exact fin "10000000000000000000" (by decide +kernel) hX.symm
 · exact fin "1_0" (by decide +kernel) hX.symm
 · exact fin "y" (by decide +kernel) hX.symm
 · exact fin " " (by decide +kernel) hX.symm
theorem oM{n :Nat}(hn :n<10000000000000000000)(H :HI) :BD (.int (n :Nat)) H =some (.str (AA n),H) :=by
 have l :(n :Int).natAbs.log2<1920 :=by
  rw[Int.natAbs_natCast];by_cases z :n =0
  · subst z;decide
  · exact(Nat.log2_lt z).mpr (Nat.lt_trans hn (by decide))
 simp only[BD];rw[if_pos l];rfl
theorem NH{a b c d :Str}(l :a.length+b.length+c.length+d.length ≤ 10000)(h :HI) :SA (.str a) (.str b) h =some (.str (a ++ b),h) ∧ SA (.str (a ++ b)) (.str c) h =some (.str (a ++ b ++ c),h) ∧ SA (.str (a ++ b ++ c)) (.str d) h =some (.str (a ++ b ++ c ++ d),h) :=
 ⟨RB (by omega),RB (by rw[VB];omega),RB (by rw[VB,VB];omega)⟩
theorem ZQ{a b c d e f :Str}(l :a.length+b.length+c.length+d.length+e.length+f.length ≤ 10000)(h :HI) :SA (.str (a ++ b ++ c ++ d)) (.str e) h =some (.str (a ++ b ++ c ++ d ++ e),h) ∧ SA (.str (a ++ b ++ c ++ d ++ e)) (.str f) h =some (.str (a ++ b ++ c ++ d ++ e ++ f),h) :=
 ⟨RB (by rw[VB,VB,VB];omega),RB (by rw[VB,VB,VB,VB];omega)⟩
structure Wq(nm :List Str)(r :Str) :Prop where
 ex :∃ws,ws ≠ [] ∧ (∀s∈ws,32∉s.cps.toList ∧ 10∉s.cps.toList) ∧ r =Str.join spS ws ∧ r.length ≤ 20000 ∧ bE nm ws ∧ EF nm ws
theorem Wq.Vh{nm :List Str}{r :Str}(b :Wq nm r)(fs :List Ft) :Nx nm fs r :=by obtain⟨ws,h1,h2,h3,h4,h5,h6⟩ :=b.ex;exact⟨⟨ws,h1,h2,h3,h4, .inr h6, .inl h5⟩⟩
theorem kI (a x y :Str) :Str.ofString "long " ++ a ++ spS ++ x ++ spS ++ y =Str.join spS ["long",a,x,y] :=by
 have e1 :Str.ofString "long " =Str.ofString "long" ++ spS :=by decide
 rw[e1];show _ =Str.ofString "long" ++ spS ++ (a ++ spS ++ (x ++ spS ++ y));simp only[Str.append_assoc]
theorem dS (a y :Str) :Str.ofString "long " ++ a ++ Str.ofString " 0 " ++ y =Str.join spS ["long",a, "0",y] :=by
 have e1 :Str.ofString " 0 " =spS ++ Str.ofString "0" ++ spS :=by decide
 rw[e1, ← kI];simp only[Str.append_assoc]
theorem zJ {nm :List Str} {a x y :Str} (ha :zC a) (hx :32∉x.cps.toList ∧ 10∉x.cps.toList) (hy :32∉y.cps.toList ∧ 10∉y.cps.toList) (lx :x.length ≤ 20) (ly :y.length ≤ 20) (bad :bE nm ["long",a,x,y]) :Wq nm (Str.join spS ["long",a,x,y]) :=by
 refine⟨⟨["long",a,x,y],by simp,fun s m =>?_,rfl,?_,bad, .head (by decide)⟩⟩
 · simp only[List.mem_cons,List.not_mem_nil,or_false]at m;rcases m with rfl | rfl | rfl | rfl
   · decide
   · exact⟨ha.sp,ha.nl⟩
   · exact hx
   · exact hy
 · have :=ha.len;rw[← kI,VB,VB,VB,VB,VB,qK,show(Str.ofString "long ").length =5 by decide];omega
theorem rS {nm :List Str} {a x y z :Str} (ha :zC a) (hx :32∉x.cps.toList ∧ 10∉x.cps.toList) (hy :32∉y.cps.toList ∧ 10∉y.cps.toList) (hz :32∉z.cps.toList ∧ 10∉z.cps.toList) (lx :x.length ≤ 20) (ly :y.length ≤ 20) (lz :z.length ≤ 20) :Wq nm (Str.join spS ["long",a,x,y,z]) :=by
 refine⟨⟨["long",a,x,y,z],by simp,fun s m =>?_,rfl,?_, .len (by simp), .head (by decide)⟩⟩
 · simp only[List.mem_cons,List.not_mem_nil,or_false]at m;rcases m with rfl | rfl | rfl | rfl | rfl
   · decide
   · exact⟨ha.sp,ha.nl⟩
   · exact hx
   · exact hy
   · exact hz
 · have :=ha.len;have e :Str.join spS ["long",a,x,y,z] =Str.ofString "long" ++ spS ++ (a ++ spS ++ (x ++ spS ++ (y ++ spS ++ z))) :=rfl;rw[e];simp only[VB,qK,show(Str.ofString "long").length =4 by decide];omega
theorem mH{n :Nat} :32∉(AA n).cps.toList ∧ 10∉(AA n).cps.toList :=bP n
theorem tX{nm :List Str}(X :OQ nm){i lo hi :Nat}(of :gD nm.length (.Rq i lo hi)){N :Nat}(hN :N<1000000000){d :Dt}{h :HI}(e :uA h d =some (nm.map Dt.str)) :
 ∃r,XH [d,DB (.Rq i lo hi), .int (N :Nat)] h =some (.str r,h) ∧ Wq nm r :=by
 have Ax :Str.ofString " " =spS :=by decide
 have ok :=X.ok;obtain⟨h1,h2,h3⟩ :=of;have i1 :xA (DB (.Rq i lo hi)) (.int 1) h =some (.int (i :Nat),h) :=rfl;have i2 :xA (DB (.Rq i lo hi)) (.int 2) h =some (.int (lo :Nat),h) :=rfl;have i3 :xA (DB (.Rq i lo hi)) (.int 3) h =some (.int (hi :Nat),h) :=rfl;have g1 :xA d (.int (i :Nat)) h =some (.str (EB nm i),h) :=TC e (by rw[List.getElem?_map,List.getElem?_eq_getElem h1,sE h1];rfl);have am :=vD h1;obtain⟨a,ha⟩ :∃a,a =EB nm i :=⟨_,rfl⟩
 rw[← ha]at g1 am;have aw :=(ok.ok _ am).wd;have al :=aw.len;have m5 :=fun(h :HI) =>uB (h :=h) (i :=(N :Int)) (j :=5) (by decide)
 have d5 :=fun(h :HI) =>eD (h :=h) (i :=(N :Int)) (j :=5) ⟨by omega,by decide⟩
 have nlo :=wG (n :=lo) (by omega);have nhi :=wG (n :=hi) (by omega);have vd :=wG (n :=hi+1) (by omega);have k1 :(Str.ofString "long ").length =5 :=by decide
 have k2 :(Str.ofString " 0 ").length =3 :=by decide
 have k3 :(Str.ofString "long strange ").length =13 :=by decide
 have k4 :spS.length =1 :=qK;have jf :=oM (n :=lo) (by omega) h;have Dh :=oM (n :=hi) (by omega) h;have Eh :BD (.int ((hi :Nat)+1)) h =some (.str (AA (hi+1)),h) :=oM (n :=hi+1) (by omega) h;obtain⟨z,ez,bz,lz⟩ :=aZ (N/5) h;have ez :WG [.int ((N :Int)/5)] h =some (.str z,h) :=ez;obtain⟨t,ht⟩ :∃t :Int,t =(N :Int)%5 :=⟨_,rfl⟩
 rw[← ht]at m5;have tc :t =0 ∨ t =1 ∨ t =2 ∨ t =3 ∨ t =4 :=by omega
 generalize hX :XH [d,DB (.Rq i lo hi), .int (N :Nat)] h =Y;simp only[XH,yN,XA,Zd,jc,if_true,uc (f :=some),yc (f :=some),Nat.reduceAdd,Nat.reduceSub,List.replicate,Jc,Ec,GA,wB,pA,jA,lA,Xd,Yd,kA,iA,m5,Ac,zc,FA,i1,g1]at hX;have fin :∀r :Str,Wq nm r → Y =some (.str r,h) → ∃r,Y =some (.str r,h) ∧ Wq nm r :=fun r q e =>⟨r,e,q⟩
 rcases tc with rfl | rfl | rfl | rfl | rfl
 · obtain⟨c1,c2,c3⟩ :=NH (a :=Str.ofString "long ") (b :=a) (c :=spS) (d :=z) (by omega) h;obtain⟨c4,c5⟩ :=ZQ (a :=Str.ofString "long ") (b :=a) (c :=spS) (d :=z) (e :=spS) (f :=AA hi) (by omega) h;simp only[JA,CA,pA,jA,lA,Xd,Yd,kA,iA,LB,decide_true,vA,if_true,BA,Ax,YA,KA,HA,Wc,d5,ez,MB,i3,Dh,c1,c2,c3,c4,c5,ZA,yA]at hX;refine fin _ ?_ hX.symm;rcases bz with rfl | ⟨b1,b2⟩
   · have :Str.ofString "long " ++ a ++ spS ++ spS ++ spS ++ AA hi =Str.join spS ["long",a, "", "",AA hi] :=by
      have e1 :Str.ofString "long " =Str.ofString "long" ++ spS :=by decide
      rw[e1];show _ =Str.ofString "long" ++ spS ++ (a ++ spS ++ (Str.ofString "" ++ spS ++ (Str.ofString "" ++ spS ++ AA hi)));simp only[NJ,Str.append_assoc]
     rw[this];exact rS aw oG oG mH (by decide) (by decide) (by omega)
   · rw[kI];exact zJ aw b2 mH lz (by omega) (.num (by omega) (by omega) (.inr (.inl b1)))
 · obtain⟨c1,c2,c3⟩ :=NH (a :=Str.ofString "long ") (b :=a) (c :=Str.ofString " 0 ") (d :=z) (by omega) h;simp only[JA,CA,pA,jA,lA,Xd,Yd,kA,iA,LB,Int.reduceEq,decide_false,decide_true,vA,Xc,if_false,if_true,bB,FA,GA,BA,YA,KA,HA,Wc,d5,ez,c1,c2,c3,ZA,yA]at hX;refine fin _ ?_ hX.symm;rw[dS];rcases bz with rfl | ⟨b1,b2⟩
   · have :Str.join spS ["long",a, "0",spS] =Str.join spS ["long",a, "0", "", ""] :=by show Str.ofString "long" ++ spS ++ (a ++ spS ++ (Str.ofString "0" ++ spS ++ spS)) =Str.ofString "long" ++ spS ++ (a ++ spS ++ (Str.ofString "0" ++ spS ++ (Str.ofString "" ++ spS ++ Str.ofString "")));rw[NJ,sT]
     rw[this];exact rS aw (by decide) oG oG (by decide) (by decide) (by decide)
   · exact zJ aw (by decide) b2 (by decide) lz (.num (by decide) (by omega) (.inr (.inr b1)))
 · obtain⟨c1,c2,c3⟩ :=NH (a :=Str.ofString "long ") (b :=a) (c :=spS) (d :=AA (hi+1)) (by omega) h;obtain⟨c4,c5⟩ :=ZQ (a :=Str.ofString "long ") (b :=a) (c :=spS) (d :=AA (hi+1)) (e :=spS) (f :=AA hi) (by omega) h;simp only[JA,CA,pA,jA,lA,Xd,Yd,kA,iA,LB,Int.reduceEq,decide_false,decide_true,vA,Xc,if_false,if_true,bB,FA,GA,BA,Ax,MB,i3,dD,Dh,Eh,c1,c2,c3,c4,c5,ZA,yA]at hX;refine fin _ ?_ hX.symm;rw[kI];exact zJ aw mH mH (by omega) (by omega) (.long am (by omega) (by omega) (by omega))
 · obtain⟨K,hK⟩ :∃K :Nat,K =1000000000000000000+1+N/5 :=⟨_,rfl⟩
   have Kl :K<10000000000000000000 :=by omega
   have nK :=wG Kl;have p :=fV (h :=h) (i :=10) (j :=18) ⟨by decide,by decide⟩;have fK :BD (.int ((10 :Int)^(18 :Int).toNat+1+(N :Int)/5)) h =some (.str (AA K),h) :=by
    have e :(10 :Int)^(18 :Int).toNat+1+(N :Int)/5 =((K :Nat) :Int) :=by
     have :(10 :Int)^(18 :Int).toNat =1000000000000000000 :=by decide
     rw[this,hK];omega
    rw[e];exact oM Kl h
   obtain⟨c1,c2,c3⟩ :=NH (a :=Str.ofString "long ") (b :=a) (c :=Str.ofString " 0 ") (d :=AA K) (by omega) h;simp only[JA,CA,pA,jA,lA,Xd,Yd,kA,iA,LB,Int.reduceEq,decide_false,decide_true,vA,Xc,if_false,if_true,bB,FA,GA,BA,MB,d5,p,dD,fK,c1,c2,c3,ZA,yA]at hX;refine fin _ ?_ hX.symm;have z0 :Str.ofString "0" =AA 0 :=by decide
   rw[dS,z0];exact zJ aw (by decide) mH (by decide) (by omega) (.long am (by decide) Kl (by omega))
 · obtain⟨c1,c2,c3⟩ :=NH (a :=Str.ofString "long strange ") (b :=AA lo) (c :=spS) (d :=AA hi) (by omega) h;simp only[JA,CA,pA,jA,lA,Xd,Yd,kA,iA,LB,Int.reduceEq,decide_false,decide_true,vA,Xc,if_false,if_true,bB,FA,GA,BA,Ax,MB,i2,i3,jf,Dh,c1,c2,c3,ZA,yA]at hX;refine fin _ ?_ hX.symm;have e1 :Str.ofString "long strange " =Str.ofString "long " ++ Str.ofString "strange" ++ spS :=by decide
   rw[e1,kI];exact zJ ⟨by decide,by decide,by decide⟩ mH mH (by omega) (by omega) (.num (by omega) (by omega) (.inl X.st))
theorem VE(h :HI)(o :Ob) :(h ++ [o])[h.length]? =some o :=by simp
theorem fQ(h :HI)(o p :Ob) :(h ++ [o]).set h.length p =h ++ [p] :=by simp
structure Cz(nm :List Str)(p :Pt) :Prop where
 ok :eJ nm p
 len :(pD nm p).length ≤ 17
 wd :∀s∈pD nm p,zC s
def CC(nm :List Str)(p :Pt) :Str :=Str.join spS (pD nm p)
theorem Cz.ne{nm :List Str}{p :Pt}(h :Cz nm p) :pD nm p ≠ [] :=by
 have :=h.ok;cases p with
 | good w =>simp[pD,wW]
 | bad ws =>exact this.2.1
theorem Cz.row{nm :List Str}{p :Pt}(h :Cz nm p) :(CC nm p).length ≤ 340 :=by
 have h1 :=cG (z :=spS) fun t m =>(h.wd t m).len
 have h3 :(pD nm p).length*(19+spS.length) ≤ 17*20 :=Nat.mul_le_mul h.len (by decide);unfold CC;omega
theorem gT{nm :List Str}(ok :fB nm){w :Wy}(hw :rG nm.length w) :Cz nm (.good w) :=⟨hw,Nat.le_trans (vF nm w) (by decide),BH ok hw⟩
theorem G6{nm ws :List Str}(b :uK nm ws) :Cz nm (.bad ws) :=⟨⟨b.no,b.ne,Nat.le_trans b.len (by decide),fun s m =>(b.wd s m).2⟩,b.len,fun s m =>(b.wd s m).1⟩
theorem o6 (nm :List Str) :Cz nm (.bad [""]) :=⟨⟨fO (by simp),by simp,by simp,fun s m =>by rw[List.mem_singleton.mp m];decide⟩,by simp[pD],fun s m =>by rw[List.mem_singleton.mp m];exact⟨by decide,by decide,by decide⟩⟩
theorem QT{nm :List Str}{ps :List Pt}(h0 :ps ≠ [])(l :ps.length ≤ 7)(hp :∀p∈ps,Cz nm p)(bad :6<ps.length ∨ ∃p∈ps,vM p =true) :
 Wq nm (Str.ofString "one " ++ Str.join (Str.ofString " or ") (ps.map (CC nm))) ∧ JoinOk (Str.ofString " or ") (ps.map (CC nm)) =true ∧ (Str.join (Str.ofString " or ") (ps.map (CC nm))).length ≤ 3000 :=by
 have hB :∀t∈ps.map (CC nm),t.length ≤ 340 :=by intro t ht;obtain⟨p,hm,rfl⟩ :=List.mem_map.mp ht;exact(hp p hm).row
 have l' :(ps.map (CC nm)).length ≤ 7 :=by rw[List.length_map];exact l
 have e1 :(ps.map (CC nm)).length*(340+(Str.ofString " or ").length) ≤ 7*344 :=Nat.mul_le_mul l' (by decide);have h1 :=cG (z :=Str.ofString " or ") hB;have ll :(Str.join (Str.ofString " or ") (ps.map (CC nm))).length ≤ 3000 :=by omega
 refine⟨?_,cH hB (by rw[Nat.mul_add]at e1;omega),ll⟩;obtain⟨p,r,rfl⟩ :∃p r,ps =p ::r :=by
  cases ps with
  | nil =>exact absurd rfl h0
  | cons p r =>exact⟨p,r,rfl⟩
 have j :=RP (r.map (pD nm)) (pD nm p) (by
  intro q hq;rw[← uc]at hq;obtain⟨v,hv,rfl⟩ :=List.mem_map.mp hq;exact(hp v hv).ne)
 rw[← uc,List.map_map]at j;have j :Str.join (Str.ofString " or ") ((p ::r).map (CC nm)) =Str.join spS (xC ((p ::r).map (pD nm))) :=j;have n1 :xC ((p ::r).map (pD nm)) ≠ [] :=by rw[uc];exact tQ _ _ (hp p (by simp)).ne
 have e :Str.ofString "one " =Str.ofString "one" ++ spS :=by decide
 have ro :Str.ofString "one " ++ Str.join (Str.ofString " or ") ((p ::r).map (CC nm)) =Str.join spS ("one" ::xC ((p ::r).map (pD nm))) :=by rw[j,e,RD spS _ n1]
 refine⟨⟨"one" ::xC ((p ::r).map (pD nm)),by simp,fun s m =>?_,ro,?_, .one (by simp) (by omega) (fun q m =>(hp q m).ok) bad, .head (by decide)⟩⟩
 · rcases List.mem_cons.mp m with rfl | m
   · decide
   · have :=jQ _ (fun x hx =>by
      obtain⟨v,hv,rfl⟩ :=List.mem_map.mp hx;exact(hp v hv).wd) s m
     exact⟨this.sp,this.nl⟩
 · rw[VB,show(Str.ofString "one ").length =4 by decide];omega
theorem NS(h :HI)(l :LI)(hl :l[3]? =some (some (.ref h.length)))(x :Dt) :∀(j n :Nat)(xs :List Dt)(_ :xs.length+j =7)(_ :xs.head? =some x),ZE ZH PK (n+j+1) l (h ++ [.lst xs]) =some (.nx l (h ++ [.lst (xs ++ List.replicate j x)]))
 | 0,n,xs,e,_ =>by
  have fl :=qF (VE h (.lst xs));have c :decide (((xs.length :Nat) :Int)<7) =false :=decide_eq_false (by omega);have tk :ZH l (h ++ [.lst xs]) =some (false,h ++ [.lst xs]) :=by simp only[ZH,CA,pA,MB,jA,lA,hl,kA,iA,fl,fE,c,vA]
  rw[show List.replicate 0 x = []from rfl,Wc];simp only[ZE,tk,Dc,Xc,if_false]
 | j+1,n,xs,e,hx =>by
  have ih :=NS h l hl x j n (xs ++ [x]) (by simp;omega) (by
   cases xs with
   | nil =>cases hx
   | cons y r =>exact hx)
  have fl :=qF (VE h (.lst xs));have c :decide (((xs.length :Nat) :Int)<7) =true :=decide_eq_true (by omega);have tk :ZH l (h ++ [.lst xs]) =some (true,h ++ [.lst xs]) :=by simp only[ZH,CA,pA,MB,jA,lA,hl,kA,iA,fl,fE,c,vA]
  have g0 :xA (.ref h.length) (.int 0) (h ++ [.lst xs]) =some (x,h ++ [.lst xs]) :=by
   cases xs with
   | nil =>cases hx
   | cons y r =>
    injection hx with hx
    rw[← hx];have sq :uA (h ++ [.lst (y ::r)]) (.ref h.length) =some (y ::r) :=by simp only[uA,VE]
    exact GD sq
  have ap :=AG (l :=l) (h :=h ++ [.lst xs]) (g :=e2 xA (eV 3) (eC (.int 0))) (n :=h.length) (d :=x) (xs :=xs) (ys :=xs) (h' :=h ++ [.lst xs]) (VE _ _) (by simp only[pA,jA,lA,hl,kA,iA,g0]) (VE _ _) (Nat.lt_of_le_of_lt (show xs.length ≤ 7 by omega) (by decide));rw[fQ]at ap;have bd :PK l (h ++ [.lst xs]) =some (.nx l (h ++ [.lst (xs ++ [x])])) :=by simp only[PK,aG,zG,jA,hl,kA,iA,ap]
  have :xs ++ List.replicate (j+1) x =xs ++ [x] ++ List.replicate j x :=by rw[List.replicate_succ];simp
  rw[this, ← ih,show n+(j+1)+1 =(n+j+1)+1 by omega];rw[ZE];simp only[tk,Dc,if_true,bd]
theorem JX{nm :List Str}(X :OQ nm){ws :List Wy}(of :gD nm.length (.one ws))(N :Nat){d :Dt}{h :HI}(hd :∀g :HI,uA (h ++ g) d =some (nm.map Dt.str)) :
 ∃r g,cI [d,DB (.one ws), .int (N :Nat)] h =some (.str r,h ++ g) ∧ Wq nm r :=by
 have ok :=X.ok;obtain⟨l1,l6,hw⟩ :=of;have e :uA h d =some (nm.map Dt.str) :=by have :=hd [];rwa[Wc]at this
 have i1 :xA (DB (.one ws)) (.int 1) h =some (.lst (ws.map VA),h) :=rfl;have ec :=UF (te :=FN) (tc :=rC) (i :=0) VA (fun w =>Dt.str (CC nm (.good w))) h ws [none,some d] fun w hm =>⟨rfl,by
  have r :=dL ok (hw w hm) e;simp only[FN,YA,KA,HA,jA,zc,Xd,Yd,kA,iA,Wc,r];rfl⟩
 have hs :(ws.map VA).length<sizeLine :=by rw[List.length_map];exact Nat.lt_of_le_of_lt l6 (by decide)
 obtain⟨P,hP⟩ :∃P :List Pt,P =ws.map Pt.good :=⟨_,rfl⟩
 have Pl :P.length =ws.length :=by rw[hP,List.length_map]
 have Ak :∀p∈P,Cz nm p :=by intro p m;rw[hP]at m;obtain⟨w,hm,rfl⟩ :=List.mem_map.mp m;exact gT ok (hw w hm)
 have eP :(ws.map fun w =>Dt.str (CC nm (.good w))) =(P.map (CC nm)).map Dt.str :=by rw[hP,List.map_map,List.map_map];rfl
 rw[eP]at ec;have fl :=qF (VE h (.lst ((P.map (CC nm)).map Dt.str)));rw[List.length_map,List.length_map]at fl;have m3 :=fun(h :HI) =>uB (h :=h) (i :=(N :Int)) (j :=3) (by decide)
 have d3 :=fun(h :HI) =>eD (h :=h) (i :=(N :Int)) (j :=3) ⟨by omega,by decide⟩
 have Mr :=fun(h :HI) =>eD (h :=h) (i :=(N :Int)) (j :=30) ⟨by omega,by decide⟩
 have ml :=fun(h :HI) =>uB (h :=h) (i :=(N :Int)/3) (j :=(P.length :Int)) (by omega)
 obtain⟨A,hA⟩ :∃A :Nat,A =N/3%P.length :=⟨_,rfl⟩
 have Al :A<P.length :=hA ▸ Nat.mod_lt _ (by omega);have eA :(N :Int)/3%(P.length :Int) =((A :Nat) :Int) :=by rw[hA];rfl
 rw[eA]at ml;obtain⟨t,ht⟩ :∃t :Int,t =(N :Int)%3 :=⟨_,rfl⟩
 rw[← ht]at m3;have tc :t =0 ∨ t =1 ∨ t =2 :=by omega
 have s0 :(Str.ofString "one ").length =4 :=by decide
 have fin :∀(Q :List Pt)(l :LI),Q ≠ [] → Q.length ≤ 7 → (∀p∈Q,Cz nm p) → (6<Q.length ∨ ∃p∈Q,vM p =true) → l[3]? =some (some (.ref h.length)) →
  (DA (e2 SA (eC (.str "one ")) (WC (eC (.str " or ")) (eV 3)))) l (h ++ [.lst ((Q.map (CC nm)).map Dt.str)]) =some (.rt (.str (Str.ofString "one " ++ Str.join (Str.ofString " or ") (Q.map (CC nm)))) (h ++ [.lst ((Q.map (CC nm)).map Dt.str)])) ∧ Wq nm (Str.ofString "one " ++ Str.join (Str.ofString " or ") (Q.map (CC nm))) :=by
  intro Q l q1 q2 q3 q4 hl;obtain⟨b,j,ll⟩ :=QT q1 q2 q3 q4;refine⟨?_,b⟩;have jk :=uF (h :=h ++ [.lst ((Q.map (CC nm)).map Dt.str)]) (z :=Str.ofString " or ") (d := .ref h.length) (by simp only[uA,VE]) j;have c :=RB (h :=h ++ [.lst ((Q.map (CC nm)).map Dt.str)]) (x :=Str.ofString "one ") (y :=Str.join (Str.ofString " or ") (Q.map (CC nm))) (by omega);simp only[BA,pA,lA,kE,jA,hl,kA,iA,jk,c]
 generalize hX :cI [d,DB (.one ws), .int (N :Nat)] h =Y;simp only[cI,UN,XA,Zd,jc,if_true,uc (f :=some),yc (f :=some),Nat.reduceAdd,Nat.reduceSub,List.replicate,Jc,Ec,GA,wB,DL,FG,pA,jA,lA,Xd,Yd,kA,iA,i1,nH,WE,TF,XE,Option.join_some,VD _ _ _ hs,ec,Ac,zc,FA,MB,fl,d3,ml,JA,CA,m3,LB]at hX;have out :∀(r :Str)(g :HI),Wq nm r → Y =some (.str r,h ++ g) → ∃r g,Y =some (.str r,h ++ g) ∧ Wq nm r :=fun r g q e =>⟨r,g,e,q⟩
 rcases tc with rfl | rfl | rfl
 · obtain⟨p,r,hr⟩ :∃p r,P =p ::r :=by
    cases hq :P with
    | nil =>rw[hq]at Al;simp at Al
    | cons p r =>exact⟨p,r,rfl⟩
   have w :=NS h [some d,some (DB (.one ws)),some (.int (N :Nat)),some (.ref h.length),some (.int (A :Nat))] rfl (.str (CC nm p)) (7-P.length) (999999-(7-P.length)) ((P.map (CC nm)).map Dt.str) (by simp;omega) (by rw[hr];rfl);rw[show 999999-(7-P.length)+(7-P.length)+1 =1000000 by omega]at w;have eQ :(P.map (CC nm)).map Dt.str ++ List.replicate (7-P.length) (.str (CC nm p)) =((P ++ List.replicate (7-P.length) p).map (CC nm)).map Dt.str :=by rw[List.map_append,List.map_append,List.map_replicate,List.map_replicate]
   rw[eQ]at w;obtain⟨f1,f2⟩ :=fin (P ++ List.replicate (7-P.length) p) [some d,some (DB (.one ws)),some (.int (N :Nat)),some (.ref h.length),some (.int (A :Nat))] (by rw[hr];simp) (by simp;omega) (fun q m =>by
    rcases List.mem_append.mp m with z | z
    · exact Ak q z
    · rw[(List.mem_replicate.mp z).2];exact Ak p (by rw[hr];simp)) (.inl (by simp;omega)) rfl
   simp only[decide_true,vA,if_true,iA,A6,w,FA,f1,yA]at hX;exact out _ _ f2 hX.symm
 · obtain⟨w,Vt⟩ :∃w,ws[A]? =some w :=⟨ws[A],by simp⟩
   have wm :=List.mem_of_getElem? Vt;obtain⟨bw,eb,hb⟩ :=ZR X (hw w wm) (N/30) (hd [.lst ((P.map (CC nm)).map Dt.str)]);have eb :uG [d,VA w, .int ((N :Int)/30)] (h ++ [.lst ((P.map (CC nm)).map Dt.str)]) =some (.str (Str.join spS bw),h ++ [.lst ((P.map (CC nm)).map Dt.str)]) :=eb;have Nf :xA (DB (.one ws)) (.int 1) (h ++ [.lst ((P.map (CC nm)).map Dt.str)]) =some (.lst (ws.map VA),h ++ [.lst ((P.map (CC nm)).map Dt.str)]) :=rfl;have Qf :xA (.lst (ws.map VA)) (.int (A :Nat)) (h ++ [.lst ((P.map (CC nm)).map Dt.str)]) =some (VA w,h ++ [.lst ((P.map (CC nm)).map Dt.str)]) :=TC rfl (by rw[List.getElem?_map,Vt];rfl);have s3 :=JJ (l := [some d,some (DB (.one ws)),some (.int (N :Nat)),some (.ref h.length),some (.int (A :Nat))]) (v := .str (Str.join spS bw)) (k :=A) (VE h (.lst ((P.map (CC nm)).map Dt.str))) (by simpa using Al);have eQ :((P.map (CC nm)).map Dt.str).set A (.str (Str.join spS bw)) =((P.set A (.bad bw)).map (CC nm)).map Dt.str :=by rw[List.map_set,List.map_set];rfl
   rw[fQ,eQ]at s3;obtain⟨f1,f2⟩ :=fin (P.set A (.bad bw)) [some d,some (DB (.one ws)),some (.int (N :Nat)),some (.ref h.length),some (.int (A :Nat))] (by intro z;have :=congrArg List.length z;simp at this;rw[this]at Al;simp at Al) (by simp;omega) (fun q m =>by
    rcases List.mem_or_eq_of_mem_set m with z | rfl
    · exact Ak q z
    · exact G6 hb) (.inr ⟨.bad bw,List.mem_iff_getElem?.mpr ⟨A,by rw[List.getElem?_set_self Al]⟩,rfl⟩) rfl
   simp only[Int.reduceEq,decide_false,decide_true,vA,Xc,if_false,if_true,iA,JA,CA,pA,jA,lA,Xd,Yd,kA,m3,LB,WL,YA,KA,HA,Wc,Nf,Qf,Mr,eb,s3,FA,f1,yA]at hX;exact out _ _ f2 hX.symm
 · have ins :=Z0 (l := [some d,some (DB (.one ws)),some (.int (N :Nat)),some (.ref h.length),some (.int (A :Nat))]) (fi :=eV 4) (fe :=eC (.str "")) (k :=A) (d := .str "") (VE h (.lst ((P.map (CC nm)).map Dt.str))) rfl rfl (by rw[List.length_map,List.length_map];exact Nat.lt_of_le_of_lt (show P.length ≤ 7 by omega) (by decide)) (by omega);have eQ :((P.map (CC nm)).map Dt.str).take A ++ Dt.str "" ::((P.map (CC nm)).map Dt.str).drop A =((P.take A ++ Pt.bad [""] ::P.drop A).map (CC nm)).map Dt.str :=by rw[List.map_append,List.map_append,uc,uc,List.map_take,List.map_take,List.map_drop,List.map_drop];rfl
   rw[fQ,eQ]at ins;obtain⟨f1,f2⟩ :=fin (P.take A ++ Pt.bad [""] ::P.drop A) [some d,some (DB (.one ws)),some (.int (N :Nat)),some (.ref h.length),some (.int (A :Nat))] (by simp) (by simp;omega) (fun q m =>by
    rcases List.mem_append.mp m with z | z
    · exact Ak q (List.mem_of_mem_take z)
    · rcases List.mem_cons.mp z with rfl | z
      · exact o6 nm
      · exact Ak q (List.mem_of_mem_drop z)) (.inr ⟨.bad [""],by simp,rfl⟩) rfl
   simp only[Int.reduceEq,decide_false,decide_true,vA,Xc,if_false,if_true,iA,JA,CA,pA,jA,lA,Xd,Yd,kA,m3,LB,aG,F0,ins,FA,f1,yA]at hX;exact out _ _ f2 hX.symm
theorem OF {Wz :List Str} {k s :Str} (hk :32∉k.cps.toList ∧ 10∉k.cps.toList) (hs :32∉s.cps.toList ∧ 10∉s.cps.toList) (lk :k.length ≤ 20) (ls :s.length ≤ 20) (bad :EF Wz [k,s]) (k1 :k ≠ "ways") (k2 :k ≠ "long") (k3 :k ≠ "one") (fs :List Ft) :Nx Wz fs (k ++ spS ++ s) :=by
 refine⟨⟨[k,s],by simp,fun x m =>?_,rfl,by rw[VB,VB,qK];omega, .inr bad, .inl (.head k1 k2 k3)⟩⟩;simp only[List.mem_cons,List.not_mem_nil,or_false]at m;rcases m with rfl | rfl
 · exact hk
 · exact hs
theorem dX{nm :List Str}(ok :fB nm){A :Nat}(hA :A<nm.length)(N :Nat){d :Dt}{h :HI}(e :uA h d =some (nm.map Dt.str)) :
 ∃r,YH [d, .int (A :Nat), .int (N :Nat)] h =some (.str r,h) ∧ ∀fs,Nx (nm.take A) fs r :=by
 have g1 :∀k<nm.length,xA d (.int (k :Nat)) h =some (.str (EB nm k),h) :=fun k hk =>TC e (by rw[List.getElem?_map,List.getElem?_eq_getElem hk,sE hk];rfl)
 have gA :=g1 A hA;obtain⟨a,ha⟩ :∃a,a =EB nm A :=⟨_,rfl⟩
 have an :=ok.ok a (ha ▸ vD hA);rw[← ha]at gA;have aw :=an.wd;have al :=aw.len;have af :=an.free;have st1 :Str.ofString "stretch " =Str.ofString "stretch" ++ spS :=by decide
 have k1 :(Str.ofString "stretch ").length =8 :=by decide
 have k2 :(Str.ofString "Stretch ").length =8 :=by decide
 have k3 :(Str.ofString "stretches ").length =10 :=by decide
 have k4 :(Str.ofString " b").length =2 :=by decide
 have c1 :=RB (h :=h) (x :=Str.ofString "stretch ") (y :=a) (by omega);have c2 :=RB (h :=h) (x :=Str.ofString "stretch " ++ a) (y :=Str.ofString " b") (by rw[VB];omega);have c3 :=RB (h :=h) (x :=Str.ofString "Stretch ") (y :=a) (by omega);have c4 :=RB (h :=h) (x :=Str.ofString "stretches ") (y :=a) (by omega);have m2 :=fun(h :HI) =>uB (h :=h) (i :=(N :Int)) (j :=2) (by decide)
 have d2 :=fun(h :HI) =>eD (h :=h) (i :=(N :Int)) (j :=2) ⟨by omega,by decide⟩
 have m9 :=fun(h :HI) =>uB (h :=h) (i :=(N :Int)/2) (j :=9) (by decide)
 have s6 :6 ≤ sizeLine :=by decide
 have s3 :3 ≤ sizeLine :=by decide
 have ct :=FH (h :=h) (xs := [Dt.str "stretch", .str (Str.ofString "stretch " ++ a ++ Str.ofString " b"), .str "stretch A", .str "stretch a1", .str "stretch abcdefghi", .str "stretch or"]) (ys := [Dt.str "stretch ", .str (Str.ofString "Stretch " ++ a), .str (Str.ofString "stretches " ++ a)]) (show 9 ≤ sizeLine by decide);have gt :gN (.int (A :Nat)) (.int 0) h =some (.bl (decide ((0 :Int)<(A :Nat))),h) :=GK _ _;generalize hX :YH [d, .int (A :Nat), .int (N :Nat)] h =Y;simp only[YH,EN,XA,Zd,jc,if_true,uc (f :=some),yc (f :=some),Nat.reduceAdd,Nat.reduceSub,List.replicate,Jc,Ec,GA,wB,YD,KA,HA,pA,jA,lA,Xd,Yd,kA,iA,gA,c1,c2,c3,c4,s6,s3,Ac,zc,FA,ct,JA,YE,CA,gt,vA,m2,LB]at hX;have out :∀r :Str,(∀fs,Nx (nm.take A) fs r) → Y =some (.str r,h) → ∃r,Y =some (.str r,h) ∧ ∀fs,Nx (nm.take A) fs r :=fun r q e =>⟨r,e,q⟩
 by_cases c :0<A ∧ (N :Int)%2 =0
 · obtain⟨A0,N0⟩ :=c;have mA :=fun(h :HI) =>uB (h :=h) (i :=(N :Int)/2) (j :=(A :Int)) (by omega)
   have eA :(N :Int)/2%(A :Int) =((N/2%A :Nat) :Int) :=rfl;rw[eA]at mA;have Bl :N/2%A<A :=Nat.mod_lt _ A0;have gB :=g1 (N/2%A) (by omega);have bm :EB nm (N/2%A)∈nm.take A :=by rw[sE (by omega),List.mem_iff_getElem?];exact⟨N/2%A,by rw[List.getElem?_take,if_pos Bl,List.getElem?_eq_getElem]⟩
   have bn :=ok.ok _ (List.mem_of_mem_take bm);have bl :=bn.hi;have cb :=RB (h :=h) (x :=Str.ofString "stretch ") (y :=EB nm (N/2%A)) (by omega);rw[decide_eq_true (show(0 :Int)<(A :Nat) by omega),decide_eq_true N0]at hX;simp only[if_true,iA,vA,BA,pA,jA,lA,Xd,Yd,kA,d2,mA,gB,cb,ZA,yA]at hX;refine out _ (fun fs =>?_) hX.symm;rw[st1];exact OF (by decide) bn.free (by decide) (by omega) (.twice bn bm) (by decide) (by decide) (by decide) fs
 · have nx :Y =(FB (xA (.lst [Dt.str "stretch", .str (Str.ofString "stretch " ++ a ++ Str.ofString " b"), .str "stretch A", .str "stretch a1", .str "stretch abcdefghi", .str "stretch or",Dt.str "stretch ", .str (Str.ofString "Stretch " ++ a), .str (Str.ofString "stretches " ++ a)]) (.int ((N :Int)/2%9)) h) some) :=by
    rw[← hX];by_cases A0 :0<A
    · have N0 :¬(N :Int)%2 =0 :=fun z =>c ⟨A0,z⟩
      rw[decide_eq_true (show(0 :Int)<(A :Nat) by omega),decide_eq_false N0];simp only[if_true,Xc,if_false,iA,vA,bB,FA,BA,pA,jA,lA,Xd,Yd,kA,d2,m9,Jc,Ec];cases xA (.lst [Dt.str "stretch", .str (Str.ofString "stretch " ++ a ++ Str.ofString " b"), .str "stretch A", .str "stretch a1", .str "stretch abcdefghi", .str "stretch or",Dt.str "stretch ", .str (Str.ofString "Stretch " ++ a), .str (Str.ofString "stretches " ++ a)]) (.int ((N :Int)/2%9)) h<;>rfl
    · rw[decide_eq_false (show ¬(0 :Int)<(A :Nat) by omega)];simp only[if_true,Xc,if_false,iA,vA,bB,FA,BA,pA,jA,lA,Xd,Yd,kA,d2,m9,Jc,Ec];cases xA (.lst [Dt.str "stretch", .str (Str.ofString "stretch " ++ a ++ Str.ofString " b"), .str "stretch A", .str "stretch a1", .str "stretch abcdefghi", .str "stretch or",Dt.str "stretch ", .str (Str.ofString "Stretch " ++ a), .str (Str.ofString "stretches " ++ a)]) (.int ((N :Int)/2%9)) h<;>rfl
   have tc :(N :Int)/2%9 =0 ∨ (N :Int)/2%9 =1 ∨ (N :Int)/2%9 =2 ∨ (N :Int)/2%9 =3 ∨ (N :Int)/2%9 =4 ∨ (N :Int)/2%9 =5 ∨ (N :Int)/2%9 =6 ∨ (N :Int)/2%9 =7 ∨ (N :Int)/2%9 =8 :=by omega
   rcases tc with z | z | z | z | z | z | z | z | z<;>rw[z]at nx
   · refine out "stretch" (fun fs =>⟨⟨["stretch"],by simp,fun s m =>by rw[List.mem_singleton.mp m];decide,rfl,by decide, .inr (.len (by simp)), .inl (.head (by decide) (by decide) (by decide))⟩⟩) nx
   · refine out _ (fun fs =>?_) nx;have eb :Str.ofString "stretch " ++ a ++ Str.ofString " b" =Str.join spS ["stretch",a, "b"] :=by
      have e2 :Str.ofString " b" =spS ++ Str.ofString "b" :=by decide
      rw[st1,e2];show _ =Str.ofString "stretch" ++ spS ++ (a ++ spS ++ Str.ofString "b");simp only[Str.append_assoc]
     refine⟨⟨["stretch",a, "b"],by simp,fun s m =>?_,eb,by rw[VB,VB];omega, .inr (.len (by simp)), .inl (.head (by decide) (by decide) (by decide))⟩⟩;simp only[List.mem_cons,List.not_mem_nil,or_false]at m;rcases m with rfl | rfl | rfl
     · decide
     · exact af
     · decide
   · refine out _ (fun fs =>?_) nx;rw[show Str.ofString "stretch A" =Str.ofString "stretch" ++ spS ++ Str.ofString "A" by decide];exact OF (by decide) (by decide) (by decide) (by decide) (.name (by decide) fun z =>absurd (z.Zz 65 (by decide)) (by decide)) (by decide) (by decide) (by decide) fs
   · refine out _ (fun fs =>?_) nx;rw[show Str.ofString "stretch a1" =Str.ofString "stretch" ++ spS ++ Str.ofString "a1" by decide];exact OF (by decide) (by decide) (by decide) (by decide) (.name (by decide) fun z =>absurd (z.Zz 49 (by decide)) (by decide)) (by decide) (by decide) (by decide) fs
   · refine out _ (fun fs =>?_) nx;rw[show Str.ofString "stretch abcdefghi" =Str.ofString "stretch" ++ spS ++ Str.ofString "abcdefghi" by decide];exact OF (by decide) (by decide) (by decide) (by decide) (.name (by decide) fun z =>absurd z.hi (by decide)) (by decide) (by decide) (by decide) fs
   · refine out _ (fun fs =>?_) nx;rw[show Str.ofString "stretch or" =Str.ofString "stretch" ++ spS ++ Str.ofString "or" by decide];exact OF (by decide) (by decide) (by decide) (by decide) (.name (by decide) fun z =>absurd rfl z.no) (by decide) (by decide) (by decide) fs
   · refine out _ (fun fs =>?_) nx;rw[show Str.ofString "stretch " =Str.ofString "stretch" ++ spS ++ Str.ofString "" by decide];exact OF (by decide) (by decide) (by decide) (by decide) (.name (by decide) fun z =>absurd z.lo (by decide)) (by decide) (by decide) (by decide) fs
   · refine out _ (fun fs =>?_) nx;rw[show Str.ofString "Stretch " =Str.ofString "Stretch" ++ spS by decide];exact OF (by decide) af (by decide) (by omega) (.head (by decide)) (by decide) (by decide) (by decide) fs
   · refine out _ (fun fs =>?_) nx;rw[show Str.ofString "stretches " =Str.ofString "stretches" ++ spS by decide];exact OF (by decide) af (by decide) (by omega) (.head (by decide)) (by decide) (by decide) (by decide) fs
theorem cW{f :RE}{l :LI}{h :HI}{z :Str}(e :f l h =some (.str z,h))(hz :z.length ≤ 2000) :bR f l h =some (.str (Txt.upper z),h) :=by
 have l3 :=EU z;have s :(6000 :Nat) ≤ sizeLine :=by decide
 have c :Builtin.Str.tooLong (Txt.upper z).length =false :=by unfold Builtin.Str.tooLong;exact decide_eq_false (by omega)
 simp only[bR,e,Dc,if_pos c]
theorem bW{f :RE}{l :LI}{h :HI}{z y x :Str}(e :f l h =some (.str z,h))(hz :z.length ≤ 2000)(hr :(qD z y x).length ≤ 20000) :iK y x f l h =some (.str (qD z y x),h) :=by
 have s :(20000 :Nat) ≤ sizeLine :=by decide
 have c :z.length ≤ 1000000 ∧ (qD z y x).length ≤ sizeLine :=⟨by omega,by omega⟩;simp only[iK,e,Dc,if_pos c]
structure G9(nm :List Str)(fs :List Ft)(A :Nat)(r :Str) :Prop where
 ex :∃ws,RowW nm ws ∧ r =Str.join spS ws ∧ ∀f,ws =UC nm f → nm.take A =nm
theorem j9{nm :List Str}(ok :fB nm){fs :List Ft}(hf :∀f∈fs,gD nm.length f){A :Nat}{r :Str}(h :(dB nm fs)[A]? =some r) :G9 nm fs A r :=by
 unfold dB at h;by_cases c :A<nm.length
 · rw[Qc (by simpa using c),List.getElem?_map,List.getElem?_eq_getElem c]at h;injection h with h
   refine⟨⟨["stretch",nm[A]], .st (ok.ok _ (List.getElem_mem c)),h.symm,fun f e =>?_⟩⟩;obtain⟨s,ts,e',n⟩ :=DJ nm f;rw[← e]at e';injection e' with e' _
   exact absurd e'.symm n
 · rw[Vc (by simpa using c),List.getElem?_map]at h;obtain⟨f,hm,rfl⟩ :∃f,f∈fs ∧ NC nm f =r :=by
    cases q :fs[A-(nm.map pE).length]? with
    | none =>rw[q]at h;cases h
    | some f =>
     rw[q]at h;injection h with h
     exact⟨f,List.mem_of_getElem? q,h⟩
   exact⟨⟨UC nm f, .ft (hf f hm),rfl,fun _ _ =>List.take_of_length_le (by omega)⟩⟩
theorem K3{nm :List Str}(X :OQ nm){fs :List Ft}(hf :∀f∈fs,gD nm.length f){A :Nat}{row :Str}(hr :(dB nm fs)[A]? =some row){N :Nat}(hN :N<1000000000){d d2 :Dt}{h :HI}(hd :∀g :HI,uA (h ++ g) d =some (nm.map Dt.str))(h2 :uA h d2 =some (fs.map DB)) :
 ∃r g,oJ [.str row,d,d2, .int (A :Nat), .int (N :Nat)] h =some (.str r,h ++ g) ∧ Nx (nm.take A) (fs.take (A-nm.length)) r :=by
 have Ax :Str.ofString " " =spS :=by decide
 have ok :=X.ok;have e :uA h d =some (nm.map Dt.str) :=by have :=hd [];rwa[Wc]at this
 obtain⟨ws,rw_,er,h0⟩ :=(j9 ok hf hr).ex;obtain⟨a,b,ts,ew,_⟩ :=rw_.two;have rl :=rw_.len ok;rw[← er]at rl;have sa :=(vR ok rw_ a (by rw[ew];simp)).1;have rp :qD row spS (Str.ofString "  ") =Str.join spS (a :: "" ::b ::ts) :=by rw[er,ew];exact P4 sa (by simp)
 have S1 :Nx (nm.take A) (fs.take (A-nm.length)) (row ++ Str.ofString " ") :=by rw[er];exact T4 ok rw_ h0
 have S2 :Nx (nm.take A) (fs.take (A-nm.length)) (Str.ofString " " ++ row) :=by rw[er];exact QZ ok rw_
 have S3 :Nx (nm.take A) (fs.take (A-nm.length)) (Str.ofString "") :=S0;have S4 :Nx (nm.take A) (fs.take (A-nm.length)) (qD row spS (Str.ofString "  ")) :=by rw[rp];exact U4 ok rw_ h0 ew
 have S5 :Nx (nm.take A) (fs.take (A-nm.length)) (Str.ofString "x" ++ row) :=by rw[er];exact A8 ok rw_
 have S6 :Nx (nm.take A) (fs.take (A-nm.length)) (Txt.upper row) :=by rw[er];exact l9 ok rw_
 have Cd :(qD row spS (Str.ofString "  ")).length ≤ 20000 :=by obtain⟨_,_,_,_,z,_⟩ :=S4.ex;exact z
 rw[Ax]at S1 S2;have c1 :=RB (h :=h) (x :=row) (y :=spS) (by rw[qK];omega);have c2 :=RB (h :=h) (x :=spS) (y :=row) (by rw[qK];omega);have c3 :=RB (h :=h) (x :=Str.ofString "x") (y :=row) (by rw[show(Str.ofString "x").length =1 by decide];omega);have s6 :6 ≤ sizeLine :=by decide
 have m3 :=fun(h :HI) =>uB (h :=h) (i :=(N :Int)) (j :=3) (by decide)
 have d3 :=fun(h :HI) =>eD (h :=h) (i :=(N :Int)) (j :=3) ⟨by omega,by decide⟩
 have vh :=fun(h :HI) =>eD (h :=h) (i :=(N :Int)) (j :=12) ⟨by omega,by decide⟩
 have m6 :=fun(h :HI) =>uB (h :=h) (i :=(N :Int)/3) (j :=6) (by decide)
 have m4 :=fun(h :HI) =>uB (h :=h) (i :=(N :Int)/3) (j :=4) (by decide)
 obtain⟨t,ht⟩ :∃t :Int,t =(N :Int)%3 :=⟨_,rfl⟩
 rw[← ht]at m3;obtain⟨CL,hCL⟩ :∃CL :Dt,CL = .lst [.str (row ++ spS), .str (spS ++ row), .str "", .str (qD row spS (Str.ofString "  ")), .str (Str.ofString "x" ++ row), .str (Txt.upper row)] :=⟨_,rfl⟩
 have fl :=XD e;rw[List.length_map]at fl;have ur :∀l :LI,l[0]? =some (some (.str row)) → bR (eV 0) l h =some (.str (Txt.upper row),h) :=fun l hl =>cW (by simp only[jA,hl,kA]) rl
 have rr :∀l :LI,l[0]? =some (some (.str row)) → iK spS (Str.ofString "  ") (eV 0) l h =some (.str (qD row spS (Str.ofString "  ")),h) :=fun l hl =>bW (by simp only[jA,hl,kA]) rl Cd
 have ur :=ur [some (.str row),some d,some d2,some (.int (A :Nat)),some (.int (N :Nat)),some (.int t),none,none] rfl;have rr :=rr [some (.str row),some d,some d2,some (.int (A :Nat)),some (.int (N :Nat)),some (.int t),none,none] rfl;generalize hX :oJ [.str row,d,d2, .int (A :Nat), .int (N :Nat)] h =Y;simp only[oJ,TN,XA,Zd,jc,if_true,uc (f :=some),yc (f :=some),Nat.reduceAdd,Nat.reduceSub,List.replicate,Jc,Ec,GA,wB,YD,KA,HA,pA,jA,lA,Xd,Yd,kA,iA,m3,Ac,zc,FA,Ax,c1,c2,c3,rr,ur,s6, ← hCL,JA,CA,LB,vA]at hX;have out :∀(r :Str)(g :HI),Nx (nm.take A) (fs.take (A-nm.length)) r → Y =some (.str r,h ++ g) → ∃r g,Y =some (.str r,h ++ g) ∧ Nx (nm.take A) (fs.take (A-nm.length)) r :=fun r g q e =>⟨r,g,e,q⟩
 have Jv :∀(r :Str),Nx (nm.take A) (fs.take (A-nm.length)) r → Y =some (.str r,h) → ∃r g,Y =some (.str r,h ++ g) ∧ Nx (nm.take A) (fs.take (A-nm.length)) r :=fun r q e =>⟨r, [],by rw[Wc];exact e,q⟩
 by_cases t0 :t =0
 · rw[decide_eq_true t0]at hX;simp only[if_true,BA,pA,jA,lA,Xd,Yd,kA,iA,d3,m6]at hX;have tc :(N :Int)/3%6 =0 ∨ (N :Int)/3%6 =1 ∨ (N :Int)/3%6 =2 ∨ (N :Int)/3%6 =3 ∨ (N :Int)/3%6 =4 ∨ (N :Int)/3%6 =5 :=by omega
   have ix :∃r,xA CL (.int ((N :Int)/3%6)) h =some (.str r,h) ∧ Nx (nm.take A) (fs.take (A-nm.length)) r :=by
    rcases tc with z | z | z | z | z | z<;>rw[z,hCL]
    · exact⟨_,rfl,S1⟩
    · exact⟨_,rfl,S2⟩
    · exact⟨_,rfl,S3⟩
    · exact⟨_,rfl,S4⟩
    · exact⟨_,rfl,S5⟩
    · exact⟨_,rfl,S6⟩
   obtain⟨r,ix,S⟩ :=ix;simp only[ix,iA,ZA,yA]at hX;exact Jv r S hX.symm
 · rw[decide_eq_false t0]at hX;simp only[Xc,if_false,bB,iA,FA,GA,JA,CA,pA,MB,jA,lA,Xd,Yd,kA,fl,fE,vA]at hX;by_cases c :A<nm.length
   · obtain⟨r,eb,S⟩ :=dX ok c (N/3) e;have eb :YH [d, .int (A :Nat), .int ((N :Int)/3)] h =some (.str r,h) :=eb;rw[decide_eq_true (show((A :Nat) :Int)<((nm.length :Nat) :Int) by omega)]at hX;simp only[if_true,BA,YA,KA,HA,pA,jA,lA,Xd,Yd,kA,iA,Wc,d3,eb,ZA,yA]at hX;exact Jv r (S _) hX.symm
   · have nt :nm.take A =nm :=List.take_of_length_le (by omega);rw[nt]at out Jv ⊢;obtain⟨f,hfk,fm⟩ :∃f,fs[A-nm.length]? =some f ∧ f∈fs :=by
      have z :=hr;unfold dB at z;rw[Vc (by simpa using c),List.getElem?_map,List.length_map]at z;cases q :fs[A-nm.length]? with
      | none =>rw[q]at z;cases z
      | some f =>exact⟨f,rfl,List.mem_of_getElem? q⟩
     have of :=hf f fm;have ej :((A :Nat) :Int)-((nm.length :Nat) :Int) =((A-nm.length :Nat) :Int) :=by omega
     have gf :xA d2 (.int ((A-nm.length :Nat) :Int)) h =some (DB f,h) :=TC h2 (by rw[List.getElem?_map,hfk];rfl);rw[decide_eq_false (show ¬((A :Nat) :Int)<((nm.length :Nat) :Int) by omega)]at hX;simp only[Xc,if_false,bB,iA,FA,GA,wB,JA,pA,MB,jA,lA,Xd,Yd,kA,fl,zM,ej,gf,Ac,zc]at hX;have tt :(LD (Aq (e2 QA (eV 5) (eC (.int 1)))) (LD (Aq (e2 QA (e2 WA (e2 OB (eV 4) (eC (.int 3))) (eC (.int 4))) (eC (.int 0)))) (Aq (e2 gN (eV 3) (HC oB (eV 1)))))) [some (.str row),some d,some d2,some (.int (A :Nat)),some (.int (N :Nat)),some (.int t),some CL,some (DB f)] h =some (decide (t =1 ∧ (N :Int)/3%4 =0 ∧ ((nm.length :Nat) :Int)<((A :Nat) :Int)),h) :=by
      simp only[YE,CA,pA,MB,jA,lA,Xd,Yd,kA,iA,fl,LB,d3,m4,GK,vA];by_cases q1 :t =1
      · by_cases q2 :(N :Int)/3%4 =0
        · simp[q1,q2]
        · simp[q1,q2]
      · simp[q1]
     by_cases cc :t =1 ∧ (N :Int)/3%4 =0 ∧ ((nm.length :Nat) :Int)<((A :Nat) :Int)
     · rw[decide_eq_true cc]at tt;simp only[tt,iA,if_true,BA,lA,ZA,yA]at hX;refine Jv "stretch zyxwvuts" ?_ hX.symm;have k0 :fs.take (A-nm.length) ≠ [] :=by have l1 :=(Kc hfk).1;intro z;have z :=congrArg List.length z;rw[List.length_take,jc]at z;omega
       exact⟨⟨["stretch", "zyxwvuts"],by simp,fun s m =>by
        simp only[List.mem_cons,List.not_mem_nil,or_false]at m;rcases m with rfl | rfl<;>decide,by decide,by decide, .inl k0, .inl (.head (by decide) (by decide) (by decide))⟩⟩
     · rw[decide_eq_false cc]at tt;simp only[tt,iA,Xc,if_false,bB,FA,GA,JA,CA,pA,jA,lA,Xd,Yd,kA]at hX;cases f with
       | way w =>
        have i0 :xA (DB (.way w)) (.int 0) h =some (.str "ways",h) :=rfl;obtain⟨bw,eb,hb⟩ :=ZR X of (N/12) e;have eb :uG [d,DB (.way w), .int ((N :Int)/12)] h =some (.str (Str.join spS bw),h) :=eb;have jl :=cG (z :=spS) fun t m =>(hb.wd t m).1.len
        have jm :bw.length*(19+spS.length) ≤ 17*20 :=Nat.mul_le_mul hb.len (by decide);have kw :(Str.ofString "ways ").length =5 :=by decide
        have cw :=RB (h :=h) (x :=Str.ofString "ways ") (y :=Str.join spS bw) (by omega);simp only[i0,rD,decide_true,vA,iA,if_true,BA,pA,lA,YA,KA,HA,jA,Xd,Yd,kA,Wc,vh,eb,cw,ZA,yA]at hX;refine Jv _ ?_ hX.symm;have ek :Str.ofString "ways " ++ Str.join spS bw =Str.join spS ("ways" ::bw) :=by rw[show Str.ofString "ways " =Str.ofString "ways" ++ spS by decide,RD spS _ hb.ne]
        exact⟨⟨"ways" ::bw,by simp,fun s m =>by
         rcases List.mem_cons.mp m with rfl | m
         · decide
         · exact⟨(hb.wd s m).1.sp,(hb.wd s m).1.nl⟩,ek,by rw[VB];omega, .inr (.head (by decide)), .inl (.ways hb.no)⟩⟩
       | Rq i lo hi =>
        have i0 :xA (DB (.Rq i lo hi)) (.int 0) h =some (.str "long",h) :=rfl;obtain⟨r,eb,hb⟩ :=tX X of (N :=N/12) (by omega) e;have eb :XH [d,DB (.Rq i lo hi), .int ((N :Int)/12)] h =some (.str r,h) :=eb;have n1 :decide (Str.ofString "long" =Str.ofString "ways") =false :=by decide
        simp only[i0,rD,n1,decide_true,vA,iA,Xc,if_false,if_true,bB,FA,GA,JA,CA,BA,pA,lA,YA,KA,HA,jA,Xd,Yd,kA,Wc,vh,eb,ZA,yA]at hX;exact Jv _ (hb.Vh _) hX.symm
       | one ws' =>
        have i0 :xA (DB (.one ws')) (.int 0) h =some (.str "one",h) :=rfl;obtain⟨r,g,eb,hb⟩ :=JX X of (N/12) hd;have eb :cI [d,DB (.one ws'), .int ((N :Int)/12)] h =some (.str r,h ++ g) :=eb;have n1 :decide (Str.ofString "one" =Str.ofString "ways") =false :=by decide
        have n2 :decide (Str.ofString "one" =Str.ofString "long") =false :=by decide
        simp only[i0,rD,n1,n2,vA,iA,Xc,if_false,bB,FA,GA,JA,CA,BA,pA,lA,YA,KA,HA,jA,Xd,Yd,kA,Wc,vh,eb,ZA,yA]at hX;exact out _ _ (hb.Vh _) hX.symm
theorem OU(F :fC)(g :RA)(tab :List Str)(i j :Nat)(l :LI)(h :HI) :fJ F g tab i j l h =FB (g l h) fun r =>FB (F r.1 r.2) fun q =>sN tab i j l q :=by rfl
theorem R7 :("BadText" :Str)∈DV :=by decide +kernel
theorem Q0 (k :Nat) (t :Option Dt) (h :HI) :(oA (nC (Aq (e2 lF (eV 1) (eC .non))) (DA (eC (.int 0))) jB) (oA (OA 3 (iC (cA (lD qO (eV 1)) (cA (lD sO (eV 1)) (cA (lD NO (eV 1)) sA))))) (oA (OA 3 (e2 pC (eV 3) (iC (cA (lD tO (eV 1)) (cA (lD gP (eV 1)) (cA (tN (lD mO (eV 1))) sA)))))) (oA (nC (VC (Aq (e2 pG (eC (.bl true)) (eV 3))) (KE (Aq (lD rO (eV 1))))) (DA (aD (eC (.int 1)))) jB) (oA (nC (VC (KE (Aq (VI "int" (cN "BadText" "row" (eV 1))))) (Aq (VI "bool" (cN "BadText" "row" (eV 1))))) (DA (aD (eC (.int 1)))) jB) (DA (cN "BadText" "row" (eV 1)))))))) [t,some (.err "BadText" "row" (.inl (k :Nat))),none,none] h =some (.rt (.int (k :Nat)) h) :=by kernel_rfl
theorem O4 {tx :Str} {k :Nat} {h H :HI} (e :fG [.str tx] h =some (.thr "BadText" "row" (.inl (k :Nat)),H)) :TD [.str tx] h =some (.int (k :Nat),H) :=by have i :=R7;have r :=Q0 k (some (.str tx)) H;generalize hX :TD [.str tx] h =Y;simp only[TD,SK,XA,Zd,jc,if_true,uc,yc,Nat.reduceAdd,Nat.reduceSub,List.replicate,Jc,Ec,GA (OA 1 (eC .non)),GA (fJ fG (cA (eV 0) sA) DV 1 2),wB,lA,iA,Ac,zc,FA,OU,KA,HA,jA,Xd,Yd,kA,e,sN,if_pos i,r,yA]at hX;exact hX.symm
theorem J0{tx :Str}{a :List Dt}{h H :HI}(e :fG [.str tx] h =some (.tup a,H)) :TD [.str tx] h =some (.int 0,H) :=by have ne :lF .non .non H =some (.bl true,H) :=rfl;generalize hX :TD [.str tx] h =Y;simp only[TD,SK,XA,Zd,jc,if_true,uc,yc,Nat.reduceAdd,Nat.reduceSub,List.replicate,Jc,Ec,GA,wB,lA,iA,Ac,zc,FA,OU,KA,HA,jA,Xd,Yd,kA,e,sN,JA,CA,pA,ne,vA,BA,ZA,yA]at hX;exact hX.symm
theorem zL{c k :Nat}(hk :k<8)(s :Str)(n :Nat)(hn :2 ≤ n)(hs :s.cps.toList.length =n)(t :∀p<n,∀b<26,∀k<8,((List.replicate n (97+b)).set p 97).set ((p+1)%n) (97+k)≠s.cps.toList) :cD c k≠s :=by
 intro e;have e :=congrArg (fun s :Str =>s.cps.toList) e;rw[pI]at e;have el :=congrArg List.length e;unfold yC at e el;by_cases q :c/5%4 =1
 · rw[if_pos q]at el;simp only[Zd,jc]at el;omega
 · rw[if_neg q]at e el;obtain⟨s1,s2,s3,s4,s5⟩ :=II c k;have sz :Fx c k =n :=by rw[List.length_set,List.length_set,List.length_replicate]at el;omega
   rw[sz]at e s3;exact t _ s3 _ (Nat.mod_lt _ (by decide)) k hk e
theorem OY{c k :Nat}(hk :k<8) :cD c k∉Qq :=by
 intro m;unfold Qq at m;simp only[List.mem_cons,List.not_mem_nil,or_false]at m;rcases m with m | m | m | m | m | m | m | m | m | m | m | m | m
 · exact jY hk m
 · exact tF _ (by decide) (by decide) m
 · exact zL hk _ 4 (by decide) (by decide) (by decide +kernel) m
 · exact tF _ (by decide) (by decide) m
 · exact tF _ (by decide) (by decide) m
 · exact tF _ (by decide) (by decide) m
 · exact zL hk _ 4 (by decide) (by decide) (by decide +kernel) m
 · exact tF _ (by decide) (by decide) m
 · exact tF _ (by decide) (by decide) m
 · exact tF _ (by decide) (by decide) m
 · exact zL hk _ 8 (by decide) (by decide) (by decide +kernel) m
 · exact tF _ (by decide) (by decide) m
 · exact tF _ (by decide) (by decide) m
theorem R8{c n :Nat}(hn :n ≤ 8) :OQ (aJ c n) :=by
 have mem :∀s∈aJ c n,∃k<8,s =cD c k :=by intro s hs;obtain⟨k,hk,rfl⟩ :=List.mem_map.mp hs;exact⟨k,by have :=List.mem_range.mp hk;omega,rfl⟩
 refine⟨O6 hn,fun s m =>?_,fun m =>?_⟩
 · obtain⟨k,hk,rfl⟩ :=mem s m;exact OY hk
 · obtain⟨k,hk,e⟩ :=mem _ m;exact zL hk _ 7 (by decide) (by decide) (by decide +kernel) e.symm
structure RM(rs :List Str)(r :Str) :Prop where
 ex :∃nm fs,fB nm ∧ nm ≠ [] ∧ (∀f∈fs,gD nm.length f) ∧ fs.length ≤ 60 ∧ (fs.filter vB).length ≤ 6 ∧ rs =dB nm fs ∧ Nx nm fs r
noncomputable def Zg :List Str := ["azyx", "bzyx", "czyx", "dzyx", "ezyx", "fzyx", "gzyx", "hzyx"]
theorem N6 :fB Zg :=by
 refine⟨by decide,by decide,?_⟩;have t :∀s∈Zg,1 ≤ s.length ∧ s.length ≤ 8 ∧ (∀c∈s.cps.toList,97 ≤ c ∧ c ≤ 122) ∧ s ≠ "or" :=by decide
 intro s m;obtain⟨a,b,c,d⟩ :=t s m;exact⟨a,b,c,d⟩
theorem G8 (x0 x1 x2 x4 x5 x6 :Option Dt) (h :HI) :YC (WI (eC (.int 8))) (UB 0) rC FR [none,some 3] [x0,x1,x2,some (.str "abcdefgh"),x4,x5,x6] h =some (.lst ((Zg.map pE).map Dt.str),h) :=by kernel_rfl
theorem j4 (t :Int) (h :HI) (ht :0 ≤ t ∧ t<8) :∃z :Str,xA (.str "abcdefgh") (.int t) h =some (.str z,h) ∧ Lq (z ++ Str.ofString "zy") ∧ z.length =1 :=by
 have tc :t =0 ∨ t =1 ∨ t =2 ∨ t =3 ∨ t =4 ∨ t =5 ∨ t =6 ∨ t =7 :=by omega
 rcases tc with rfl | rfl | rfl | rfl | rfl | rfl | rfl | rfl
 · exact⟨"a",by kernel_rfl,⟨by decide,by decide,by decide,by decide⟩,by decide⟩
 · exact⟨"b",by kernel_rfl,⟨by decide,by decide,by decide,by decide⟩,by decide⟩
 · exact⟨"c",by kernel_rfl,⟨by decide,by decide,by decide,by decide⟩,by decide⟩
 · exact⟨"d",by kernel_rfl,⟨by decide,by decide,by decide,by decide⟩,by decide⟩
 · exact⟨"e",by kernel_rfl,⟨by decide,by decide,by decide,by decide⟩,by decide⟩
 · exact⟨"f",by kernel_rfl,⟨by decide,by decide,by decide,by decide⟩,by decide⟩
 · exact⟨"g",by kernel_rfl,⟨by decide,by decide,by decide,by decide⟩,by decide⟩
 · exact⟨"h",by kernel_rfl,⟨by decide,by decide,by decide,by decide⟩,by decide⟩
theorem qU{nm :List Str}(ok :fB nm){fs :List Ft}{f :Ft}(of :gD nm.length f)(h0 :fs ≠ [])(no :60 ≤ fs.length ∨ (vB f =true ∧ 6 ≤ (fs.filter vB).length)) :Nx nm fs (NC nm f) :=
 ⟨⟨UC nm f,by obtain⟨s,ts,e,_⟩ :=DJ nm f;rw[e];simp,fun s m =>⟨(aK ok of s m).sp,(aK ok of s m).nl⟩,rfl,Nat.le_trans (qM ok of).1 (by decide), .inl h0, .inr ⟨f,of,rfl,no⟩⟩⟩
theorem JT (nm :List Str) (i lo hi :Nat) (x :Str) (e :x =spS ++ AA lo ++ spS ++ AA hi) :Str.ofString "long " ++ EB nm i ++ x =NC nm (.Rq i lo hi) :=by have :=kI (EB nm i) (AA lo) (AA hi);rw[e];show _ =Str.join spS ["long",EB nm i,AA lo,AA hi];rw[← this];simp only[Str.append_assoc]
theorem uR :kB 1 = [Str.ofString "ahead"] ∧ kB 4096 = [Str.ofString "behind"] :=by decide +kernel
theorem RY (nm :List Str) :Str.ofString "one " ++ EB nm 0 ++ Str.ofString " ahead " ++ EB nm 1 =NC nm (.one [(0,1,1)]) :=by show _ =Str.join spS ("one" ::(EB nm 0 ::(kB 1 ++ [EB nm 1])));rw[uR.1,show Str.ofString "one " =Str.ofString "one" ++ spS by decide,show Str.ofString " ahead " =spS ++ Str.ofString "ahead" ++ spS by decide];show _ =Str.ofString "one" ++ spS ++ (EB nm 0 ++ spS ++ (Str.ofString "ahead" ++ spS ++ EB nm 1));simp only[Str.append_assoc]
theorem qY (nm :List Str) :EB nm 1 ++ Str.ofString " behind " ++ EB nm 0 =CC nm (.good (1,4096,0)) :=by show _ =Str.join spS (EB nm 1 ::(kB 4096 ++ [EB nm 0]));rw[uR.2,show Str.ofString " behind " =spS ++ Str.ofString "behind" ++ spS by decide];show _ =EB nm 1 ++ spS ++ (Str.ofString "behind" ++ spS ++ EB nm 0);simp only[Str.append_assoc]
theorem MP(s :Str)(n :Nat)(hn :n ≤ 1000)(h :HI) :VH (.str s) (.int (n :Nat),h) =some (.lst ((List.replicate n s).map Dt.str),h) :=by have : -(2^62) ≤ ((n :Nat) :Int) ∧ ((n :Nat) :Int) ≤ 1000000 :=⟨by omega,by omega⟩;simp only[VH,if_pos this,UG,Int.toNat_natCast,List.map_replicate]
theorem D4{nm :List Str}(ok :fB nm)(hn :nm ≠ [])(N :Nat)(x :Dt)(h :HI) :∃rs r,iI [.lst (nm.map Dt.str),x, .int (N :Nat)] h =some (.tup [.lst (rs.map Dt.str), .str r],h) ∧ RM rs r :=by
 have Ax :Str.ofString " " =spS :=by decide
 have n1 :1 ≤ nm.length :=by cases nm with | nil =>exact absurd rfl hn | cons a r =>simp
 have m4 :=fun(h :HI) =>uB (h :=h) (i :=(N :Int)) (j :=4) (by decide)
 have d4 :=fun(h :HI) =>eD (h :=h) (i :=(N :Int)) (j :=4) ⟨by omega,by decide⟩
 have m8 :=fun(h :HI) =>uB (h :=h) (i :=(N :Int)/4) (j :=8) (by decide)
 have s2 :2 ≤ sizeLine :=by decide
 have s0 :∀k :Nat,k ≤ 1000 → k ≤ sizeLine :=fun k hk =>Nat.le_trans hk (by decide)
 obtain⟨t,ht⟩ :∃t :Int,t =(N :Int)%4 :=⟨_,rfl⟩
 rw[← ht]at m4;generalize hX :iI [.lst (nm.map Dt.str),x, .int (N :Nat)] h =Y;simp only[iI,vO,XA,Zd,jc,if_true,uc (f :=some),yc (f :=some),Nat.reduceAdd,Nat.reduceSub,List.replicate,Jc,Ec,GA,wB,lA,iA,Ac,zc,FA,JA,CA,pA,jA,Xd,Yd,kA,m4,LB,vA]at hX;have out :∀rs r,RM rs r → Y =some (.tup [.lst (rs.map Dt.str), .str r],h) → ∃rs r,Y =some (.tup [.lst (rs.map Dt.str), .str r],h) ∧ RM rs r :=fun rs r f e =>⟨rs,r,e,f⟩
 by_cases t0 :t =0
 · obtain⟨z,ez,oz,lz⟩ :=j4 ((N :Int)/4%8) h (by omega);have c1 :=RB (h :=h) (x :=Str.ofString "stretch ") (y :=z) (by rw[lz];decide);have c2 :=RB (h :=h) (x :=Str.ofString "stretch " ++ z) (y :=Str.ofString "zy") (by rw[VB,lz];decide);have f0 :=G8 (some (.lst (nm.map Dt.str))) (some x) (some (.int (N :Nat))) none none none h;rw[decide_eq_true t0]at hX;simp only[if_true,iA,f0,Ac,zc,FA,BA,ND,KA,HA,pA,jA,lA,Xd,Yd,kA,d4,m8,ez,c1,c2,Zd,jc,Nat.reduceAdd,s2,ZA,yA]at hX;refine out _ _ ⟨⟨Zg, [],N6,by decide,fun f m =>(by cases m),by decide,by decide,by unfold dB;rw[yc,Wc],?_⟩⟩ hX.symm;rw[show Str.ofString "stretch " =Str.ofString "stretch" ++ spS by decide,FL];have :=oz.hi;exact OF (by decide) oz.free (by decide) (by omega) (.full oz (by decide)) (by decide) (by decide) (by decide) []
 · have ec :=UF (te :=cO) (tc :=rC) (i :=0) Dt.str (fun s =>Dt.str (pE s)) h nm [none] fun s hs =>⟨rfl,by
    have c :=RB (h :=h) (x :=Str.ofString "stretch ") (y :=s) (by have :=(ok.ok s hs).hi;have :(Str.ofString "stretch ").length =8 :=(by decide);omega);rw[dU]at c;simp only[cO,pA,lA,jA,zc,Xd,kA,iA,c]⟩
   have hs :(nm.map Dt.str).length<sizeLine :=by rw[List.length_map];exact Nat.lt_of_le_of_lt ok.len (by decide)
   have em :(nm.map fun s =>Dt.str (pE s)) =(nm.map pE).map Dt.str :=by rw[List.map_map];rfl
   rw[em]at ec;have fl :oB (.lst (nm.map Dt.str)) h =some (.int ((nm.length :Nat) :Int),h) :=by have :=ZJ (xs :=nm.map Dt.str) (h :=h);rwa[List.length_map]at this
   have g :∀k<nm.length,xA (.lst (nm.map Dt.str)) (.int (k :Nat)) h =some (.str (EB nm k),h) :=fun k hk =>TC rfl (by rw[List.getElem?_map,List.getElem?_eq_getElem hk,sE hk];rfl)
   have g0 :xA (.lst (nm.map Dt.str)) (.int 0) h =some (.str (EB nm 0),h) :=g 0 (by omega);have l0 :=(ok.ok _ (vD (nm :=nm) (i :=0) (by omega))).hi;have k5 :(Str.ofString "long ").length =5 :=by decide
   have kk :(Str.ofString " 0 5").length =4 ∧ (Str.ofString " 1 1").length =4 ∧ (Str.ofString "one ").length =4 ∧ (Str.ofString " ahead ").length =7 ∧ (Str.ofString " behind ").length =8 :=by decide
   obtain⟨ka,kb,kc,kd,ke⟩ :=kk;rw[decide_eq_false t0]at hX;simp only[Xc,if_false,bB,iA,FA,GA,wB,fH,FG,jA,Xd,Yd,kA,nH,WE,XE,VD _ _ _ hs,ec,Ac,zc]at hX;have tt :(VC (Aq (e2 QA (e2 WA (eV 2) (eC (.int 4))) (eC (.int 1)))) (Aq (e2 QG (HC oB (eV 0)) (eC (.int 2))))) [some (.lst (nm.map Dt.str)),some x,some (.int (N :Nat)),some (.str "abcdefgh"),none,some (.lst ((nm.map pE).map Dt.str)),none] h =some (decide (t =1 ∨ nm.length<2),h) :=by
    simp only[JC,CA,pA,MB,jA,lA,Xd,Yd,kA,iA,m4,LB,fl,fE,vA];by_cases q1 :t =1
    · simp[q1]
    · by_cases q2 :nm.length<2
      · rw[decide_eq_true (show((nm.length :Nat) :Int)<2 by omega)];simp[q1,q2]
      · rw[decide_eq_false (show ¬((nm.length :Nat) :Int)<2 by omega)];simp[q1,q2]
   simp only[JA,tt,iA]at hX;by_cases cc :t =1 ∨ nm.length<2
   · rw[decide_eq_true cc]at hX;have c1 :=RB (h :=h) (x :=Str.ofString "long ") (y :=EB nm 0) (by omega);have c2 :=RB (h :=h) (x :=Str.ofString "long " ++ EB nm 0) (y :=Str.ofString " 0 5") (by rw[VB];omega);have c3 :=RB (h :=h) (x :=Str.ofString "long " ++ EB nm 0) (y :=Str.ofString " 1 1") (by rw[VB];omega);rw[JT nm 0 0 5 _ (by decide)]at c2;rw[JT nm 0 1 1 _ (by decide)]at c3;have rp :VH (.str (NC nm (.Rq 0 0 5))) (.int 60,h) =some (.lst ((List.replicate 60 (NC nm (.Rq 0 0 5))).map Dt.str),h) :=MP _ 60 (by decide) h;have ct :=FH (h :=h) (xs :=(nm.map pE).map Dt.str) (ys :=(List.replicate 60 (NC nm (.Rq 0 0 5))).map Dt.str) (s0 _ (by have :=ok.len;simp only[List.length_map,List.length_replicate];omega));have er :(nm.map pE).map Dt.str ++ (List.replicate 60 (NC nm (.Rq 0 0 5))).map Dt.str =(dB nm (List.replicate 60 (.Rq 0 0 5))).map Dt.str :=by unfold dB;rw[List.map_append,List.map_replicate (f :=NC nm)]
     rw[er]at ct;simp only[if_true,BA,ND,KA,HA,pA,EQ,jA,lA,Xd,Yd,kA,iA,g0,c1,c2,c3,rp,ct,Zd,jc,Nat.reduceAdd,s2,ZA,yA]at hX;have o1 :gD nm.length (.Rq 0 0 5) :=⟨by omega,by decide,by decide⟩;have o2 :gD nm.length (.Rq 0 1 1) :=⟨by omega,by decide,by decide⟩;exact out _ _ ⟨⟨nm,_,ok,hn,fun f m =>by rw[(List.mem_replicate.mp m).2];exact o1,by simp,by decide,rfl,qU ok o2 (by simp) (.inl (by simp))⟩⟩ hX.symm
   · rw[decide_eq_false cc]at hX;have n2 :2 ≤ nm.length :=by omega
     have g1 :xA (.lst (nm.map Dt.str)) (.int 1) h =some (.str (EB nm 1),h) :=g 1 (by omega);have l1 :=(ok.ok _ (vD (nm :=nm) (i :=1) (by omega))).hi;obtain⟨c1,c2,c3⟩ :=NH (a :=Str.ofString "one ") (b :=EB nm 0) (c :=Str.ofString " ahead ") (d :=EB nm 1) (by omega) h;rw[RY]at c3;simp only[Xc,if_false,bB,iA,FA,GA,wB,JA,CA,pA,jA,lA,Xd,Yd,kA,g0,g1,c1,c2,c3,Ac,zc,m4,LB,vA]at hX;by_cases t2 :t =2
     · rw[decide_eq_true t2]at hX;have rp :VH (.str (NC nm (.one [(0,1,1)]))) (.int 6,h) =some (.lst ((List.replicate 6 (NC nm (.one [(0,1,1)]))).map Dt.str),h) :=MP _ 6 (by decide) h;have ct :=FH (h :=h) (xs :=(nm.map pE).map Dt.str) (ys :=(List.replicate 6 (NC nm (.one [(0,1,1)]))).map Dt.str) (s0 _ (by have :=ok.len;simp only[List.length_map,List.length_replicate];omega));have er :(nm.map pE).map Dt.str ++ (List.replicate 6 (NC nm (.one [(0,1,1)]))).map Dt.str =(dB nm (List.replicate 6 (.one [(0,1,1)]))).map Dt.str :=by unfold dB;rw[List.map_append,List.map_replicate (f :=NC nm)]
       rw[er]at ct;simp only[if_true,BA,ND,KA,HA,pA,EQ,jA,lA,Xd,Yd,kA,iA,rp,ct,Zd,jc,Nat.reduceAdd,s2,ZA,yA]at hX;have o1 :gD nm.length (.one [(0,1,1)]) :=⟨by decide,by decide,fun w m =>by rw[List.mem_singleton.mp m];exact⟨by show 0<nm.length;omega,by show 1<nm.length;omega,by decide,by decide,by decide⟩⟩;exact out _ _ ⟨⟨nm,_,ok,hn,fun f m =>by rw[(List.mem_replicate.mp m).2];exact o1,by simp,by decide,rfl,qU ok o1 (by simp) (.inr ⟨rfl,by decide⟩)⟩⟩ hX.symm
     · rw[decide_eq_false t2]at hX;have c4 :=RB (h :=h) (x :=EB nm 1) (y :=Str.ofString " behind ") (by omega);have c5 :=RB (h :=h) (x :=EB nm 1 ++ Str.ofString " behind ") (y :=EB nm 0) (by rw[VB];omega);rw[qY]at c5;have rp :VH (.str (CC nm (.good (1,4096,0)))) (.int 7,h) =some (.lst ((List.replicate 7 (CC nm (.good (1,4096,0)))).map Dt.str),h) :=MP _ 7 (by decide) h;have er :(List.replicate 7 (CC nm (.good (1,4096,0)))) =(List.replicate 7 (Pt.good (1,4096,0))).map (CC nm) :=by rw[List.map_replicate]
       rw[er]at rp;have ow :rG nm.length (1,4096,0) :=⟨by show 1<nm.length;omega,by show 0<nm.length;omega,by decide,by decide,by decide⟩;obtain⟨b,j,ll⟩ :=QT (nm :=nm) (ps :=List.replicate 7 (Pt.good (1,4096,0))) (by simp) (by simp) (fun p m =>by rw[(List.mem_replicate.mp m).2];exact gT ok ow) (.inl (by simp));have jk :=uF (h :=h) (z :=Str.ofString " or ") (d := .lst (((List.replicate 7 (Pt.good (1,4096,0))).map (CC nm)).map Dt.str)) rfl j;have c6 :=RB (h :=h) (x :=Str.ofString "one ") (y :=Str.join (Str.ofString " or ") ((List.replicate 7 (Pt.good (1,4096,0))).map (CC nm))) (by omega);simp only[Xc,if_false,bB,iA,FA,BA,ND,KA,HA,pA,kE,EQ,jA,lA,Xd,Yd,kA,g0,g1,c4,c5,rp,jk,c6,Zd,jc,Nat.reduceAdd,s2,ZA,yA]at hX;exact out _ _ ⟨⟨nm, [],ok,hn,fun f m =>(by cases m),by decide,by decide,by unfold dB;rw[yc,Wc],b.Vh []⟩⟩ hX.symm
theorem B4(ns :List Int) :∃ms :List Int,SM.xE (ns.map Dt.int) (some 3) (some 63) =ms.map Dt.int ∧ ms.length ≤ 60 :=by unfold SM.xE;rw[← List.map_drop, ← List.map_take];refine⟨_,rfl,?_⟩;rw[List.length_take,List.length_map];have h1 :HT.Rx ns.length ns.length (some 63) =min 63 ns.length :=HT.Sx ns.length ns.length 63;have h2 :HT.Rx ns.length 0 (some 3) =min 3 ns.length :=HT.Sx ns.length 0 3;rw[h1,h2];omega
theorem kL{rows :List Str}(l :rows.length ≤ 100)(ok :∀r∈rows,cF r) :JoinOk iz rows =true :=by have e1 :rows.length*20000 ≤ 100*20000 :=Nat.mul_le_mul l (by decide);have e2 :rows.length*iz.length ≤ 100*1 :=Nat.mul_le_mul l (by decide);exact cH (fun t m =>(ok t m).len) (by omega)
theorem NP{nm :List Str}(ok :fB nm){fs :List Ft}(hf :∀f∈fs,gD nm.length f) :∀r∈dB nm fs,cF r :=fun r m =>by have :=ZL ok hf r m;exact⟨this.2,by omega⟩
theorem kS(nm :List Str)(fs :List Ft) :(dB nm fs).length =nm.length+fs.length :=by unfold dB;rw[List.length_append,List.length_map,List.length_map]
theorem jS{nm :List Str}(ok :fB nm){fs :List Ft}(hf :∀f∈fs,gD nm.length f)(hl :fs.length ≤ 60)(hg :(fs.filter vB).length ≤ 6){r :Str}(S :Nx nm fs r){rest :List Str}(rs :∀r∈rest,cF r)(lr :nm.length+fs.length+rest.length ≤ 99)(h :HI) :
 ∃g,TD [.str (Str.join iz (dB nm fs ++ r ::rest))] h =some (.int ((nm.length+fs.length+1 :Nat) :Int),h ++ g) :=by
 obtain⟨rk,ws,bad,sp⟩ :=S.sp;obtain⟨g,e⟩ :=wY ok hf hl hg bad sp rk rs lr h;exact⟨g,O4 e⟩
theorem PU{nm :List Str}(ok :fB nm)(hn :nm ≠ []){fs :List Ft}(hf :∀f∈fs,gD nm.length f)(hl :fs.length ≤ 60)(hg :(fs.filter vB).length ≤ 6)(h :HI) :
 ∃g,TD [.str (Str.join iz (dB nm fs))] h =some (.int 0,h ++ g) :=by
 obtain⟨e,qs,er,_⟩ :=K4 ok hn hf hl hg h;exact⟨e,J0 er⟩
theorem LZ(nm :List Str)(fs :List Ft)(A :Nat) :(dB nm fs).take A =dB (nm.take A) (fs.take (A-nm.length)) :=by
 unfold dB;rw[List.take_append,List.length_map, ← List.map_take, ← List.map_take];by_cases c :A<nm.length
 · rw[show A-nm.length =0 by omega];rfl
 · rw[List.take_of_length_le (show nm.length ≤ A by omega)]
theorem i9{nm :List Str}(ok :fB nm){fs :List Ft}(hf :∀f∈fs,gD nm.length f)(hl :fs.length ≤ 60)(hg :(fs.filter vB).length ≤ 6){A :Nat}(hA :A<nm.length+fs.length){r :Str}(S :Nx (nm.take A) (fs.take (A-nm.length)) r){rest :List Str}(rs :∀r∈rest,cF r)(lr :A+rest.length ≤ 90)(h :HI) :
 ∃g,TD [.str (Str.join iz ((dB nm fs).take A ++ r ::rest))] h =some (.int ((A+1 :Nat) :Int),h ++ g) :=by
 have n8 :=ok.len;have l1 :(nm.take A).length+(fs.take (A-nm.length)).length =A :=by rw[List.length_take,List.length_take];omega
 have ok' :fB (nm.take A) :=⟨ok.nd.sublist (List.take_sublist _ _),by rw[List.length_take];omega,fun s m =>ok.ok s (List.mem_of_mem_take m)⟩;have hf' :∀f∈fs.take (A-nm.length),gD (nm.take A).length f :=fun f m =>by
  by_cases c :A<nm.length
  · rw[show A-nm.length =0 by omega]at m;cases m
  · rw[List.take_of_length_le (show nm.length ≤ A by omega)];exact hf f (List.mem_of_mem_take m)
 have hg' :((fs.take (A-nm.length)).filter vB).length ≤ 6 :=Nat.le_trans ((List.Sublist.filter vB (List.take_sublist _ _)).length_le) hg;obtain⟨g,e⟩ :=jS ok' hf' (by rw[List.length_take];omega) hg' S rs (by omega) h;rw[l1]at e;rw[LZ];exact⟨g,e⟩
theorem n9{rows :List Str}{A :Nat}(hA :A<rows.length)(r :Str) :rows.set A r =rows.take A ++ r ::rows.drop (A+1) :=by rw[List.set_eq_take_append_cons_drop,if_pos hA]
theorem law_true(ns :List Int)(hl :ns.length ≤ 63) :∃h',EH [.lst (ns.map Dt.int)] [] =some (.bl true,h') :=by
 have ak :Str.ofString "\n" =iz :=by decide
 have m0 :=Int.emod_nonneg (ns[0]?.getD 0) (show(8 :Int)≠0 by decide);have m1 :=Int.emod_lt_of_pos (ns[0]?.getD 0) (show(0 :Int)<8 by decide);obtain⟨c,ec⟩ :=Int.eq_ofNat_of_zero_le (show 0 ≤ 1+ns[0]?.getD 0%8 by omega);have hc1 :1 ≤ c :=by omega
 have hc :c ≤ 8 :=by omega
 have c0 :∀h,mF [.lst (ns.map Dt.int), .int 0] h =some (.int (ns[0]?.getD 0),h) :=fun h =>uQ ns 0 h
 have c1 :∀h,mF [.lst (ns.map Dt.int), .int 1] h =some (.int (ns[1]?.getD 0),h) :=fun h =>uQ ns 1 h
 have c2 :∀h,mF [.lst (ns.map Dt.int), .int 2] h =some (.int (ns[2]?.getD 0),h) :=fun h =>uQ ns 2 h
 have m8 :=fun(h :HI) =>uB (h :=h) (i :=ns[0]?.getD 0) (j :=8) (by decide)
 obtain⟨cc,Wr⟩ :=Int.eq_ofNat_of_zero_le (Int.emod_nonneg (ns[1]?.getD 0) (show(1000003 :Int)≠0 by decide));obtain⟨g1,eg⟩ :=ZS (te :=LL) (i :=0) (fun(k :Nat) =>Dt.int (k :Int)) (fun k =>Dt.str (cD cc k)) [] (List.range c) [none,some (.lst (ns.map Dt.int))] [] (by
  intro k hk e;obtain⟨g,x⟩ :=F4 (ns[1]?.getD 0) (c :=cc) Wr (k :=k) (by have :=List.mem_range.mp hk;omega) ([] ++ e);refine⟨g,?_⟩;simp only[LL,YA,KA,HA,jA,lA,zc,Xd,Yd,kA,iA,Wc,c1,x])
 simp only[Ec]at eg;have en :(List.range c).map (fun k =>Dt.str (cD cc k)) =(aJ cc c).map Dt.str :=by unfold aJ;rw[List.map_map];rfl
 rw[en]at eg;have hs :((List.range c).map fun(k :Nat) =>Dt.int (k :Int)).length<sizeLine :=by rw[List.length_map,List.length_range];exact Nat.lt_of_le_of_lt hc (by decide)
 have r1 :=lQ (c :=c) (by omega) [];have bh :(aJ cc c).length =c :=by simp[aJ]
 have X :OQ (aJ cc c) :=R8 hc;obtain⟨nm,hnm⟩ :∃nm,nm =aJ cc c :=⟨_,rfl⟩
 rw[← hnm]at eg bh X;have ok :=X.ok;have yr :nm ≠ [] :=fun z =>by rw[z]at bh;simp at bh;omega
 obtain⟨cs,Xr,csl⟩ :=B4 ns;obtain⟨fs,fl,Zw,fg,ef⟩ :=uY cs csl hc1 hc g1;rw[← bh]at Zw;obtain⟨H,eH⟩ :∃H,H =g1 ++ [Ob.lst (fs.map DB)] :=⟨_,rfl⟩
 obtain⟨b,eb⟩ :∃b,b =g1.length :=⟨_,rfl⟩
 rw[← eH, ← eb]at ef;have hb :H[b]? =some (.lst (fs.map DB)) :=by rw[eH,eb];exact VE _ _
 have Sd :b+1 =H.length :=by rw[eH,eb];simp
 have sb :NF (.ref b,H) =some (.rf b,H) :=EL hb;have p1 :=UF (te :=ML) (tc :=rC) (i :=0) Dt.str (fun s =>Dt.str (pE s)) H nm [none] fun s hs =>⟨rfl,by
  have cs :=RB (h :=H) (x :=Str.ofString "stretch ") (y :=s) (by have :=(ok.ok s hs).hi;have :(Str.ofString "stretch ").length =8 :=(by decide);omega);rw[dU]at cs;simp only[ML,pA,lA,jA,zc,Xd,kA,iA,cs]⟩
 have hs1 :(nm.map Dt.str).length<sizeLine :=by rw[List.length_map];exact Nat.lt_of_le_of_lt ok.len (by decide)
 have p2 :=pP (te :=NL) (i :=0) (n :=b) DB (fun f =>Dt.str (NC nm f)) fs [none,some (.lst (nm.map Dt.str))] H hb (Nat.lt_of_le_of_lt fl (by decide)) (by
  intro f hm;have r :=RX ok (Zw f hm) (d := .lst (nm.map Dt.str)) (h :=H) rfl;simp only[NL,YA,KA,HA,jA,zc,Xd,Yd,kA,iA,Wc,r])
 have n8 :=ok.len;obtain⟨rows,Ez⟩ :∃rows,rows =dB nm fs :=⟨_,rfl⟩
 have rl :rows.length =nm.length+fs.length :=by rw[Ez];exact kS nm fs
 have Sh :∀r∈rows,cF r :=by rw[Ez];exact NP ok Zw
 have erw :(nm.map fun s =>Dt.str (pE s)) ++ (fs.map fun f =>Dt.str (NC nm f)) =rows.map Dt.str :=by rw[Ez];unfold dB;rw[List.map_append,List.map_map,List.map_map];rfl
 have cat :xM (.lst (nm.map fun s =>Dt.str (pE s))) (.lst (fs.map fun f =>Dt.str (NC nm f))) H =some (.ref H.length,H ++ [.lst (rows.map Dt.str)]) :=by
  have :(nm.map fun s =>Dt.str (pE s)).length+(fs.map fun f =>Dt.str (NC nm f)).length ≤ sizeLine :=by simp only[List.length_map];exact Nat.le_trans (show nm.length+fs.length ≤ 68 by omega) (by decide)
  simp only[xM,uA,Dc,if_pos this,erw]
 obtain⟨H2,Vg⟩ :∃H2,H2 =H ++ [Ob.lst (rows.map Dt.str)] :=⟨_,rfl⟩
 obtain⟨a,ea⟩ :∃a,a =H.length :=⟨_,rfl⟩
 rw[← Vg, ← ea]at cat;have ha2 :∀g :HI,(H2 ++ g)[a]? =some (.lst (rows.map Dt.str)) :=fun g =>by rw[Qc (by rw[Vg,ea];simp),Vg,ea];exact VE _ _
 have hb2 :∀g :HI,(H2 ++ g)[b]? =some (.lst (fs.map DB)) :=fun g =>by rw[Vg,List.append_assoc,Qc (by omega)];exact hb
 obtain⟨M2,b2,e2'⟩ :=gH (ns[2]?.getD 0) (k :=2) (by decide) H2;have e2' :wD [.int (ns[2]?.getD 0), .int 2] H2 =some (.int (M2 :Nat),H2) :=e2';have k6 :=fun(h :HI) =>uB (h :=h) (i :=(M2 :Int)) (j :=6) (by decide)
 have d6 :=fun(h :HI) =>eD (h :=h) (i :=(M2 :Int)) (j :=6) ⟨by omega,by decide⟩
 have yh :=fun(h :HI) =>eD (h :=h) (i :=(M2 :Int)) (j :=600) ⟨by omega,by decide⟩
 have k2 :=fun(h :HI) =>uB (h :=h) (i :=(M2 :Int)/600) (j :=2) (by decide)
 have sl :∀(l :LI)(h :HI),l[0]? =some (some (.lst (ns.map Dt.int))) → IH (eV 0) (fF (eC (.int 3))) (fF (eC (.int 63))) l h =some (.lst (cs.map Dt.int),h) :=by intro l h h0;simp[h0,Xr]
 have s1 :1 ≤ sizeLine :=by decide
 generalize hX :EH [.lst (ns.map Dt.int)] [] =Y;simp only[EH,HM,XA,Zd,jc,if_true,uc (f :=some),yc (f :=some),Nat.reduceAdd,Nat.reduceSub,List.replicate,Jc,Ec,GA,wB,YA,KA,HA,pA,jA,lA,Xd,Yd,Ac,zc,kA,iA,Wc,c0,c2,m8,dD,ec,FA,fH,BM,r1,WE,TF,XE,Option.join_some,VD _ _ _ hs,eg,sl,ef,FG,nH,VD _ _ _ hs1,p1,sb,p2,cat,e2',JA,CA,k6,MK,vA]at hX;by_cases t0 :(M2 :Int)%6 =0
 · obtain⟨rs,r,Bh,F⟩ :=D4 ok yr (M2/6) (.ref a) H2;have Bh :iI [.lst (nm.map Dt.str), .ref a, .int ((M2 :Int)/6)] H2 =some (.tup [.lst (rs.map Dt.str), .str r],H2) :=Bh;obtain⟨nm',fs',o1,o2,o3,o4,o5,rfl,S⟩ :=F.ex;obtain⟨g3,Wg⟩ :=PU o1 o2 o3 o4 o5 H2;have Td :=o1.len;have ls :=kS nm' fs';obtain⟨g4,Zr⟩ :=jS o1 o3 o4 o5 S (rest := []) (fun r m =>by cases m) (by simp;omega) (H2 ++ g3);have j1 :=uF (h :=H2) (z :=iz) (d := .lst ((dB nm' fs').map Dt.str)) rfl (kL (by omega) (NP o1 o3));have ct :=FH (h :=H2 ++ g3) (xs :=(dB nm' fs').map Dt.str) (ys := [Dt.str r]) (by simp only[List.length_map,Zd,jc];exact Nat.le_trans (show(dB nm' fs').length+(0+1) ≤ 100 by omega) (by decide));have ct' :(dB nm' fs').map Dt.str ++ [Dt.str r] =(dB nm' fs' ++ [r]).map Dt.str :=by simp
   rw[ct']at ct;have j2 :=uF (h :=H2 ++ g3) (z :=iz) (d := .lst ((dB nm' fs' ++ [r]).map Dt.str)) rfl (kL (by rw[List.length_append];simp only[Zd,jc];omega) (fun t m =>by
    rcases List.mem_append.mp m with z | z
    · exact NP o1 o3 t z
    · rw[List.mem_singleton.mp z];exact S.sp.1))
   have i0 :∀h :HI,xA (.tup [.lst ((dB nm' fs').map Dt.str), .str r]) (.int 0) h =some (.lst ((dB nm' fs').map Dt.str),h) :=fun _ =>rfl
   have i1 :∀h :HI,xA (.tup [.lst ((dB nm' fs').map Dt.str), .str r]) (.int 1) h =some (.str r,h) :=fun _ =>rfl
   have Gh :∀h :HI,oB (.lst ((dB nm' fs').map Dt.str)) h =some (.int (((dB nm' fs').length :Nat) :Int),h) :=fun h =>by have :=ZJ (xs :=(dB nm' fs').map Dt.str) (h :=h);rwa[List.length_map]at this
   have dq :decide (((nm'.length+fs'.length+1 :Nat) :Int) =((dB nm' fs').length :Nat)+1) =true :=decide_eq_true (by rw[ls];omega);rw[decide_eq_true t0]at hX;simp only[if_true,d6,Bh,iA,Ac,zc,FA,GA,wB,JA,CA,pA,YA,KA,HA,kE,ak,jA,lA,Xd,Yd,kA,Wc,i0,i1,j1,Wg,xR,decide_true,Bool.not_true,vA,Xc,if_false,bB,BA,YD,Zd,jc,Nat.reduceAdd,s1,ct,j2,Zr,MB,Gh,dD,MK,dq,ZA,yA]at hX;exact⟨_,hX.symm⟩
 · obtain⟨g3,Wg⟩ :=PU ok yr Zw fl fg H2;rw[← Ez]at Wg;have j1 :=uF (h :=H2) (z :=iz) (d := .ref a) (ts :=rows) (by have :=ha2 [];rw[Wc]at this;simp only[uA,this]) (kL (by omega) Sh);have Gh :∀g :HI,oB (.ref a) (H2 ++ g) =some (.int ((rows.length :Nat) :Int),H2 ++ g) :=fun g =>by have :=qF (ha2 g);rwa[List.length_map]at this
   have ml :=fun(h :HI) =>uB (h :=h) (i :=(M2 :Int)/6) (j :=((rows.length :Nat) :Int)) (by omega)
   obtain⟨A,hA⟩ :∃A :Nat,A =M2/6%rows.length :=⟨_,rfl⟩
   have Al :A<rows.length :=hA ▸ Nat.mod_lt _ (by omega);have eA :(M2 :Int)/6%((rows.length :Nat) :Int) =((A :Nat) :Int) :=by rw[hA];rfl
   rw[eA]at ml;obtain⟨M3,b3,e3⟩ :=gH (ns[2]?.getD 0) (k :=3) (by decide) (H2 ++ g3);have e3 :wD [.int (ns[2]?.getD 0), .int 3] (H2 ++ g3) =some (.int (M3 :Nat),H2 ++ g3) :=e3;obtain⟨row,hrow⟩ :∃row,rows[A]? =some row :=⟨rows[A],by simp⟩
   have sq :uA (H2 ++ g3) (.ref a) =some (rows.map Dt.str) :=by simp only[uA,ha2]
   have gr :xA (.ref a) (.int (A :Nat)) (H2 ++ g3) =some (.str row,H2 ++ g3) :=TC sq (by rw[List.getElem?_map,hrow];rfl);obtain⟨r,g4,es,S⟩ :=K3 X Zw (A :=A) (row :=row) (by rw[← Ez];exact hrow) (N :=M3) (by omega) (d := .lst (nm.map Dt.str)) (d2 := .ref b) (h :=H2 ++ g3) (fun _ =>rfl) (by simp only[uA,hb2]);obtain⟨G,hG⟩ :∃G,G =g3 ++ g4 :=⟨_,rfl⟩
   rw[List.append_assoc, ← hG]at es;have s3 :=fun(l :LI) =>JJ (l :=l) (v := .str r) (k :=A) (ha2 G) (by rw[List.length_map];exact Al)
   rw[← List.map_set]at s3;obtain⟨H5,Ah⟩ :∃H5,H5 =(H2 ++ G).set a (.lst ((rows.set A r).map Dt.str)) :=⟨_,rfl⟩
   rw[← Ah]at s3;have Bk :a<(H2 ++ G).length :=(Kc (ha2 G)).1;have Xg :H5[a]? =some (.lst ((rows.set A r).map Dt.str)) :=by rw[Ah,List.getElem?_set_self Bk]
   have Mt :oB (.ref a) H5 =some (.int ((rows.length :Nat) :Int),H5) :=by have :=qF Xg;rwa[List.length_map,List.length_set]at this
   rw[decide_eq_false t0]at hX;simp only[Xc,if_false,bB,iA,FA,GA,wB,JA,CA,pA,YA,KA,HA,kE,ak,jA,lA,Xd,Yd,kA,Wc,j1,Wg,xR,decide_true,Bool.not_true,vA,d6,MB,Gh,ml,Ac,zc,WL,gr,c2,e3,es,s3]at hX;have tt :(LD (Aq (e2 QG (e2 wC (eV 7) (eC (.int 1))) (HC oB (eV 4)))) (Aq (e2 CD (e2 WA (e2 OB (eV 5) (eC (.int 600))) (eC (.int 2))) (eC (.int 1))))) [some (.lst (ns.map Dt.int)),some (.int (c :Nat)),some (.lst (nm.map Dt.str)),some (.ref b),some (.ref a),some (.int (M2 :Nat)),none,some (.int (A :Nat))] H5 =some (decide (A+1<rows.length ∧ (M2 :Int)/600%2 =1),H5) :=by
    simp only[YE,CA,pA,MB,jA,lA,Xd,Yd,kA,iA,dD,Mt,fE,yh,k2,MK,vA];by_cases q1 :A+1<rows.length
    · rw[decide_eq_true (show((A :Nat) :Int)+1<((rows.length :Nat) :Int) by omega)];simp[q1]
    · rw[decide_eq_false (show ¬((A :Nat) :Int)+1<((rows.length :Nat) :Int) by omega)];simp[q1]
   have fin :∀(rest :List Str)(H6 :HI),(∀r∈rest,cF r) → A+rest.length ≤ 90 → H6[a]? =some (.lst ((rows.take A ++ r ::rest).map Dt.str)) → ∃h',DA (e2 CD (UA TD [] (cA (WC (eC (.str iz)) (eV 4)) sA)) (e2 wC (eV 7) (eC (.int 1)))) [some (.lst (ns.map Dt.int)),some (.int (c :Nat)),some (.lst (nm.map Dt.str)),some (.ref b),some (.ref a),some (.int (M2 :Nat)),none,some (.int (A :Nat))] H6 =some (.rt (.bl true) h') :=by
    intro rest H6 q1 q2 q3;obtain⟨g7,e7⟩ :=i9 ok Zw fl fg (by omega) S q1 q2 H6;rw[← Ez]at e7;have j7 :=uF (h :=H6) (z :=iz) (d := .ref a) (ts :=rows.take A ++ r ::rest) (by simp only[uA,q3]) (kL (by rw[List.length_append,List.length_take,Zd];omega) (fun t m =>by
     rcases List.mem_append.mp m with z | z
     · exact Sh t (List.mem_of_mem_take z)
     · rcases List.mem_cons.mp z with rfl | z
       · exact S.sp.1
       · exact q1 t z))
    have dq :decide (((A+1 :Nat) :Int) =((A :Nat) :Int)+1) =true :=decide_eq_true (by omega);refine⟨H6 ++ g7,?_⟩;simp only[BA,pA,YA,KA,HA,kE,lA,jA,Xd,Yd,kA,iA,Wc,j7,e7,dD,MK,dq]
   rw[n9 Al r]at Xg;have dl :∀t∈rows.drop (A+1),cF t :=fun t m =>Sh t (List.mem_of_mem_drop m)
   by_cases cc :A+1<rows.length ∧ (M2 :Int)/600%2 =1
   · rw[decide_eq_true cc]at tt;have Yr :((rows.length :Nat) :Int)-1 =((rows.length-1 :Nat) :Int) :=by omega
     have s4 :=fun(l :LI) =>JJ (l :=l) (v := .str "") (k :=rows.length-1) Xg (by rw[List.length_map,List.length_append,List.length_take,Zd,List.length_drop];omega)
     rw[← List.map_set]at s4;have es2 :(rows.take A ++ r ::rows.drop (A+1)).set (rows.length-1) "" =rows.take A ++ r ::(rows.drop (A+1)).set (rows.length-1-A-1) "" :=by
      rw[List.set_append_right _ _ (by rw[List.length_take];omega),List.length_take,Nat.min_eq_left (by omega)];obtain⟨j,hj⟩ :∃j,rows.length-1-A =j+1 :=⟨rows.length-1-A-1,by omega⟩
      rw[hj];rfl
     rw[es2]at s4;have Ir :a<H5.length :=by rw[Ah,List.length_set];exact Bk
     obtain⟨h',e9⟩ :=fin ((rows.drop (A+1)).set (rows.length-1-A-1) "") (H5.set a (.lst ((rows.take A ++ r ::(rows.drop (A+1)).set (rows.length-1-A-1) "").map Dt.str))) (fun t m =>by
      rcases List.mem_or_eq_of_mem_set m with z | rfl
      · exact dl t z
      · exact⟨by decide,by decide⟩) (by rw[List.length_set,List.length_drop];omega) (List.getElem?_set_self Ir)
     simp only[tt,if_true,iA,WL,lA,jA,pA,MB,Xd,Yd,kA,Mt,zM,Yr,s4,FA,e9,yA]at hX;exact⟨h',hX.symm⟩
   · rw[decide_eq_false cc]at tt;obtain⟨h',e9⟩ :=fin (rows.drop (A+1)) H5 dl (by rw[List.length_drop];omega) Xg;simp only[tt,Xc,if_false,bB,iA,FA,e9,yA]at hX;exact⟨h',hX.symm⟩
set_option maxHeartbeats 0 in
theorem C5 {l :PySem.W.OpenLaw} {w :World} {K :Frag} {h :Heap} {mg :Str → Option Value} {fa :Addr} (X :K.In h) (G :h.Ns mainGlobals mg) (hfa :mg "law" =some (.ref fa))
 {Bx :Addr} {zq :Addr} {Mq :Addr} {Cq :Addr} {Dq :Addr} {jx :Addr} {qx :Addr} {Av :Addr} {Cv :Value} {Tz :Value} {Iz :Value} {Hz :Value} {Gz :Value} {Fz :Value} {Yx :Value}
 (yq0 :JB K "ways_in" fP) (yq1 :JB K "set_of" vP) (yq2 :JB K "groups_in" FO) (yq3 :JB K "is_length" nO) (yq4 :JB K "has_room" SO) (yq5 :JB K "all_of" uP) (yq6 :JB K "is_name" dP) (yq7 :JB K "is_number" oO) (yq8 :JB K "words_of" VO) (yq9 :JB K "set_told" UO) (yq10 :JB K "ways_told" pO) (yq11 :JB K "length_told" gO) (yq12 :JB K "group_told" MO) (yq13 :JB K "fact_told" EO) (yq14 :JB K "tells_stretch" QN) (yq15 :JB K "read" nQ) (yq16 :JB K "_law_cell_at" HN) (yq17 :JB K "_law_mixed" KO) (yq18 :JB K "_law_name_by" JN) (yq19 :JB K "_law_words" LO) (yq20 :JB K "_law_pair_by" KN) (yq21 :JB K "_law_length_by" XN) (yq22 :JB K "_law_ways_by" lO) (yq23 :JB K "_law_fact_by" IN) (yq24 :JB K "_law_facts_by" ON) (yq25 :JB K "_law_ways_row" PN) (yq26 :JB K "_law_fact_row" NN) (yq27 :JB K "_law_bad_number" vN) (yq28 :JB K "_law_bad_ways" MN) (yq29 :JB K "_law_bad_length" uN) (yq30 :JB K "_law_bad_group" WN) (yq31 :JB K "_law_bad_stretch" xN) (yq32 :JB K "_law_spoiled" kO) (yq33 :JB K "_law_refusal" jO) (yq34 :JB K "_law_full" DO) (yq35 :JB K "law" FQ) (yq36 :nsIn K mainGlobals "BadFact" =some (some (.ref jx))) (yq37 :nsIn K mainGlobals "BadText" =some (some (.ref zq))) (yq38 :nsIn K mainGlobals "NoLabel" =some (some (.ref Cq))) (yq39 :nsIn K mainGlobals "NoName" =some (some (.ref Dq))) (yq40 :nsIn K mainGlobals "SpanError" =some (some (.ref Bx))) (yq41 :nsIn K mainGlobals "TooMany" =some (some (.ref qx))) (yq42 :nsIn K mainGlobals "Twice" =some (some (.ref Mq))) (yq43 :pH K Bx =true) (yq44 :KH K zq "BadText" "BadText.__init__" "row" wN) (yq45 :KH K Mq "Twice" "Twice.__init__" "word" ER) (yq46 :KH K Cq "NoLabel" "NoLabel.__init__" "word" DR) (yq47 :KH K Dq "NoName" "NoName.__init__" "word" BR) (yq48 :AH K zq =true) (yq49 :PySem.W.exmOne K (.ref zq) (.ref Bx) =some true) (yq50 :PySem.W.kitOne K (.ref zq) (.ref jx) =some false) (yq51 :PySem.W.kitOne K (.ref Mq) (.ref jx) =some false) (yq52 :PySem.W.kitOne K (.ref Cq) (.ref jx) =some false) (yq53 :PySem.W.kitOne K (.ref Dq) (.ref jx) =some false) (yq54 :PySem.W.kitOne K (.ref zq) (.ref zq) =some true) (yq55 :PySem.W.kitOne K (.ref Mq) (.ref zq) =some false) (yq56 :PySem.W.kitOne K (.ref Cq) (.ref zq) =some false) (yq57 :PySem.W.kitOne K (.ref Dq) (.ref zq) =some false) (yq58 :PySem.W.kitOne K (.ref zq) (.ref Cq) =some false) (yq59 :PySem.W.kitOne K (.ref Mq) (.ref Cq) =some false) (yq60 :PySem.W.kitOne K (.ref Cq) (.ref Cq) =some true) (yq61 :PySem.W.kitOne K (.ref Dq) (.ref Cq) =some false) (yq62 :PySem.W.kitOne K (.ref zq) (.ref Dq) =some false) (yq63 :PySem.W.kitOne K (.ref Mq) (.ref Dq) =some false) (yq64 :PySem.W.kitOne K (.ref Cq) (.ref Dq) =some false) (yq65 :PySem.W.kitOne K (.ref Dq) (.ref Dq) =some true) (yq66 :PySem.W.kitOne K (.ref zq) (.ref qx) =some false) (yq67 :PySem.W.kitOne K (.ref Mq) (.ref qx) =some false) (yq68 :PySem.W.kitOne K (.ref Cq) (.ref qx) =some false) (yq69 :PySem.W.kitOne K (.ref Dq) (.ref qx) =some false) (yq70 :PySem.W.kitOne K (.ref zq) (.ref Mq) =some false) (yq71 :PySem.W.kitOne K (.ref Mq) (.ref Mq) =some true) (yq72 :PySem.W.kitOne K (.ref Cq) (.ref Mq) =some false) (yq73 :PySem.W.kitOne K (.ref Dq) (.ref Mq) =some false) (yq74 :PySem.W.kitOne K (.ref zq) (.type "ValueError") =some true) (yq75 :PySem.W.kitOne K (.ref Mq) (.type "ValueError") =some true) (yq76 :PySem.W.kitOne K (.ref Cq) (.type "ValueError") =some true) (yq77 :PySem.W.kitOne K (.ref Dq) (.type "ValueError") =some true) (yq78 :nsIn K mainGlobals "ValueError" =some none) (yq79 :nsIn K mainGlobals "all" =some none) (yq80 :nsIn K mainGlobals "bool" =some none) (yq81 :nsIn K mainGlobals "enumerate" =some none) (yq82 :nsIn K mainGlobals "int" =some none) (yq83 :nsIn K mainGlobals "isinstance" =some none) (yq84 :nsIn K mainGlobals "len" =some none) (yq85 :nsIn K mainGlobals "min" =some none) (yq86 :nsIn K mainGlobals "range" =some none) (yq87 :nsIn K mainGlobals "str" =some none) (yq88 :nsIn K mainGlobals "sum" =some none) (yq89 :nsIn K mainGlobals "WORDS" =some (some (.ref Av))) (yq90 :AC K 6 (.ref Av) =some EJ) (yq91 :nsIn K mainGlobals "FACTS" =some (some Cv)) (yq92 :AC K 6 Cv =some VP) (yq93 :nsIn K mainGlobals "GROUPS" =some (some Tz)) (yq94 :AC K 6 Tz =some BP) (yq95 :nsIn K mainGlobals "MEMBERS" =some (some Iz)) (yq96 :AC K 6 Iz =some nP) (yq97 :nsIn K mainGlobals "LONGEST" =some (some Hz)) (yq98 :AC K 6 Hz =some mP) (yq99 :nsIn K mainGlobals "LETTERS" =some (some Gz)) (yq100 :AC K 6 Gz =some lP) (yq101 :nsIn K mainGlobals "FIGURES" =some (some Fz)) (yq102 :AC K 6 Fz =some kP) (yq103 :nsIn K mainGlobals "STRETCHES" =some (some Yx)) (yq104 :AC K 6 Yx =some xO)
 :∃fd :FuncData,(∀(s :Shared) (v :Value),BindsTo s fd ⟨[v], []⟩ [("_law_script",v)]) ∧ ∀base :Heap,K.In base → base.Ns mainGlobals mg → Uq l.prog w K mg base iF 9 fa fd ["_law_script"] (sK K 1 EH) :=by
 have T :Txt K mg := {
  Ig :=PB X G yq0 fun _ _ _ _ _ _ =>kF (fun _ =>rfl)
  Ng :=PB X G yq1 fun _ _ _ _ _ _ =>kF (fun _ =>rfl)
  dg :=PB X G yq2 fun _ _ _ _ _ _ =>kF (fun _ =>rfl)
  ig :=PB X G yq3 fun _ _ _ _ _ _ =>OC (fun _ _ =>rfl)
  ug :=PB X G yq4 fun _ _ _ _ _ _ =>OC (fun _ _ =>rfl)
  Mg :=PB X G yq5 fun _ _ _ _ _ _ =>OC (fun _ _ =>rfl)
  Hg :=PB X G yq6 fun _ _ _ _ _ _ =>kF (fun _ =>rfl)
  jg :=PB X G yq7 fun _ _ _ _ _ _ =>kF (fun _ =>rfl)
  wg :=PB X G yq8 fun _ _ _ _ _ _ =>kF (fun _ =>rfl)
  vg :=PB X G yq9 fun _ _ _ _ _ _ =>kF (fun _ =>rfl)
  lg :=PB X G yq10 fun _ _ _ _ _ _ =>OC (fun _ _ =>rfl)
  Qy :=PB X G yq11 fun _ _ _ _ _ _ =>OC (fun _ _ =>rfl)
  Vy :=PB X G yq12 fun _ _ _ _ _ _ =>OC (fun _ _ =>rfl)
  cg :=PB X G yq13 fun _ _ _ _ _ _ =>OC (fun _ _ =>rfl)
  Ay :=PB X G yq14 fun _ _ _ _ _ _ =>OC (fun _ _ =>rfl)
  Pg :=PB X G yq15 fun _ _ _ _ _ _ =>kF (fun _ =>rfl)
  Ey :=PB X G yq16 fun _ _ _ _ _ _ =>OC (fun _ _ =>rfl)
  Sy :=PB X G yq17 fun _ _ _ _ _ _ =>OC (fun _ _ =>rfl)
  Gy :=PB X G yq18 fun _ _ _ _ _ _ =>OC (fun _ _ =>rfl)
  Uy :=PB X G yq19 fun _ _ _ _ _ _ =>YI rfl
  Hy :=PB X G yq20 fun _ _ _ _ _ _ =>OC (fun _ _ =>rfl)
  Cy :=PB X G yq21 fun _ _ _ _ _ _ =>OC (fun _ _ =>rfl)
  Ly :=PB X G yq22 fun _ _ _ _ _ _ =>OC (fun _ _ =>rfl)
  Fy :=PB X G yq23 fun _ _ _ _ _ _ =>RH (fun _ _ _ =>rfl)
  uy :=PB X G yq24 fun _ _ _ _ _ _ =>OC (fun _ _ =>rfl)
  zy :=PB X G yq25 fun _ _ _ _ _ _ =>OC (fun _ _ =>rfl)
  sy :=PB X G yq26 fun _ _ _ _ _ _ =>OC (fun _ _ =>rfl)
  jy :=PB X G yq27 fun _ _ _ _ _ _ =>kF (fun _ =>rfl)
  Dy :=PB X G yq28 fun _ _ _ _ _ _ =>RH (fun _ _ _ =>rfl)
  iy :=PB X G yq29 fun _ _ _ _ _ _ =>RH (fun _ _ _ =>rfl)
  Zk :=PB X G yq30 fun _ _ _ _ _ _ =>RH (fun _ _ _ =>rfl)
  qy :=PB X G yq31 fun _ _ _ _ _ _ =>RH (fun _ _ _ =>rfl)
  Ky :=PB X G yq32 fun _ _ _ _ _ _ =>ZV (fun _ _ _ _ _ =>rfl)
  Jy :=PB X G yq33 fun _ _ _ _ _ _ =>kF (fun _ =>rfl)
  Zy :=PB X G yq34 fun _ _ _ _ _ _ =>RH (fun _ _ _ =>rfl)
  gw :=RL X G yq44 yq40 yq43 fun _ _ _ _ _ _ =>OC (fun _ _ =>rfl)
  Et :=RL X G yq45 yq40 yq43 fun _ _ _ _ _ _ =>OC (fun _ _ =>rfl)
  jt :=RL X G yq46 yq40 yq43 fun _ _ _ _ _ _ =>OC (fun _ _ =>rfl)
  Bt :=RL X G yq47 yq40 yq43 fun _ _ _ _ _ _ =>OC (fun _ _ =>rfl)
  qg :=v9 yq37 yq48
  Ny :=⟨⟨_,PySem.W.mg_of X G yq40,yY yq37 yq49 (CY)⟩⟩
  xg :=⟨⟨_,PySem.W.mg_of X G yq36,qC yq44 yq50 (qC yq45 yq51 (qC yq46 yq52 (qC yq47 yq53 (rH))))⟩⟩
  yg :=⟨⟨_,PySem.W.mg_of X G yq37,qC yq44 yq54 (qC yq45 yq55 (qC yq46 yq56 (qC yq47 yq57 (rH))))⟩⟩
  Ag :=⟨⟨_,PySem.W.mg_of X G yq38,qC yq44 yq58 (qC yq45 yq59 (qC yq46 yq60 (qC yq47 yq61 (rH))))⟩⟩
  Jg :=⟨⟨_,PySem.W.mg_of X G yq39,qC yq44 yq62 (qC yq45 yq63 (qC yq46 yq64 (qC yq47 yq65 (rH))))⟩⟩
  Bg :=⟨⟨_,PySem.W.mg_of X G yq41,qC yq44 yq66 (qC yq45 yq67 (qC yq46 yq68 (qC yq47 yq69 (rH))))⟩⟩
  Kg :=⟨⟨_,PySem.W.mg_of X G yq42,qC yq44 yq70 (qC yq45 yq71 (qC yq46 yq72 (qC yq47 yq73 (rH))))⟩⟩
  Ry :=qC yq44 yq74 (qC yq45 yq75 (qC yq46 yq76 (qC yq47 yq77 (rH))))
  Py :=mg_none_of X G yq78
  Sg :=mg_none_of X G yq79
  Qg :=mg_none_of X G yq80
  Xy :=mg_none_of X G yq81
  iw :=mg_none_of X G yq82
  Dz :=mg_none_of X G yq83
  Zq :=mg_none_of X G yq84
  Tg :=mg_none_of X G yq85
  Uz :=mg_none_of X G yq86
  Oz :=mg_none_of X G yq87
  Ug :=mg_none_of X G yq88
  Fw :=⟨⟨_,6,PySem.W.mg_of X G yq89,yq90⟩⟩
  Og :=⟨⟨_,6,PySem.W.mg_of X G yq91,yq92⟩⟩
  Lg :=⟨⟨_,6,PySem.W.mg_of X G yq93,yq94⟩⟩
  Gg :=⟨⟨_,6,PySem.W.mg_of X G yq95,yq96⟩⟩
  Fg :=⟨⟨_,6,PySem.W.mg_of X G yq97,yq98⟩⟩
  Dg :=⟨⟨_,6,PySem.W.mg_of X G yq99,yq100⟩⟩
  Cg :=⟨⟨_,6,PySem.W.mg_of X G yq101,yq102⟩⟩
  Yy :=⟨⟨_,6,PySem.W.mg_of X G yq103,yq104⟩⟩
 }
 obtain⟨f,oc,od,kV,dc,pm,an,cd,ct,sl,a,l1,c1,k1⟩ :=yq35;have e :=hfa.symm.trans (PySem.W.mg_of X G a);cases e;exact⟨_,fun s v => .of_eq rfl,fun base _ _ =>O7 T base (pQ l1 c1 k1)⟩
end G
open PySem.W
set_option maxRecDepth 100000 in
set_option maxHeartbeats 0 in
theorem PySem.Challenge.cw_spanways_k29_rows_at_fault_holds : PySem.Challenge.rw_spanways_k29_rows_at_fault.Holds := by
 w_on;o_law;k_head;(case hw =>w_witness2)
 k_fill
 refine SM.C1 (l :=PySem.Challenge.rw_spanways_k29_rows_at_fault) (F :=G.EH) (k :=9) (x := "_law_script") rfl rfl ⟨rfl,by decide,by decide⟩ (fun w h Y=>PySem.W.kIn_of Y) ?F G.law_true
 case F=>
  intro w mg fa h KX GN hmg
  refine' G.C5 KX GN hmg ?yq0 ?yq1 ?yq2 ?yq3 ?yq4 ?yq5 ?yq6 ?yq7 ?yq8 ?yq9 ?yq10 ?yq11 ?yq12 ?yq13 ?yq14 ?yq15 ?yq16 ?yq17 ?yq18 ?yq19 ?yq20 ?yq21 ?yq22 ?yq23 ?yq24 ?yq25 ?yq26 ?yq27 ?yq28 ?yq29 ?yq30 ?yq31 ?yq32 ?yq33 ?yq34 ?yq35 ?yq36 ?yq37 ?yq38 ?yq39 ?yq40 ?yq41 ?yq42 ?yq43 ?yq44 ?yq45 ?yq46 ?yq47 ?yq48 ?yq49 ?yq50 ?yq51 ?yq52 ?yq53 ?yq54 ?yq55 ?yq56 ?yq57 ?yq58 ?yq59 ?yq60 ?yq61 ?yq62 ?yq63 ?yq64 ?yq65 ?yq66 ?yq67 ?yq68 ?yq69 ?yq70 ?yq71 ?yq72 ?yq73 ?yq74 ?yq75 ?yq76 ?yq77 ?yq78 ?yq79 ?yq80 ?yq81 ?yq82 ?yq83 ?yq84 ?yq85 ?yq86 ?yq87 ?yq88 ?yq89 ?yq90 ?yq91 ?yq92 ?yq93 ?yq94 ?yq95 ?yq96 ?yq97 ?yq98 ?yq99 ?yq100 ?yq101 ?yq102 ?yq103 ?yq104
  (case yq0 | yq1 | yq2 | yq3 | yq4 | yq5 | yq6 | yq7 | yq8 | yq9 | yq10 | yq11 | yq12 | yq13 | yq14 | yq15 | yq16 | yq17 | yq18 | yq19 | yq20 | yq21 | yq22 | yq23 | yq24 | yq25 | yq26 | yq27 | yq28 | yq29 | yq30 | yq31 | yq32 | yq33 | yq34 | yq35=>exact⟨_,_,_,_,_,_,_,_,_,_,by k_is,by k_is,by k_is,by k_is⟩)
  (case yq36 | yq37 | yq38 | yq39 | yq40 | yq41 | yq42=>k_is)
  (case yq43=>kernel_rfl)
  (case yq44 | yq45 | yq46 | yq47=>exact⟨_,_,_,_,_,_,_,_,_,_,by k_is,by k_is,by k_is,by k_is,by k_is,by k_is,by kernel_rfl,by k_is,by kernel_rfl,by k_is⟩)
  (case yq48 | yq49 | yq50 | yq51 | yq52 | yq53 | yq54 | yq55 | yq56 | yq57 | yq58 | yq59 | yq60 | yq61 | yq62 | yq63 | yq64 | yq65 | yq66 | yq67 | yq68 | yq69 | yq70 | yq71 | yq72 | yq73 | yq74 | yq75 | yq76 | yq77=>kernel_rfl)
  (case yq78 | yq79 | yq80 | yq81 | yq82 | yq83 | yq84 | yq85 | yq86 | yq87 | yq88 | yq89=>k_is)
  (case yq90=>kernel_rfl)
  (case yq91=>k_is)
  (case yq92=>kernel_rfl)
  (case yq93=>k_is)
  (case yq94=>kernel_rfl)
  (case yq95=>k_is)
  (case yq96=>kernel_rfl)
  (case yq97=>k_is)
  (case yq98=>kernel_rfl)
  (case yq99=>k_is)
  (case yq100=>kernel_rfl)
  (case yq101=>k_is)
  (case yq102=>kernel_rfl)
  (case yq103=>k_is)
  (case yq104=>kernel_rfl)
end
