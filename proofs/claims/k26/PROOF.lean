import PyProof.Rows.All
import Wide.All
import OpenK.AllK
import Wide.FinOn
import Lean
import PyProof.EqAt
import PyProof.EqKinds
import PyProof.TupleCall
import PySem.Challenge.RW_spanways_k26_a_book_kept
set_option Elab.async false
set_option linter.all false
set_option maxRecDepth 100000
set_option bootstrap.genMatcherCode false
noncomputable section
namespace PySem.W.Fast
def tw11081831844723103919:=0
def tw18197441466703978120:=0
def tw11247445003398103817:=0
def tw10202568789977616186:=0
def tw1993847990734456133:=0
def tw6340516951257352639:=0
def tw12038730157451091850:=0
def tw17822442679819175108:=0
def tw11502859974375516773:=0
def tw10343758015499410926:=0
def tw10244471987804723324:=0
def tw17807924832002785818:=0
def tw3098239332610481247:=0
def tw8262652228422466847:=0
def tw18277044439536024582:=0
def tw4226787451632370095:=0
def tw11488849304393714800:=0
def tw16121388245775894040:=0
def tw10511075138609735028:=0
def tw3116684965696025058:=0
def tw16546701661850378586:=0
def tw4915958563866372036:=0
def tw9501085665498909813:=0
def tw4244527790577092747:=0
def tw16824644592254210760:=0
def tw17216114390636172508:=0
def tw17376625951832285366:=0
def tw108058568611948650:=0
def tw16757433148722464572:=0
def tw12588779895941912541:=0
def tw10400211942576974933:=0
def tw3814783925215540733:=0
def tw11335947864826718006:=0
def tw4507990545790944138:=0
def tw5310733282500752917:=0
def tw11121633991990893519:=0
def tw10068134920155018141:=0
def tw5591436194853198661:=0
def tw12433590081809380948:=0
def tw6942245582828834276:=0
def tw4615079696931276806:=0
def tw5920419078087379585:=0
def tw1977986976635298312:=0
def tw13008359039121656756:=0
def tw1366295768128522529:=0
def tw5363223030880044844:=0
def tw11835270572577697195:=0
def tw16420252798476578674:=0
def tw14407411006094554188:=0
def tw1398379298556912630:=0
def tw2693775627211069583:=0
def tw4812810241739188853:=0
def tw5165237482827191578:=0
def tw9333759119536575811:=0
def tw1152371046816753686:=0
def tw14945919262478054346:=0
def tw16670064983832517082:=0
def tw5342255218125749013:=0
def tw1441649108205529534:=0
def tw1585212257833002010:=0
def tw12101170544780202393:=0
def tw7312323604848100400:=0
def tw267442475866744218:=0
def tw9351308538460043842:=0
def tw8849743156233734060:=0
def tw14250419410524695879:=0
def tw16215345827276134491:=0
def tw11781462026287232860:=0
def tw6183198613858351651:=0
def tw17514868943599029325:=0
def tw9961761240643086204:=0
def tw13158855219654354770:=0
def tw17250078335923195019:=0
def tw17646987068292354863:=0
def tw9969368336218251653:=0
def tw10033438892661232642:=0
def tw9353896966337506284:=0
def tw10862516707482522760:=0
def tw1298681280975594499:=0
def tw6084685711454939327:=0
def tw12975249380615094347:=0
def tw550974617924178164:=0
def tw11746613422686141100:=0
def tw14889834397239141875:=0
def tw17816264081742944922:=0
def tw10809552049252945147:=0
def tw2988469328351000619:=0
def tw4905036567750890976:=0
def tw645897128159683801:=0
def tw7745982713643588322:=0
def tw15969496046635184916:=0
def tw13398364259782365109:=0
def tw14850730139334328536:=0
def tw9762480576528168525:=0
def tw1499663189377254380:=0
def tw7753523344283161255:=0
def tw3159763134534605077:=0
def tw10057049153275476136:=0
def tw1715878074836322442:=0
def tw8217541939753273796:=0
def tw15454049659381821717:=0
def tw14906361514299821399:=0
def tw10430267595453528628:=0
def tw391801729560443074:=0
def tw3945530724079446457:=0
def tw6775681230252803399:=0
def tw11847914501413726098:=0
def tw10960768335606812802:=0
def tw12526920456594161194:=0
def tw16083834287237853282:=0
def tw2991893552613202956:=0
def tw9881322389063131749:=0
def tw10200985118718282337:=0
def tw9286163321054292298:=0
def tw4688735837809609463:=0
def tw9712456279752144279:=0
def tw14351069258805345600:=0
def tw18088485488630672856:=0
def tw11724677296250220731:=0
def tw5252056455054028289:=0
def tw3363643406349008670:=0
def tw3712050648648011251:=0
def tw6647958542700898711:=0
def tw2778306907544463188:=0
def tw12435818169736824833:=0
def tw6243899390927005899:=0
def tw14420071413279937366:=0
def tw3507189356146810883:=0
def tw8518515250010442624:=0
def tw12675438183990937526:=0
def tw3398318150722979050:=0
def tw5546885900529740544:=0
def tw2764661816264300187:=0
def tw13493293954640991773:=0
def tw1508185430737872537:=0
def tw12020424874344255628:=0
def tw17866387064396792825:=0
def tw2889210839041040341:=0
def tw9157480565971878346:=0
def tw9754696667180597013:=0
def tw10402564709819430084:=0
def tw7918305909746897318:=0
def tw7298773857082538069:=0
def tw7158287481761141568:=0
def tw153437183084401042:=0
def tw16312760649749722510:=0
def tw5544228536595592878:=0
def tw3607587348652735849:=0
def tw14314967900754076555:=0
def tw7938417114016035882:=0
def tw4586506035128099732:=0
def tw13297432262971174287:=0
def tw3795097005955674693:=0
def tw7671297349422853560:=0
def tw3581244664881650421:=0
def tw13572469244160161211:=0
def tw16467436672543882879:=0
def tw10408813243245431007:=0
def tw9679047005036834328:=0
def tw12795408291632500639:=0
def tw2916505578542358475:=0
def tw17269747847673715948:=0
def tw11469075794686079192:=0
def tw15676055024106887874:=0
def tw4960408023186395772:=0
def tw15321180882678155402:=0
def tw7028124613729106336:=0
def tw7057532113696851887:=0
def tw11797251403414125643:=0
def tw5772455754652760004:=0
def tw15988021915596388017:=0
def tw5358871258405581530:=0
def tw14214458788060567747:=0
def tw9041597231720028268:=0
def tw10321771354260003899:=0
def tw15604623284381417465:=0
def tw9500882853964025652:=0
def tw17939618253511290458:=0
def tw11594298231465347247:=0
def tw10140702383370947826:=0
def tw9365629908797719177:=0
def tw2752781771056965780:=0
def tw8711379035472515643:=0
def tw16416132647927371814:=0
def tw15339755921389466335:=0
def tw1957337256850803109:=0
def tw5759089316456651608:=0
def tw9359351868881221201:=0
def tw9775759473916594249:=0
def tw9691983831061030996:=0
def tw4310345785991072963:=0
def tw6080390097614219397:=0
def tw9710667006749802297:=0
def tw16349703538251412281:=0
def tw12061761528012043606:=0
def tw10634488995516100182:=0
def tw5522104721140561446:=0
def tw3548265545357210123:=0
def tw2247664427615025524:=0
def tw16081711743425566336:=0
def tw12992399386302805514:=0
def tw2238456809904109223:=0
def tw18417178946819364234:=0
def tw4898423473236542892:=0
def tw7851931927609245156:=0
def tw7497826980408419616:=0
def tw18372368349433305159:=0
def tw3288122214493704181:=0
def tw17803066668056906961:=0
def tw3728666952400942837:=0
def tw6999349178834054014:=0
def tw7729559861475421905:=0
def tw16159124760417991108:=0
def tw10295968132699376902:=0
def tw13379442890409621810:=0
def tw2804531207456909704:=0
def tw6779745999463820845:=0
def tw11337778813596345518:=0
def tw6982406198684083534:=0
def tw17988821236655760354:=0
def tw12345159286840637848:=0
def tw3216666231302153360:=0
def tw4869293660207666464:=0
def tw3042936543389259560:=0
def tw10573329319136224381:=0
def tw5185328449540729012:=0
def tw13185366090376333305:=0
def tw2534841422020990625:=0
def tw13545944208184458418:=0
def tw17422130788938454516:=0
def tw11994080772674179457:=0
def tw15499410385873748685:=0
def tw17182781294962577246:=0
def tw12805281072453227000:=0
def tw17408434191967188803:=0
def tw5732458035546970857:=0
def tw17531711355473681173:=0
def tw14298123194568567763:=0
def tw5092498312649180804:=0
def tw9539951043679553207:=0
def tw4099598928176435028:=0
def tw12660757161648860212:=0
def tw17244259628876935728:=0
def tw13952344155772478142:=0
def tw17947507874506575342:=0
def tw2956898715068081219:=0
def tw11435589212972953999:=0
def tw15375049025412930182:=0
def tw6033684256633241795:=0
def tw14051298744629305001:=0
def tw18431741525250208761:=0
def tw18166948749061026464:=0
def tw8623990827830669954:=0
def tw14142826533245778145:=0
def tw4093630990891313463:=0
def tw9801305447266366848:=0
def tw6802278377363167537:=0
def tw10281511209886617847:=0
def tw13959058381814953770:=0
def tw18291493152709709631:=0
def tw9581314735357155037:=0
def tw11827694178695912950:=0
def tw12449290216553344623:=0
def tw10110583513488284963:=0
def tw7798548842850018941:=0
def tw10782994398771413144:=0
def tw17433112767655345842:=0
def tw8251644267694842882:=0
def tw3894299926852030231:=0
def tw17980354113088943130:=0
def tw12856601660298363078:=0
def tw2644545552029265665:=0
def tw5170553162372535708:=0
def tw17060028252901600752:=0
def tw17325354343156350389:=0
def tw10924927895090056291:=0
def tw3591096469858224518:=0
def tw11377865264446885461:=0
def tw15876443967132253650:=0
def tw10707160741421935578:=0
def tw16656392245146734249:=0
def tw8820916208616293435:=0
def tw13119887228117736088:=0
def tw11852513168870495297:=0
def tw7415321850114553143:=0
def tw18255463737386050435:=0
def tw3209973052008449844:=0
def tw15192003663750897120:=0
def tw8016240091633395653:=0
def tw14807338021440866348:=0
def tw10557968914444439758:=0
def tw8011233733268716786:=0
def tw9852054788903031644:=0
def tw8885946120567619801:=0
def tw9596631320456843847:=0
def tw11432062425100266950:=0
def tw15363071213916277329:=0
def tw13194646902070548155:=0
def tw9077491989448721487:=0
def tw12622297564748198614:=0
def tw17865653308491207511:=0
def tw7843802221346419721:=0
def tw3841002538898531226:=0
def tw2199692965487850974:=0
def tw14548979384799646977:=0
def tw11900166728352766496:=0
def tw12271247896752402172:=0
def tw17100229639401352895:=0
def tw2145986128143464842:=0
def tw15736931273548299096:=0
def tw15227266820688997688:=0
def tw9185263472762441425:=0
def tw13152329605456535854:=0
def tw6422535153372282517:=0
def tw6615813707273392249:=0
def tw14840920820921908527:=0
def tw2171977351267920282:=0
def tw9015967161866693616:=0
def tw10252563578569769993:=0
def tw7271586228978952227:=0
def tw565085932191051585:=0
def tw14260439337111412570:=0
def tw10454912572302001049:=0
def tw11651216549802729824:=0
def tw12954369736411524433:=0
def tw5297918794663034747:=0
def tw5450869579150055358:=0
def tw16641284287384559270:=0
def tw5931927835058875483:=0
def tw1769736695069653279:=0
def tw484964799889193471:=0
def tw5826370795028062441:=0
def tw17162488533186127291:=0
def tw2755447911735557673:=0
def tw3318618540876018940:=0
def tw9015905820077770845:=0
def tw13082865078441907100:=0
def tw2264980102912724138:=0
def tw13398057739006709819:=0
def tw5312590833831299922:=0
def tw5833992258963717727:=0
def tw442537921238048376:=0
def tw17708321443790417825:=0
def tw9936326910512820263:=0
def tw8601869187638716782:=0
def tw1681029746301793038:=0
def tw7483773042130698075:=0
def tw528293872363374101:=0
def tw9211529640134365762:=0
def tw3841941538062564622:=0
def tw7920973450328327114:=0
def tw14546277807210685529:=0
def tw7046624068941349143:=0
def tw13995603416131935433:=0
def tw17263633459404154391:=0
def tw8294423411573633225:=0
def tw4850197424918538059:=0
def tw6762585993899436619:=0
def tw667180386528789565:=0
def tw5310214119220677904:=0
def tw2535281801366557266:=0
def tw5797289380614391696:=0
def tw529171596898873365:=0
def tw106467528299544252:=0
def tw17165829879164817770:=0
def tw10210484361397141305:=0
def tw5615341018796784741:=0
def tw12119856754523126335:=0
def tw9466441525721199000:=0
def tw1409978074213097133:=0
def tw12663711330769156118:=0
def tw13437783787851886281:=0
def tw16652405281155060411:=0
def tw5536297599289129602:=0
def tw8046698752118149663:=0
def tw7608407132274840506:=0
def tw9752567060846908784:=0
def tw7699860997669672635:=0
def tw4229202659297889766:=0
def tw10359607220814895442:=0
def tw9573543371138134872:=0
def tw15596427693240378876:=0
def tw3816139654889508628:=0
def tw14108627426262613512:=0
def tw193147569703391581:=0
def tw4163625260686008241:=0
def tw16587890090199263785:=0
def tw2069395065432582291:=0
def tw532729703438787211:=0
def tw6773351795179589905:=0
def tw4184851196100287792:=0
def tw14707978147523681111:=0
def tw12279802440509506437:=0
def tw16137294810630798140:=0
def tw15659517092718423078:=0
def tw8413630503129546577:=0
def tw18095257722049639990:=0
def tw14080971631669198512:=0
def tw18261869177624016014:=0
def tw12304055193092870463:=0
def tw5615071257705749162:=0
def tw8763553125487605936:=0
def tw8852206573115698007:=0
def tw9271761064247600800:=0
def tw15387993823489720895:=0
def tw4482110421511800702:=0
def tw17472019627562158495:=0
def tw2406602908203252428:=0
def tw9505177893531008684:=0
def tw7597606614929334601:=0
def tw14982985729186450799:=0
def tw7507143433094938087:=0
def tw470276980763931642:=0
def tw2672507763293931453:=0
def tw15536911612461747844:=0
def tw5120514257828256387:=0
def tw8357312892208191635:=0
def tw5625876813765967520:=0
def tw6866605092336321685:=0
def tw6736077217014943323:=0
def tw15756487902597235126:=0
def tw14162111181843733157:=0
def tw16281048348612906014:=0
def tw4501851466120642641:=0
def tw16555042251797093624:=0
def tw15130294160820988779:=0
def tw15801757497689479030:=0
def tw9003744545344775089:=0
def tw10183660178534851565:=0
def tw18134119551439964000:=0
def tw14813935929386079654:=0
def tw14899655952842118172:=0
def tw5784686778462471630:=0
def tw12445445150395393290:=0
def tw7137175039083006489:=0
def tw11146182249282986107:=0
def tw531505022805832847:=0
def tw3320611015040615268:=0
def tw4653765924201302279:=0
def tw16773385456167960698:=0
def tw1250388332616025242:=0
def tw11736986553114126384:=0
def tw8772370216129948061:=0
def tw1701336895321326796:=0
def tw4833147892970925829:=0
def tw12912863554413701581:=0
def tw8436441053389877992:=0
def tw12475859513476296371:=0
def tw7381489937088948102:=0
def tw8351532048950740657:=0
def tw11074755350412116062:=0
def tw14905669028766311452:=0
def tw15359983182453496184:=0
def tw13263194196663208243:=0
def tw10615341936243297675:=0
def tw16954677702928721074:=0
def tw1436316919175665985:=0
def tw9239092855250281014:=0
def tw3560088020846218346:=0
def tw2705174669849064335:=0
def tw8257790433699585058:=0
def tw11996351059091258079:=0
def tw6126038395131337281:=0
def tw12973012828588837184:=0
def tw11553158349906494610:=0
def tw4905033824850224456:=0
def tw2092461336611274211:=0
def tw3895287667457568464:=0
def tw14785402905429542466:=0
def tw6768380678882541796:=0
def tw4684106666967152671:=0
def tw1117062581289300660:=0
def tw18279973231289103769:=0
def tw13250936457232549654:=0
def tw2686853326608437432:=0
def tw13124011188058030962:=0
def tw13187889745072010955:=0
def tw16334776671705502094:=0
def tw5830546382841998333:=0
def tw1081542528203582040:=0
def tw9832798619229483260:=0
def tw4843784800269381504:=0
def tw15106816613792047328:=0
def tw14755601247598949039:=0
def tw5394985689523052649:=0
def tw11556708184522181460:=0
def tw8914505535655239448:=0
def tw16299675871929984918:=0
def tw1726098619415272387:=0
def tw16615361298682591417:=0
def tw7397790133216425120:=0
def tw368212342014021820:=0
def tw16094778620356419830:=0
def tw6086554850219957566:=0
def tw5375263315885261549:=0
def tw5207111224683505917:=0
def tw8025880077639082277:=0
def tw11479834454992633353:=0
def tw4067290903054967182:=0
def tw2046083796198350253:=0
def tw10177615822361720380:=0
def tw1629979028211131375:=0
def tw5534766067020662916:=0
def tw4209974166688297506:=0
def tw7298823978246116001:=0
def tw6167378610369022477:=0
def tw4431597341033346665:=0
def tw6588535364855931482:=0
def tw16186717958008418245:=0
def tw14373629212031329935:=0
def tw12416288895592977996:=0
def tw10153920143143001178:=0
def tw17260511490988052435:=0
def tw16011901686383131726:=0
def tw10529106054390279302:=0
def tw4669220243160620572:=0
def tw16996868302382699053:=0
def tw17542358094423669199:=0
def tw2402231550404502265:=0
def tw14498273937044349192:=0
def tw15530859203705647563:=0
def tw8247973051593608903:=0
def tw14550822318928729245:=0
def tw5450768985018658121:=0
def tw9732200081522314985:=0
def tw17522790277705929799:=0
def tw9837964893755025014:=0
def tw18428710805692839317:=0
def tw15513903901638481470:=0
def tw2310550677408463474:=0
def tw10176372053273952:=0
def tw6613479043474574906:=0
def tw8459530617118294443:=0
def tw14874123453496796129:=0
def tw8421916120405702580:=0
def tw14061818542543338209:=0
def tw13444868838318467372:=0
def tw12005608554149032379:=0
def tw7734386947462821073:=0
def tw7159778615595490971:=0
def tw4286428022561488937:=0
def tw16244087076940909129:=0
def tw4907713400398287500:=0
def tw403185221235937561:=0
def tw142654023627441229:=0
def tw3755345473634509876:=0
def tw17157222281299951433:=0
def tw6344573047822599648:=0
def tw17563447973214632228:=0
def tw16483763052012168900:=0
def tw7209081281014397871:=0
def tw16014643431505882548:=0
def tw524766783849391845:=0
def tw14941996242490552525:=0
def tw17830546769109078519:=0
def tw6429775401924784555:=0
def tw13742001733049040100:=0
def tw15436170280996153419:=0
def tw15946680249342651596:=0
def tw15047419751706136620:=0
def tw11956972625180468630:=0
def tw4885896645091090582:=0
def tw18394195394864920071:=0
def tw17437225945713173884:=0
def tw1318872042684246587:=0
def tw11430092716794060507:=0
def tw7568867472768455219:=0
def tw13654620464551065999:=0
def tw1346693931337486326:=0
def tw5005326620421264724:=0
def tw11023894519380561361:=0
def tw8339713258291176220:=0
def tw1127595258380069751:=0
def tw15903849966960418810:=0
def tw13202378415515702325:=0
def tw16645558825960843192:=0
def tw10707237548546623636:=0
def tw18219256916412960894:=0
def tw11146426940775826541:=0
def tw17331088224512771432:=0
def tw5227775241824545831:=0
def tw3268970670156297064:=0
def tw1648005179733912985:=0
def tw7769039291300890373:=0
def tw16544244998664367614:=0
def tw6468640492734352637:=0
def tw7978920770557576396:=0
def tw986154487644003679:=0
def tw15051042762925382443:=0
def tw8148785894619958307:=0
def tw11746196313957784240:=0
def tw10690121537172645716:=0
def tw12746175982140945684:=0
def tw16949252860931276615:=0
def tw16887756095183473662:=0
def tw18188799388035880096:=0
def tw4294260192109434618:=0
def tw10596649462136405673:=0
def tw18242915364107325129:=0
def tw6997849029140672727:=0
def tw9981075799510621:=0
def tw12082313899850199929:=0
def tw14698850211169789447:=0
def tw6922706563887938771:=0
def tw15042085680041933263:=0
def tw5147609188570600931:=0
def tw12291313989303491027:=0
def tw17861342018624944506:=0
def tw4754145202516381605:=0
def tw11279450574969937410:=0
def tw853089693679314048:=0
end PySem.W.Fast
namespace L2
end L2
namespace SM
end SM
namespace G
end G
open PySem PySem.Spec PyProof.Rows L2 SM G List
theorem Vr{α:Type _}{a:α}{l:List α}:(a::l)[0]?=some a:=rfl
theorem Wr{α:Type _}{a:α}{l:List α}{i:Nat}:(a::l)[i+1]?=l[i]?:=rfl
theorem Xr{α:Type _}{a:α}{l:List α}:(a::l).length=l.length+1:=rfl
theorem Yr{α:Type _}:([]:List α).length=0:=rfl
theorem Zr{α β:Type _}{f:α->β}{a:α}{l:List α}:(a::l).map f=f a::l.map f:=rfl
theorem bf{α β:Type _}{f:α->β}:[].map f=[]:=rfl
theorem jf{α:Type _}{a b:α}{l:List α}:(a::l).set 0 b=b::l:=rfl
theorem uf{α:Type _}{a b:α}{l:List α}{i:Nat}:(a::l).set (i+1) b=a::l.set i b:=rfl
theorem vf{α β:Type _}{f:α->β}{a:α}:(some a).map f=some (f a):=rfl
theorem zf{α β:Type _}{a:α}{f:α->Option β}:(some a).bind f=f a:=rfl
theorem Af{α:Type _}{l:List α}:[]++l=l:=rfl
theorem Bf{α:Type _}{a:α}{l k:List α}:a::l++k=a::(l++k):=rfl
theorem Df{α:Type _}{l:List α}{i:Nat}{a:α}:l[i]?=some a->∃h:i<l.length,l[i]=a:=List.getElem?_eq_some_iff.mp
theorem Ef{α:Type _}{l k:List α}{i:Nat}(h:i<l.length):(l++k)[i]?=l[i]?:=List.getElem?_append_left h
theorem Gf:false≠true:=Bool.false_ne_true
theorem Hf(n:Nat):n<=n:=Nat.le_refl n
theorem Jf{α:Type _}{l k:List α}{i:Nat}(h:l.length<=i):(l++k)[i]?=k[i-l.length]?:=List.getElem?_append_right h
theorem Kf{α:Type _}(l:List α):l++[]=l:=List.append_nil l
theorem Lf:(false=true)=False:=Bool.false_eq_true
open PySem.W (Frag nsIn findIn keepIn fnOf mg_none_of)
namespace L2
noncomputable abbrev FA:=Sum Int Str
noncomputable def uI:FA->Value->Bool
 | .inl k,v=>Value.isInt k v
 | .inr x,v=>Value.isStrOf x v
noncomputable def pV(w:World):FA->Int
 | .inl k=>hashInt k
 | .inr x=>hashStr w x
theorem UE:∀{k:FA}{v:Value},uI k v=true->(∃i t,k=Sum.inl i/\v=Value.int i t)\/(∃x t,k=Sum.inr x/\v=Value.str x t)
 | .inl i,v,h=>by obtain⟨t,e⟩:=Value.isInt_shape (k:=i) (v:=v) h;exact .inl ⟨i,t,rfl,e⟩
 | .inr x,v,h=>by obtain⟨t,e⟩:=Value.isStrOf_shape (x:=x) (v:=v) h;exact .inr ⟨x,t,rfl,e⟩
theorem FX(i:Int)(t:Tok):uI (.inl i) (.int i t)=true:=by simp[uI,Value.isInt]
theorem GX(x:Str)(t:Tok):uI (.inr x) (.str x t)=true:=by simp[uI,Value.isStrOf]
theorem Q6(a b:Int):decide ((Sum.inl a:FA)=Sum.inl b)=(a==b):=by
 by_cases e:a=b
 · subst e;simp
 · have h:¬(Sum.inl a:FA)=Sum.inl b:=fun q=>e (Sum.inl.inj q)
   rw[decide_eq_false h];exact(beq_eq_false_iff_ne.mpr e).symm
theorem V6(a b:Str):decide ((Sum.inr a:FA)=Sum.inr b)=decide (a=b):=by
 by_cases e:a=b
 · subst e;simp
 · have h:¬(Sum.inr a:FA)=Sum.inr b:=fun q=>e (Sum.inr.inj q)
   rw[decide_eq_false h,decide_eq_false e]
theorem T6(a:Int)(b:Str):decide ((Sum.inl a:FA)=Sum.inr b)=false:=decide_eq_false (fun q=>nomatch q)
theorem U6(a:Str)(b:Int):decide ((Sum.inr a:FA)=Sum.inl b)=false:=decide_eq_false (fun q=>nomatch q)
def WB(prog:Program)(w:World):PySem.KeyKind prog w FA where
 is:=uI
 hash:=pV w
 inj:=fun v a b ha hb=>by
  rcases UE ha with⟨i,t,rfl,rfl⟩ | ⟨x,t,rfl,rfl⟩
  · rcases UE hb with⟨j,u,rfl,e⟩ | ⟨y,u,rfl,e⟩
    · injection e with e1 _;rw[e1]
    · exact nomatch e
  · rcases UE hb with⟨j,u,rfl,e⟩ | ⟨y,u,rfl,e⟩
    · exact nomatch e
    · injection e with e1 _;rw[e1]
 byValue:=fun k v h=>by rcases UE h with⟨i,t,rfl,rfl⟩ | ⟨x,t,rfl,rfl⟩<;>rfl
 pyHash:=fun hv h=>by
  rcases UE hv with⟨i,t,rfl,rfl⟩ | ⟨x,t,rfl,rfl⟩
  · exact wpAny_pyHash_int h
  · exact wpAny_pyHash_str h
 eqBool:=fun hu hv h=>by
  rcases UE hu with⟨i,t,rfl,rfl⟩ | ⟨x,t,rfl,rfl⟩
  · rcases UE hv with⟨j,u,rfl,rfl⟩ | ⟨y,u,rfl,rfl⟩
    · rw[Q6]at h;exact wpAny_eqBool_int h
    · rw[T6]at h;exact SeqAt.EqAt.int_str i t y u _ _ _ _ h
  · rcases UE hv with⟨j,u,rfl,rfl⟩ | ⟨y,u,rfl,rfl⟩
    · rw[U6]at h;exact SeqAt.EqAt.str_int x t j u _ _ _ _ h
    · rw[V6]at h;exact wpAny_eqBool_str h
 «strs»:=fun k x t v h=>by
  rcases UE h with⟨i,u,rfl,e⟩ | ⟨y,u,rfl,e⟩
  · exact nomatch e
  · injection e with e1 _
    subst e1;cases v<;>rfl
theorem ZW(prog:Program)(w:World)(i:Int)(t:Tok):(WB prog w).is (.inl i) (.int i t)=true:=FX i t
theorem aX(prog:Program)(w:World)(x:Str)(t:Tok):(WB prog w).is (.inr x) (.str x t)=true:=GX x t
inductive V where
 | non | bl (b:Bool) | int (i:Int) | str (x:Str) | wz (b:Array UInt8) | flt (b:UInt64) | ref (a:Addr) | ty (n:String)
 deriving DecidableEq
noncomputable def RelV:V->Value->Prop
 | .non,u=>u=Value.none
 | .bl b,u=>u=Value.bool b
 | .int i,u=>∃t,u=Value.int i t
 | .str x,u=>∃t,u=Value.str x t
 | .wz b,u=>∃t,u=Value.bytes b t
 | .flt b,u=>∃t,u=Value.float b t
 | .ref a,u=>u=Value.ref a
 | .ty n,u=>u=Value.type n
abbrev Vals:List V->List Value->Prop:=Paired RelV
theorem Vals.length{xs:List V}{us:List Value}(r:Vals xs us):xs.length=us.length:=Paired.length r
theorem Vals.get:∀{xs:List V}{us:List Value}{i:Nat}{x:V},Vals xs us->xs[i]?=some x->∃u,us[i]?=some u/\RelV x u
 | _,_,_,_,.nil,e=>by simp at e
 | _,_,0,_,.cons r _,e=>by simp at e;subst e;exact⟨_,rfl,r⟩
 | _,_,i+1,x,.cons _ t,e=>by obtain⟨u,h1,h2⟩:=Vals.get (i:=i) (x:=x) t (by simpa using e);exact⟨u,by simpa using h1,h2⟩
theorem Vals.set{x:V}{u:Value}(r:RelV x u):∀{xs:List V}{us:List Value}(i:Nat),Vals xs us->Vals (xs.set i x) (us.set i u)
 | _,_,_,.nil=>.nil
 | _,_,0,.cons _ t=>.cons r t
 | _,_,i+1,.cons q t=>.cons q (Vals.set r i t)
theorem Vals.append:∀{xs ys:List V}{us ws:List Value},Vals xs us->Vals ys ws->Vals (xs++ys) (us++ws)
 | _,_,_,_,.nil,s=>s
 | _,_,_,_,.cons r t,s=>.cons r (Vals.append t s)
theorem Vals.take:∀{xs:List V}{us:List Value}(n:Nat),Vals xs us->Vals (xs.take n) (us.take n)
 | _,_,0,_=>.nil
 | _,_,_+1,.nil=>.nil
 | _,_,n+1,.cons r t=>.cons r (Vals.take n t)
theorem Vals.drop:∀{xs:List V}{us:List Value}(n:Nat),Vals xs us->Vals (xs.drop n) (us.drop n)
 | _,_,0,r=>r
 | _,_,_+1,.nil=>.nil
 | _,_,n+1,.cons _ t=>Vals.drop n t
theorem Vals.none_of:∀{xs:List V}{us:List Value}{i:Nat},Vals xs us->xs[i]?=none->us[i]?=none:=fun {xs us i} r e=>by have h1:=r.length;have h2:xs.length<=i:=getElem?_eq_none_iff.mp e;exact getElem?_eq_none_iff.mpr (by omega)
def zq:Option V->Option Value->Prop
 | some v,some u=>RelV v u
 | none,none=>True
 | _,_=>False
def KV{κ:Type}:List (κ×V)->List (κ×Value)->Prop:=Paired fun(p:κ×V) (q:κ×Value)=>p.1=q.1/\RelV p.2 q.2
noncomputable def kV:FA->V
 | .inl i=>.int i
 | .inr x=>.str x
inductive HO where
 | lst (xs:List V)
 | tup (xs:List V)
 | dK (kvs:List (FA×V)) | dT (kvs:List (List FA×V))
 | set (S:Int->Bool) (n:Nat)
 | ins (C dx:Addr) (fs:List (Str×V))
 | own (x:Addr)
 | xd (fs:List (Str×V))
 | met (f x:Addr)
 | rng (lo hi:Int)
 | Qq (o:Obj) (u:HO)
 | Yv (ps:Array Value)
 | ext (φ:Heap->Prop)
noncomputable abbrev Hp:=Addr->Option HO
noncomputable def VA(H:Hp)(a:Addr)(o:HO):Hp:=fun b=>if b=a then some o else H b
theorem KB{H:Hp}{a:Addr}{o:HO}:VA H a o a=some o:=by unfold VA;rw[if_pos rfl]
theorem UA{H:Hp}{a b:Addr}{o:HO}(h:b≠a):VA H a o b=H b:=by unfold VA;rw[if_neg h]
theorem pP{H:Hp}{a:Addr}{o u:HO}:VA (VA H a o) a u=VA H a u:=by funext b;unfold VA;split<;>rfl
theorem VP{H:Hp}{a b:Addr}{o u:HO}(h:H a=some o)(h':H b=some u)(d:o≠u):a≠b:=by intro e;subst e;rw[h]at h';exact d (Option.some.inj h')
theorem BC{H:Hp}{a b:Addr}{o:HO}(h:H a=some o)(h':H b=none):a≠b:=by intro e;subst e;rw[h]at h';cases h'
section
variable(P:Program)(w:World)
def Dj(H:Hp)(h:Heap)(a:Addr):HO->Prop
 | .lst xs=>xs.length<=sizeLine/\∃(its:List Value) (n:Nat),Vals xs its/\h.get? a=some { cls:=.type "list",data:=.seq its.toArray n }
 | .tup xs=>xs.length<=sizeLine/\∃its:List Value,Vals xs its/\IsTup h a its.toArray
 | .dK kvs=>kvs.length<=sizeLine/\(a==sysModules)=false/\∃vs,KV kvs vs/\h.DictOf (WB P w) a vs
 | .dT kvs=>kvs.length<=sizeLine/\(a==sysModules)=false/\∃xs:List (List FA×Addr×Value),
  Paired (fun(p:List FA×V) (q:List FA×Addr×Value)=>p.1=q.1/\H q.2.1=some (.tup (p.1.map kV))/\RelV p.2 q.2.2) kvs xs/\
  ∃o es ep,h.get? a=some o/\o.ExactDict/\o.data=.dict es ep/\es.toList=xs.map (entryOfKey (tupleKind (WB P w)))/\(xs.map (·.1)).Nodup
 | .set S n=>h.SetOf (intKind P w) a S n
 | .ins C dx fs=>H dx=some (.own a)/\fs.length<=1000/\dx≠a/\h.get? a=some (PySem.W.instObj C dx)/\
  ∃mA,h.Ns1 dx mA/\(∀f,zq (fs.lookup f) (mA f))/\PySem.Within mA (fs.map (·.1))
 | .own _=>∃o,h.get? a=some o
 | .xd fs=>∃mA,h.Ns1 a mA/\∀f,zq (fs.lookup f) (mA f)
 | .rng lo hi=>∃t u v,h.get? a=some { cls:=.type "range",data:=.fields #[.int lo t,.int hi u,.int 1 v] }
 | .Qq o u=>h.get? a=some o/\Dj H h a u
 | .Yv ps=>h.get? a=some { cls:=.none,data:=.fields ps }
 | .met f x=>h.get? a=some (PySem.W.methodObj (.ref f) (.ref x))
 | .ext φ=>φ h/\(∃o,h.get? a=some o)/\∀h1 h2:Heap,φ h1->(∀o,h1.get? a=some o->h2.get? a=some o)->φ h2
def Oq(H:Hp)(h:Heap):Prop:=∀a o,H a=some o->Dj P w H h a o
end
section
variable{P:Program}{w:World}{H H':Hp}{h h':Heap}{a:Addr}{o:HO}
theorem Dj.lt(x:Dj P w H h a o):a<h.objs.size:=by
 cases o with
 | lst xs=>obtain⟨_,_,_,_,e⟩:=x;exact Heap.lt_size e
 | tup xs=>obtain⟨_,_,_,p⟩:=x;exact p.lt
 | dK kvs=>obtain⟨_,_,_,_,o,_,_,e,_⟩:=x;exact Heap.lt_size e
 | dT kvs=>obtain⟨_,_,_,_,o,_,_,e,_⟩:=x;exact Heap.lt_size e
 | set S n=>obtain⟨o,_,_,_,e,_⟩:=x;exact Heap.lt_size e
 | ins C dx fs=>obtain⟨_,_,_,e,_⟩:=x;exact Heap.lt_size e
 | own y=>obtain⟨_,e⟩:=x;exact Heap.lt_size e
 | xd fs=>obtain⟨_,⟨_,_,_,e,_⟩,_⟩:=x;exact Heap.lt_size e
 | rng lo hi=>obtain⟨_,_,_,e⟩:=x;exact Heap.lt_size e
 | Qq ob u=>obtain⟨e,_⟩:=x;exact Heap.lt_size e
 | Yv ps=>exact Heap.lt_size (show h.get? a=some _ from x)
 | met f y=>exact Heap.lt_size (show h.get? a=some _ from x)
 | ext φ=>obtain⟨_,⟨_,e⟩,_⟩:=x;exact Heap.lt_size e
theorem Paired.Vv{α β:Type}{F G:α->β->Prop}:∀{l₁:List α}{l₂:List β},Paired F l₁ l₂->(∀a b,F a b->G a b)->Paired G l₁ l₂
 | _,_,.nil,_=>.nil
 | _,_,.cons r t,f=>.cons (f _ _ r) (Paired.Vv t f)
theorem Dj.stay(x:Dj P w H h a o)(k:∀b u,(b=a\/H b=some (.own a))->h.get? b=some u->h'.get? b=some u)
 (ho:∀b,H b=some (.own a)->H' b=some (.own a)) (ht:∀b xs,H b=some (.tup xs)->H' b=some (.tup xs)):Dj P w H' h' a o:=by
 induction o with
 | lst xs=>obtain⟨z,its,n,r,e⟩:=x;exact⟨z,its,n,r,k _ _ (.inl rfl) e⟩
 | tup xs=>obtain⟨z,its,r,ob,e,c⟩:=x;exact⟨z,its,r,ob,k _ _ (.inl rfl) e,c⟩
 | dK kvs=>obtain⟨z,y,vs,r,ob,es,ep,e,c⟩:=x;exact⟨z,y,vs,r,ob,es,ep,k _ _ (.inl rfl) e,c⟩
 | dT kvs=>obtain⟨z,y,xs,r,ob,es,ep,e,c⟩:=x;exact⟨z,y,xs,Paired.Vv r fun p q z=>⟨z.1,ht _ _ z.2.1,z.2.2⟩,ob,es,ep,k _ _ (.inl rfl) e,c⟩
 | set S n=>obtain⟨ob,es,ep,t,e,c⟩:=x;exact⟨ob,es,ep,t,k _ _ (.inl rfl) e,c⟩
 | ins C dx fs=>obtain⟨d,z,ne,e,mA,⟨od,es,ep,e2,c⟩,r⟩:=x;exact⟨ho _ d,z,ne,k _ _ (.inl rfl) e,mA,⟨od,es,ep,k _ _ (.inr d) e2,c⟩,r⟩
 | own y=>obtain⟨ob,e⟩:=x;exact⟨ob,k _ _ (.inl rfl) e⟩
 | xd fs=>obtain⟨mA,⟨od,es,ep,e,c⟩,r⟩:=x;exact⟨mA,⟨od,es,ep,k _ _ (.inl rfl) e,c⟩,r⟩
 | rng lo hi=>obtain⟨t,u,v,e⟩:=x;exact⟨t,u,v,k _ _ (.inl rfl) e⟩
 | Qq ob u ih=>obtain⟨e,q⟩:=x;exact⟨k _ _ (.inl rfl) e,ih q⟩
 | Yv ps=>have e:h.get? a=some { cls:=.none,data:=.fields ps }:=x;show h'.get? a=some { cls:=.none,data:=.fields ps };exact k a _ (.inl rfl) e
 | met f y=>have e:h.get? a=some (PySem.W.methodObj (.ref f) (.ref y)):=x;show h'.get? a=some (PySem.W.methodObj (.ref f) (.ref y));exact k a _ (.inl rfl) e
 | ext φ=>obtain⟨p,⟨o,e⟩,st⟩:=x;exact⟨st _ _ p fun o q=>k _ _ (.inl rfl) q,⟨o,k _ _ (.inl rfl) e⟩,st⟩
theorem Oq.lt(x:Oq P w H h)(e:H a=some o):a<h.objs.size:=(x a o e).lt
theorem Oq.fresh(x:Oq P w H h)(e:h.objs.size<=a):H a=none:=by
 cases q:H a with
 | none=>rfl
 | some u=>exact absurd (Nat.lt_of_lt_of_le (x.lt q) e) (Nat.lt_irrefl _)
theorem Oq.kept(x:Oq P w H h)(k:∀b u,h.get? b=some u->h'.get? b=some u):Oq P w H h':=fun a o e=>(x a o e).stay (fun b u _ q=>k b u q) (fun _ q=>q) fun _ _ q=>q
theorem Oq.laid(x:Oq P w H h)(k:∀b u,h.get? b=some u->h'.get? b=some u)(hp:h.objs.size<=a)(new:Dj P w (VA H a o) h' a o):Oq P w (VA H a o) h':=fun b u e=>by
 have hn:=x.fresh hp;by_cases hb:b=a
 · subst hb;rw[KB]at e;cases e;exact new
 · rw[UA hb]at e;exact(x b u e).stay (fun c v _ q=>k c v q) (fun c q=>by rw[UA (BC q hn)];exact q) fun c xs q=>by rw[UA (BC q hn)];exact q
end
noncomputable def Rd(H:Hp)(a:Addr)(u:HO):Prop:=H a=some u\/∃o,H a=some (.Qq o u)
theorem Rd.ok{P:Program}{w:World}{H:Hp}{h:Heap}{a:Addr}{u:HO}(r:Rd H a u)(x:Oq P w H h):Dj P w H h a u:=by
 rcases r with r | ⟨o,r⟩
 · exact x a u r
 · obtain⟨_,q⟩:=x a _ r;exact q
noncomputable def uQ:Option HO->Prop
 | some (.lst _)=>True
 | some (.dK _)=>True
 | some (.dT _)=>True
 | some (.set _ _)=>True
 | some (.ins _ _ _)=>True
 | some (.ext _)=>True
 | _=>False
section
variable{P:Program}{w:World}{H:Hp}{h h':Heap}{x e:Addr}{o':HO}
theorem Oq.write(ok:Oq P w H h)(mu:uQ (H x))(he:e=x\/H e=some (.own x))(k:∀b u,b≠e->h.get? b=some u->h'.get? b=some u)(heo:∃u,h'.get? e=some u)
 (new:Dj P w (VA H x o') h' x o'):Oq P w (VA H x o') h':=fun b u q=>by
 have Qw:∀c y,H c=some (.own y)->c≠x:=fun c y r z=>by subst z;rw[r]at mu;exact mu
 have Og:∀c xs,H c=some (.tup xs)->c≠x:=fun c xs r z=>by subst z;rw[r]at mu;exact mu
 by_cases hb:b=x
 · subst hb;rw[KB]at q;cases q;exact new
 · rw[UA hb]at q;by_cases hbe:b=e
   · have q':H b=some (.own x):=by
      rcases he with z | z
      · exact absurd (hbe.trans z) hb
      · rw[hbe];exact z
     rw[q]at q';cases q';obtain⟨v,hv⟩:=heo;exact⟨v,by rw[hbe];exact hv⟩
   · refine(ok b u q).stay (fun c v hc r=>k c v ?_ r) (fun c r=>by rw[UA (Qw c b r)];exact r) fun c xs r=>by rw[UA (Og c xs r)];exact r
     rcases hc with rfl | hc
     · exact hbe
     · rintro rfl;rcases he with z | z
       · exact Qw c b hc z
       · rw[hc]at z;cases z;exact hb rfl
end
structure Un(fs ex:List Addr)(H H':Hp)(h h':Heap):Prop where
 keep:∀b o,h.get? b=some o->H b=none->b∉fs->b∉ex->h'.get? b=some o
 slot:∀b o,h.get? b=some o->H b=none->b∈fs->b∉ex->∃sl,h'.get? b=some { o with slots:=sl }
 free:∀b o,h.get? b=some o->H b=none->b∉ex->H' b=none
 there:∀b o,h.get? b=some o->b∉ex->∃o',h'.get? b=some o'
 tups:∀b xs,H b=some (.tup xs)->H' b=some (.tup xs)
 Kq:∀b o u,H b=some (.Qq o u)->H' b=some (.Qq o u)
 Yq:∀b ps,H b=some (.Yv ps)->∃more,H' b=some (.Yv (ps++more))
section
variable{fs fs' ex ex':List Addr}{H H1 H2:Hp}{h h1 h2 h':Heap}{a x e:Addr}{o:HO}
theorem Un.any(u:Un fs ex H H1 h h1){b:Addr}{ob:Obj}(q:h.get? b=some ob)(n:H b=none)(hx:b∉ex):∃sl,h1.get? b=some { ob with slots:=sl }:=by
 by_cases hb:b∈fs
 · exact u.slot b ob q n hb hx
 · exact⟨ob.slots,u.keep b ob q n hb hx⟩
theorem Un.trans(a:Un fs ex H H1 h h1)(b:Un fs ex H1 H2 h1 h2):Un fs ex H H2 h h2 where
 keep:=fun c ob q n hc hx=>b.keep c ob (a.keep c ob q n hc hx) (a.free c ob q n hx) hc hx
 slot:=fun c ob q n hc hx=>by obtain⟨sl,e1⟩:=a.slot c ob q n hc hx;obtain⟨sl',e2⟩:=b.slot c _ e1 (a.free c ob q n hx) hc hx;exact⟨sl',e2⟩
 free:=fun c ob q n hx=>by obtain⟨o',e1⟩:=a.there c ob q hx;exact b.free c o' e1 (a.free c ob q n hx) hx
 there:=fun c ob q hx=>by obtain⟨o',e1⟩:=a.there c ob q hx;exact b.there c o' e1 hx
 tups:=fun c xs q=>b.tups c xs (a.tups c xs q)
 Kq:=fun c ob xs q=>b.Kq c ob xs (a.Kq c ob xs q)
 Yq:=fun c ps q=>by obtain⟨m1,e1⟩:=a.Yq c ps q;obtain⟨m2,e2⟩:=b.Yq c _ e1;exact⟨m1++m2,by rw[e2,Array.append_assoc]⟩
theorem Un.kept(k:∀b u,h.get? b=some u->h'.get? b=some u):Un fs ex H H h h':=
 ⟨fun b ob q _ _ _=>k b ob q,fun b ob q _ _ _=>⟨ob.slots,k b ob q⟩,fun _ _ _ n _=>n,fun b ob q _=>⟨ob,k b ob q⟩,fun _ _ q=>q,fun _ _ _ q=>q,fun _ ps q=>⟨#[],by rw[q];simp⟩⟩
theorem Un.refl:Un fs ex H H h h:=Un.kept fun _ _ q=>q
theorem Un.laid(k:∀b u,h.get? b=some u->h'.get? b=some u)(hp:h.objs.size<=a)(hn:H a=none):Un fs ex H (VA H a o) h h' where
 keep:=fun b u q _ _ _=>k b u q
 slot:=fun b u q _ _ _=>⟨u.slots,k b u q⟩
 free:=fun b u q n _=>by rw[UA (Nat.ne_of_lt (Nat.lt_of_lt_of_le (Heap.lt_size q) hp))];exact n
 there:=fun b u q _=>⟨u,k b u q⟩
 tups:=fun b xs q=>by rw[UA (BC q hn)];exact q
 Kq:=fun b u xs q=>by rw[UA (BC q hn)];exact q
 Yq:=fun b ps q=>⟨#[],by rw[UA (BC q hn),q];simp⟩
theorem Un.write(mu:uQ (H x))(he:e=x\/H e=some (.own x))(k:∀b u,b≠e->h.get? b=some u->h'.get? b=some u)(heo:∃u,h'.get? e=some u):Un fs ex H (VA H x o) h h':=by
 have hx:∀b,H b=none->b≠x:=fun b n z=>by subst z;rw[n]at mu;exact mu
 have hb:∀b,H b=none->b≠e:=fun b n z=>by
  subst z;rcases he with r | r
  · exact hx b n r
  · rw[n]at r;cases r
 have hm:∀b u,H b=some u->¬uQ (some u)->b≠x:=fun b u q nm z=>by subst z;rw[q]at mu;exact nm mu
 refine⟨fun b u q n _ _=>k b u (hb b n) q,fun b u q n _ _=>⟨u.slots,k b u (hb b n) q⟩,fun b u q n _=>by rw[UA (hx b n)];exact n,fun b u q _=>?_,
  fun b xs q=>by rw[UA (hm b _ q fun z=>z)];exact q,fun b u xs q=>by rw[UA (hm b _ q fun z=>z)];exact q,fun b ps q=>⟨#[],by rw[UA (hm b _ q fun z=>z),q];simp⟩⟩
 by_cases hbe:b=e
 · subst hbe;exact heo
 · exact⟨u,k b u hbe q⟩
theorem Un.mono(u:Un fs ex H H1 h h1)(hs:∀b∈fs,b∈fs')(hx:∀b∈ex,b∈ex'):Un fs' ex' H H1 h h1:=
 ⟨fun b ob q n hb he=>u.keep b ob q n (fun z=>hb (hs b z)) fun z=>he (hx b z),fun _ _ q n _ he=>u.any q n fun z=>he (hx _ z),fun b ob q n he=>u.free b ob q n fun z=>he (hx b z),fun b ob q he=>u.there b ob q fun z=>he (hx b z),u.tups,u.Kq,u.Yq⟩
end
noncomputable def TU(h:Heap)(H:Hp):List Addr:=(List.range h.objs.size).filter fun a=>(H a).isSome
def qF(h:Heap)(H:Hp):Heap:=PySem.W.hideAll h (TU h H)
theorem YX(h:Heap)(H:Hp):(qF h H).objs.size=h.objs.size:=PySem.W.hideAll_size _ _
theorem LZ{h:Heap}{H:Hp}{b:Addr}{o:Obj}(e:h.get? b=some o)(n:H b=none):(qF h H).get? b=some o:=
 PySem.W.hideAll_get _ e fun hm=>by have q:(H b).isSome=true:=(mem_filter.mp hm).2;rw[n]at q;simp at q
theorem K0{h:Heap}{H:Hp}{b:Addr}{o:Obj}(e:(qF h H).get? b=some o):h.get? b=some o/\H b=none:=by
 have e':h.get? b=some o:=PySem.W.of_hideAll (TU h H) e;refine⟨e',?_⟩;cases q:H b with
 | none=>rfl
 | some x=>have hm:b∈TU h H:=mem_filter.mpr ⟨mem_range.mpr (Heap.lt_size e'),by simp[q]⟩;have z:(qF h H).get? b=none:=PySem.W.hideAll_none (TU h H) hm;rw[z]at e;cases e
noncomputable def G2(g h:Heap)(L:Addr):List (Addr×Obj):=(List.range h.objs.size).filterMap fun a=>if a=L\/(g.get? a).isSome=true then none else(h.get? a).map fun o=>(a,o)
def rest(g h:Heap)(L d:Addr):List (Addr×Obj):=(G2 g h L).filter fun p=>decide (p.1≠d)
structure Mod(K:Frag)(mg:Str->Option Value)(base:Heap):Prop where
 Iv:K.In base
 glob:base.Ns mainGlobals mg
 blt:∃mb,base.Ns builtinsNs mb/\∀x:Str,x ≠ "__name__" ->mb x=bootBuiltins x
 nolimit:base.NoLimit
structure Cx where
 prog:Program
 w:World
 K:Frag
 mg:Str->Option Value
 base:Heap
 A:Around
 N:List Str
 s₀:Shared
 H₀:Hp
 env:Env
 outer:List Env
 stack:List Env
 ex:List Addr
 fn:Str->Bool
 calm:Bool
 pn:List (Addr×Obj)
 xe:Value->Shared->Prop
noncomputable def rG(l:List Env):List Addr:=l.filterMap (·.frame)
abbrev Cx.fs(X:Cx):List Addr:=rG X.outer
noncomputable def IL(sc:Scope)(x:Str):Prop:=sc.names.lookup x=some .local\/sc.names.lookup x=some .cell\/sc.names.lookup x=some .free
noncomputable def aK(sc:Scope)(x:Str):Prop:=sc.names.lookup x=some .local\/sc.names.lookup x=some .cell
noncomputable def XU(env:Env)(h:Heap)(m:Str->Option Value)(x:Str)(u:Value):Prop:=
 (env.kindOf x=some .local/\m x=some u)\/((env.kindOf x=some .cell\/env.kindOf x=some .free)/\∃c,env.cells.lookup x=some c/\h.IsCell c (some u))
structure Cx.Ok(X:Cx):Prop where
 mod:Mod X.K X.mg X.base
 kind:X.env.scope.kind=.function
 glob:X.env.globals=mainGlobals
 blt:X.env.builtins=builtinsNs
 above:X.s₀.heap.objs.size<=X.env.locals
 inj:∀x y c,X.env.cells.lookup x=some c->X.env.cells.lookup y=some c->x=y
 has:∀x,(X.env.kindOf x=some .cell\/X.env.kindOf x=some .free)->∃c,X.env.cells.lookup x=some c
 cab:∀x c,X.fn x=true->X.env.cells.lookup x=some c->X.s₀.heap.objs.size<=c
 hd:X.calm=true->X.A.handled=none
 frames:X.A.frames=some X.stack
 stk:X.stack=X.outer\/(X.stack=X.env::X.outer/\X.env.frame=some X.env.locals)
 uw:∀b∈X.ex,b≠X.env.locals/\∀x c,X.env.cells.lookup x=some c->c≠b
 bs:∀b o,X.base.get? b=some o->X.s₀.heap.get? b=some o/\X.H₀ b=none
 Rz:X.base.objs.size<=X.s₀.heap.objs.size
 Dz:∀b o,X.base.get? b=some o->b∉X.ex
 Az:∀b∈X.ex,b∉X.fs
 bx:X.s₀.heap.FunFrames X.base X.outer
 Gv:∀b∈X.fs,X.H₀ b=none
structure Inv(X:Cx)(pins:List (Addr×Obj))(σ:List (Option V))(H:Hp)(s:Shared):Prop where
 ok:X.Ok
 os:s.os=X.s₀.os
 bare:AllBare s.gens
 base:Un X.fs X.ex X.H₀ H X.s₀.heap s.heap
 loc:∃m,s.heap.Ns X.env.locals m/\∀(i:Nat)(x:Str)(v:V),X.N[i]?=some x->σ[i]?=some (some v)->IL X.env.scope x->∃u,RelV v u/\XU X.env s.heap m x u
 cell:∀x c,X.env.cells.lookup x=some c->∃v,s.heap.IsCell c v
 free:H X.env.locals=none
 Xj:∀x c,X.env.cells.lookup x=some c->H c=none
 pin:∀p∈X.pn++pins,s.heap.get? p.1=some p.2/\H p.1=none/\p.1≠X.env.locals/\p.1∉X.fs/\∀v,p.2.data≠.cell v
 hok:Oq X.prog X.w H s.heap
 len:σ.length=X.N.length
section
variable{X:Cx}{pins:List (Addr×Obj)}{σ:List (Option V)}{H H':Hp}{s:Shared}{h':Heap}
theorem Cx.Ok.Mg(ok:X.Ok){b:Addr}{o:Obj}(e:X.base.get? b=some o):b∉X.fs:=fun hb=>by have:=(ok.bx.mem hb).1;rw[e]at this;cases this
theorem Inv.bs(I:Inv X pins σ H s):∀b o,X.base.get? b=some o->s.heap.get? b=some o/\H b=none:=fun b o e=>⟨I.base.keep b o (I.ok.bs b o e).1 (I.ok.bs b o e).2 (I.ok.Mg e) (I.ok.Dz b o e),I.base.free b o (I.ok.bs b o e).1 (I.ok.bs b o e).2 (I.ok.Dz b o e)⟩
theorem Inv.bk(I:Inv X pins σ H s):∀b o,X.base.get? b=some o->s.heap.get? b=some o:=fun b o e=>(I.bs b o e).1
theorem Inv.mod(I:Inv X pins σ H s):Mod X.K X.mg X.base:=I.ok.mod
theorem Inv.Aq(I:Inv X pins σ H s):X.K.In s.heap:=I.ok.mod.Iv.keeps I.bk
theorem Inv.nolimit(I:Inv X pins σ H s):s.heap.NoLimit:=I.ok.mod.nolimit.keeps I.bk
theorem Inv.lt(I:Inv X pins σ H s):X.env.locals<s.heap.objs.size:=let ⟨_,hn,_⟩:=I.loc;hn.lt
theorem Inv.sz(I:Inv X pins σ H s):X.s₀.heap.objs.size<=s.heap.objs.size:=Nat.le_trans I.ok.above (Nat.le_of_lt I.lt)
theorem Inv.Ng(I:Inv X pins σ H s){a:Addr}(h:s.heap.objs.size<=a):a∉X.fs:=fun hb=>by obtain⟨_,o,ho,_⟩:=I.ok.bx.mem hb;exact absurd (Nat.lt_of_lt_of_le (Heap.lt_size ho) (Nat.le_trans I.sz h)) (Nat.lt_irrefl _)
theorem Inv.Tz(I:Inv X pins σ H s):∀x c,X.env.cells.lookup x=some c->c≠X.env.locals:=fun x c e z=>by obtain⟨v,o,ho,hd⟩:=I.cell x c e;obtain⟨m,⟨o',es,ep,ho',hd',_⟩,_⟩:=I.loc;rw[z,ho']at ho;cases ho;rw[hd']at hd;cases hd
theorem Inv.bx(I:Inv X pins σ H s):s.heap.FunFrames X.base X.outer:=by
 have all:∀(l:List Env),(∀b∈rG l,b∈X.fs)->X.s₀.heap.FunFrames X.base l->s.heap.FunFrames X.base l:=by
  intro l
  induction l with
  | nil=>intro _ _;trivial
  | cons env r ih=>
   intro hs hl;obtain⟨hk,⟨L,o,hf,hn,ho,hd⟩,hr⟩:=hl;have hL:L∈X.fs:=hs L (by unfold rG;rw[filterMap_cons,hf];exact mem_cons_self);obtain⟨sl,e⟩:=I.base.slot L o ho (I.ok.Gv L hL) hL fun z=>I.ok.Az L z hL
   exact⟨hk,⟨L,_,hf,hn,e,hd⟩,ih (fun b hb=>hs b (by unfold rG;rw[filterMap_cons,hf];exact mem_cons_of_mem _ hb)) hr⟩
 exact all X.outer (fun _ hb=>hb) I.ok.bx
theorem Inv.stack(I:Inv X pins σ H s):s.heap.FunFrames X.base X.stack:=by
 rcases I.ok.stk with e | ⟨e,hf⟩
 · rw[e];exact I.bx
 · rw[e];obtain⟨m,hn,_⟩:=I.loc;refine .cons (by rw[I.ok.kind];decide) hf hn ?_ I.bx;exact Heap.get?_none_of_le (Nat.le_trans I.ok.Rz I.ok.above)
theorem Inv.Ox(I:Inv X pins σ H s):∀b∈rG X.stack,b∈X.env.locals::X.fs:=fun b hb=>by
 rcases I.ok.stk with e | ⟨e,hf⟩
 · rw[e]at hb;exact mem_cons_of_mem _ hb
 · rw[e]at hb;unfold rG at hb;rw[filterMap_cons,hf]at hb;exact hb
theorem Inv.Nx(I:Inv X pins σ H s):∀b∈rG X.stack,H b=none:=fun b hb=>by
 rcases mem_cons.mp (I.Ox b hb)with e | hb
 · rw[e];exact I.free
 · obtain⟨_,o,ho,_⟩:=I.ok.bx.mem hb;exact I.base.free b o ho (I.ok.Gv b hb) fun z=>I.ok.Az b z hb
theorem Inv.step{g':Array GenState}{t':Nat}{d':Drawn}{ch:List Addr}(I:Inv X pins σ H s)
 (hch:∀b∈ch,(b∈X.ex\/X.s₀.heap.objs.size<=b)/\b≠X.env.locals/\(∀x c,X.env.cells.lookup x=some c->c≠b)/\∀p∈X.pn++pins,p.1≠b)
 (keep:∀b o,b≠X.env.locals->b∉X.fs->b∉ch->s.heap.get? b=some o->H b=none->h'.get? b=some o)
 (slot:∀b o,b≠X.env.locals->b∈X.fs->b∉ch->s.heap.get? b=some o->H b=none->∃sl,h'.get? b=some { o with slots:=sl }) (free:∀b o,b∉ch->s.heap.get? b=some o->H b=none->H' b=none)
 (there:∀b o,b∉ch->s.heap.get? b=some o->∃o',h'.get? b=some o')
 (tups:∀b xs,H b=some (.tup xs)->H' b=some (.tup xs)) (Kq:∀b o u,H b=some (.Qq o u)->H' b=some (.Qq o u)) (Yq:∀b ps,H b=some (.Yv ps)->∃more,H' b=some (.Yv (ps++more)))
 (ns:∀m,s.heap.Ns X.env.locals m->h'.Ns X.env.locals m) (hok:Oq X.prog X.w H' h') (hg:AllBare g') :
 Inv X pins σ H' { s with heap:=h',gens:=g',drawn:=d',toks:=t' }:=by
 have Lw:∀b o,X.s₀.heap.get? b=some o->b≠X.env.locals:=fun b o e=>Nat.ne_of_lt (Nat.lt_of_lt_of_le (Heap.lt_size e) I.ok.above)
 have qg:∀b o,X.s₀.heap.get? b=some o->b∉X.ex->b∉ch:=fun b o e hx hb=>by
  rcases(hch b hb).1 with z | z
  · exact hx z
  · exact absurd (Nat.lt_of_lt_of_le (Heap.lt_size e) z) (Nat.lt_irrefl _)
 have cellK:∀x c,X.env.cells.lookup x=some c->∀v,s.heap.IsCell c v->h'.IsCell c v:=fun x c e v zz=>by
  obtain⟨o,ho,hd⟩:=zz;have Kw:c∉ch:=fun z=>(hch c z).2.2.1 x c e rfl
  by_cases hc:c∈X.fs
  · obtain⟨sl,q⟩:=slot c o (I.Tz x c e) hc Kw ho (I.Xj x c e);exact⟨_,q,hd⟩
  · exact⟨o,keep c o (I.Tz x c e) hc Kw ho (I.Xj x c e),hd⟩
 refine⟨I.ok,I.os,hg,⟨fun b o e n hb hx=>?_,fun b o e n hb hx=>?_,fun b o e n hx=>?_,fun b o e hx=>?_,fun b xs e=>tups b xs (I.base.tups b xs e),fun b o xs e=>Kq b o xs (I.base.Kq b o xs e),fun b ps e=>?_⟩,?_,fun x c e=>?_,?_,fun x c e=>?_,fun p hp=>?_,hok,I.len⟩
 · exact keep b o (Lw b o e) hb (qg b o e hx) (I.base.keep b o e n hb hx) (I.base.free b o e n hx)
 · obtain⟨sl,e1⟩:=I.base.slot b o e n hb hx;obtain⟨sl',e2⟩:=slot b _ (Lw b o e) hb (qg b o e hx) e1 (I.base.free b o e n hx);exact⟨sl',e2⟩
 · obtain⟨o',e1⟩:=I.base.there b o e hx;exact free b o' (qg b o e hx) e1 (I.base.free b o e n hx)
 · obtain⟨o',e1⟩:=I.base.there b o e hx;exact there b o' (qg b o e hx) e1
 · obtain⟨m1,e1⟩:=I.base.Yq b ps e;obtain⟨m2,e2⟩:=Yq b _ e1;exact⟨m1++m2,by rw[e2,Array.append_assoc]⟩
 · obtain⟨m,hn,hl⟩:=I.loc;refine⟨m,ns m hn,fun i x v e1 e2 e3=>?_⟩;obtain⟨u,r,l⟩:=hl i x v e1 e2 e3;refine⟨u,r,?_⟩;rcases l with l | ⟨k,c,e,z⟩
   · exact .inl l
   · exact .inr ⟨k,c,e,cellK x c e _ z⟩
 · obtain⟨v,z⟩:=I.cell x c e;exact⟨v,cellK x c e v z⟩
 · obtain⟨m,⟨o,_,_,ho,_⟩,_⟩:=I.loc;exact free _ o (fun z=>(hch _ z).2.1 rfl) ho I.free
 · obtain⟨v,o,ho,hd⟩:=I.cell x c e;exact free c o (fun z=>(hch c z).2.2.1 x c e rfl) ho (I.Xj x c e)
 · obtain⟨e,n,ne,nf,d⟩:=I.pin p hp;have Kw:p.1∉ch:=fun z=>(hch p.1 z).2.2.2 p hp rfl
   exact⟨keep p.1 p.2 ne nf Kw e n,free p.1 p.2 Kw e n,ne,nf,d⟩
theorem Inv.un{t':Nat}(I:Inv X pins σ H s)(u:Un X.fs [] H H' s.heap h')(hok:Oq X.prog X.w H' h'):Inv X pins σ H' { s with heap:=h',toks:=t' }:=by
 obtain⟨m,⟨o,es,ep,ho,r⟩,_⟩:=id I.loc;obtain⟨sl,hL⟩:=u.any ho I.free (by simp);exact I.step (g':=s.gens) (d':=s.drawn) (ch:=[]) (fun _ z=>nomatch z) (fun b o _ hb _ e n=>u.keep b o e n hb (by simp)) (fun b o _ hb _ e n=>u.slot b o e n hb (by simp)) (fun b o _ e n=>u.free b o e n (by simp)) (fun b o _ e=>u.there b o e (by simp)) u.tups u.Kq u.Yq (fun m' hm=>by
  obtain⟨o',es',ep',ho',r'⟩:=hm;rw[ho]at ho';cases ho';exact⟨_,es',ep',hL,r'⟩) hok I.bare
theorem Inv.call{g':Array GenState}{t':Nat}{d':Drawn}{ch:List Addr}(I:Inv X pins σ H s)(u:Un (rG X.stack) ch H H' s.heap h')(hok:Oq X.prog X.w H' h')(hg:AllBare g')
 (hch:∀b∈ch,(b∈X.ex\/X.s₀.heap.objs.size<=b)/\b≠X.env.locals/\(∀x c,X.env.cells.lookup x=some c->c≠b)/\∀p∈X.pn++pins,p.1≠b) :
 Inv X pins σ H' { s with heap:=h',gens:=g',drawn:=d',toks:=t' }:=by
 obtain⟨m,⟨o,es,ep,ho,r⟩,_⟩:=id I.loc;obtain⟨sl,hL⟩:=u.any ho I.free fun z=>(hch _ z).2.1 rfl
 exact I.step (ch:=ch) hch (fun b o hL hb hc e n=>u.keep b o e n (fun z=>(mem_cons.mp (I.Ox b z)).elim hL hb) hc) (fun b o _ _ hc e n=>u.any e n hc) (fun b o hc e n=>u.free b o e n hc) (fun b o hc e=>u.there b o e hc) u.tups u.Kq u.Yq (fun m' hm=>by
  obtain⟨o',es',ep',ho',r'⟩:=hm;rw[ho]at ho';cases ho';exact⟨_,es',ep',hL,r'⟩) hok hg
theorem Inv.turned{t':Nat}{it:Addr}(I:Inv X pins σ H s)(k:∀b o,b≠it->s.heap.get? b=some o->h'.get? b=some o)(hn:H it=none)(hL:it≠X.env.locals)
 (h1:it∈X.ex\/X.s₀.heap.objs.size<=it) (h2:∀x c,X.env.cells.lookup x=some c->c≠it) (h3:∀p∈X.pn++pins,p.1≠it):Inv X pins σ H { s with heap:=h',toks:=t' }:=by
 have Ih:∀b u,H b=some u->b≠it:=fun b u e z=>by rw[z,hn]at e;cases e
 refine I.step (g':=s.gens) (d':=s.drawn) (ch:=[it]) (fun b hb=>?_) (fun b o _ _ hc e _=>k b o (fun z=>hc (by simp[z])) e) (fun b o _ _ hc e _=>⟨o.slots,k b o (fun z=>hc (by simp[z])) e⟩) (fun _ _ _ _ n=>n)
  (fun b o hc e=>⟨o,k b o (fun z=>hc (by simp[z])) e⟩) (fun _ _ e=>e) (fun _ _ _ e=>e) (fun b ps e=>⟨#[],by rw[e];simp⟩) (fun m hm=>?_) (fun b u e=>?_) I.bare
 · have e:b=it:=by simpa using hb
   subst e;exact⟨h1,hL,h2,h3⟩
 · obtain⟨o,es,ep,ho,r⟩:=hm;exact⟨o,es,ep,k _ o (Ne.symm hL) ho,r⟩
 · refine(I.hok b u e).stay (fun c v hc q=>k c v ?_ q) (fun _ q=>q) fun _ _ q=>q
   rcases hc with z | z
   · rw[z];exact Ih b u e
   · exact Ih c _ z
theorem Inv.tok(I:Inv X pins σ H s)(t:Nat):Inv X pins σ H { s with toks:=t }:=I.un (h':=s.heap) (t':=t) Un.refl I.hok
theorem Inv.kept{t':Nat}(I:Inv X pins σ H s)(k:∀b u,s.heap.get? b=some u->h'.get? b=some u):Inv X pins σ H { s with heap:=h',toks:=t' }:=I.un (Un.kept k) (I.hok.kept k)
theorem Inv.laid{a:Addr}{o:HO}{t':Nat}(I:Inv X pins σ H s)(k:∀b u,s.heap.get? b=some u->h'.get? b=some u)(hp:s.heap.objs.size<=a)(new:Dj X.prog X.w (VA H a o) h' a o) :
 Inv X pins σ (VA H a o) { s with heap:=h',toks:=t' }:=I.un (Un.laid k hp (I.hok.fresh hp)) (I.hok.laid k hp new)
theorem Inv.write{x e:Addr}{o:HO}{t':Nat}(I:Inv X pins σ H s)(mu:uQ (H x))(he:e=x\/H e=some (.own x))(k:∀b u,b≠e->s.heap.get? b=some u->h'.get? b=some u)(heo:∃u,h'.get? e=some u)
 (new:Dj X.prog X.w (VA H x o) h' x o):Inv X pins σ (VA H x o) { s with heap:=h',toks:=t' }:=I.un (Un.write mu he k heo) (I.hok.write mu he k heo new)
theorem Inv.mz{Kz:List (Addr×Obj)}(I:Inv X pins σ H s)(h:∀p∈Kz,s.heap.get? p.1=some p.2/\H p.1=none/\p.1≠X.env.locals/\p.1∉X.fs/\∀v,p.2.data≠.cell v):Inv X Kz σ H s:=
 ⟨I.ok,I.os,I.bare,I.base,I.loc,I.cell,I.free,I.Xj,fun p hp=>(mem_append.mp hp).elim (fun z=>I.pin p (mem_append_left _ z)) (h p),I.hok,I.len⟩
theorem zO{N:List Str}(hN:N.Nodup){i j:Nat}{x:Str}(a:N[i]?=some x)(b:N[j]?=some x):i=j:=by obtain⟨h1,e1⟩:=Df a;obtain⟨h2,e2⟩:=Df b;exact(getElem_inj hN).mp (e1.trans e2.symm)
theorem DR{M:Model}{A:Around}{E:Value->Shared->Prop}{i:Nat}{x:Str}{v:V}{u:Value}{Q:Unit->Shared->Prop}(I:Inv X pins σ H s)(hN:X.N.Nodup)(hi:X.N[i]?=some x)(hx:aK X.env.scope x)(r:RelV v u)
 (h:∀s',Inv X pins (σ.set i (some v)) H s'->(∃a,Heap.SameBut a s.heap s'.heap/\(a=X.env.locals\/X.env.cells.lookup x=some a))->Q () s') (hf:X.fn x=true\/X.env.scope.names.lookup x=some .local:=by first | exact .inl rfl | exact .inr rfl | assumption):wpAny M A (storeName X.env x u) Q E s:=by
 obtain⟨m,hn,hl⟩:=id I.loc;have hcls:(X.env.scope.kind==.class || (X.env.scope.kind==.module&&X.env.locals !=X.env.globals))=false:=by rw[I.ok.kind];rfl
 have yh:i<σ.length:=by rw[I.len];exact(Df hi).1
 have Tz:=I.Tz;have tracked:∀{a:Addr}{h':Heap},(∃o,s.heap.get? a=some o/\H a=none)->Heap.SameBut a s.heap h'->Oq X.prog X.w H h':=fun {a h'} ha hs b ob e=>by
  obtain⟨_,_,hfree⟩:=ha;refine(I.hok b ob e).stay (fun c w' hc q=>(hs.2 c ?_).trans q) (fun _ q=>q) fun _ _ q=>q
  rintro rfl;rcases hc with rfl | hc
  · rw[hfree]at e;cases e
  · rw[hfree]at hc;cases hc
 rcases hx with hk | hk
 · refine wpAny_storeName_local hk hn (fun h' hn' hs=>?_) hcls;obtain⟨oL,_,_,hoL,_⟩:=id hn;refine h _ ⟨I.ok,I.os,I.bare,⟨fun b o e n hb hx=>?_,fun b o e n hb hx=>?_,I.base.free,fun b o e hx=>?_,I.base.tups,I.base.Kq,I.base.Yq⟩,⟨_,hn',fun j y v' e1 e2 e3=>?_⟩,fun y c e=>?_,I.free,I.Xj,fun p hp=>?_,tracked ⟨oL,hoL,I.free⟩ hs,by simpa using I.len⟩ ⟨_,hs,.inl rfl⟩
   · exact(hs.2 b (Nat.ne_of_lt (Nat.lt_of_lt_of_le (Heap.lt_size e) I.ok.above))).trans (I.base.keep b o e n hb hx)
   · obtain⟨sl,e1⟩:=I.base.slot b o e n hb hx;exact⟨sl,(hs.2 b (Nat.ne_of_lt (Nat.lt_of_lt_of_le (Heap.lt_size e) I.ok.above))).trans e1⟩
   · obtain⟨o',e1⟩:=I.base.there b o e hx;exact⟨o',(hs.2 b (Nat.ne_of_lt (Nat.lt_of_lt_of_le (Heap.lt_size e) I.ok.above))).trans e1⟩
   · by_cases hj:j=i
     · subst hj;rw[hi]at e1;cases e1;rw[getElem?_set_self yh]at e2;cases e2;exact⟨u,r,.inl ⟨hk,by simp⟩⟩
     · rw[getElem?_set_ne (Ne.symm hj)]at e2;obtain⟨u',r',q⟩:=hl j y v' e1 e2 e3;refine⟨u',r',?_⟩;rcases q with⟨k,e⟩ | ⟨k,c,e,z⟩
       · refine .inl ⟨k,?_⟩;have:y≠x:=fun e=>hj (zO hN e1 (e ▸ hi))
         simp[this,e]
       · exact .inr ⟨k,c,e,z.sameBut hs (Tz y c e)⟩
   · obtain⟨w',z⟩:=I.cell y c e;exact⟨w',z.sameBut hs (Tz y c e)⟩
   · obtain⟨e,n,ne,nf,d⟩:=I.pin p hp;exact⟨(hs.2 p.1 ne).trans e,n,ne,nf,d⟩
 · have hfn:X.fn x=true:=by
    rcases hf with z | z
    · exact z
    · rw[z]at hk;cases hk
   obtain⟨c,hc⟩:=I.ok.has x (.inl hk);obtain⟨w',z⟩:=I.cell x c hc;refine wpAny_storeName_cell I.ok.kind hk hc z (fun h' hc' hs=>?_);obtain⟨oc,hoc,Jg⟩:=id z;refine h { s with heap:=h' } ⟨I.ok,I.os,I.bare,⟨fun b o e n hb hx=>?_,fun b o e n hb hx=>?_,I.base.free,fun b o e hx=>?_,I.base.tups,I.base.Kq,I.base.Yq⟩,⟨m,hn.sameBut hs (Ne.symm (Tz x c hc)),fun j y v' e1 e2 e3=>?_⟩,fun y c' e=>?_,I.free,I.Xj,fun p hp=>?_,tracked ⟨oc,hoc,I.Xj x c hc⟩ hs,by simpa using I.len⟩ ⟨c,hs,.inr hc⟩
   · exact(hs.2 b (Nat.ne_of_lt (Nat.lt_of_lt_of_le (Heap.lt_size e) (I.ok.cab x c hfn hc)))).trans (I.base.keep b o e n hb hx)
   · obtain⟨sl,e1⟩:=I.base.slot b o e n hb hx;exact⟨sl,(hs.2 b (Nat.ne_of_lt (Nat.lt_of_lt_of_le (Heap.lt_size e) (I.ok.cab x c hfn hc)))).trans e1⟩
   · obtain⟨o',e1⟩:=I.base.there b o e hx;exact⟨o',(hs.2 b (Nat.ne_of_lt (Nat.lt_of_lt_of_le (Heap.lt_size e) (I.ok.cab x c hfn hc)))).trans e1⟩
   · by_cases hj:j=i
     · subst hj;rw[hi]at e1;cases e1;rw[getElem?_set_self yh]at e2;cases e2;exact⟨u,r,.inr ⟨.inl hk,c,hc,hc'⟩⟩
     · rw[getElem?_set_ne (Ne.symm hj)]at e2;obtain⟨u',r',q⟩:=hl j y v' e1 e2 e3;refine⟨u',r',?_⟩;rcases q with q | ⟨k,c',e,z'⟩
       · exact .inl q
       · refine .inr ⟨k,c',e,z'.sameBut hs ?_⟩;rintro rfl;exact hj (zO hN e1 (I.ok.inj _ _ _ e hc ▸ hi))
   · by_cases hcc:c'=c
     · subst hcc;exact⟨_,hc'⟩
     · obtain⟨w2,z2⟩:=I.cell y c' e;exact⟨w2,z2.sameBut hs hcc⟩
   · obtain⟨e,n,ne,nf,d⟩:=I.pin p hp;refine⟨(hs.2 p.1 ?_).trans e,n,ne,nf,d⟩;intro q;rw[q,hoc]at e;have q':oc=p.2:=Option.some.inj e;exact d w' (by rw[<- q'];exact Jg)
theorem JK{M:Model}{A:Around}{E:Value->Shared->Prop}{i:Nat}{x:Str}{v:V}{u:Value}{Q:Unit->Shared->Prop}(I:Inv X pins σ H s)(hN:X.N.Nodup)(hi:X.N[i]?=some x)(hx:aK X.env.scope x)(r:RelV v u)
 (h:∀s',Inv X pins (σ.set i (some v)) H s'->Q () s') (hf:X.fn x=true\/X.env.scope.names.lookup x=some .local:=by first | exact .inl rfl | exact .inr rfl | assumption):wpAny M A (storeName X.env x u) Q E s:=
 DR I hN hi hx r (fun s' I' _=>h s' I') hf
theorem Inv.call'{s':Shared}{ch:List Addr}(I:Inv X pins σ H s)(ho:s'.os=s.os)(u:Un (rG X.stack) ch H H' s.heap s'.heap)(hok:Oq X.prog X.w H' s'.heap)(hg:AllBare s'.gens)
 (hch:∀b∈ch,(b∈X.ex\/X.s₀.heap.objs.size<=b)/\b≠X.env.locals/\(∀x c,X.env.cells.lookup x=some c->c≠b)/\∀p∈X.pn++pins,p.1≠b):Inv X pins σ H' s':=by
 obtain⟨h',g',d',t',o'⟩:=s';have e:o'=s.os:=ho;subst e;exact I.call (g':=g') (t':=t') (d':=d') u hok hg hch
end
abbrev XK:=Value->Option Addr->Hp->Prop
noncomputable abbrev St:=List (Option V)
abbrev VK:=V->Hp->Prop
abbrev TE:=St->Hp->VK->Prop
abbrev TT:=St->Hp->(Bool->Hp->Prop)->Prop
abbrev TA:=St->Hp->(List V->Hp->Prop)->Prop
structure oF where
 nx:St->Hp->Prop
 rt:VK
 bk:St->Hp->Prop:=fun _ _=>False
 ct:St->Hp->Prop:=fun _ _=>False
abbrev TS:=oF->St->Hp->Prop
def EP(X:Cx)(pins:List (Addr×Obj))(σ:St)(Q:VK)(u:Value)(s':Shared):Prop:=∃v H',Inv X pins σ H' s'/\RelV v u/\Q v H'
noncomputable def TP(X:Cx)(pins:List (Addr×Obj))(σ:St)(Q:Bool->Hp->Prop)(b:Bool)(s':Shared):Prop:=∃H',Inv X pins σ H' s'/\Q b H'
def AP(X:Cx)(pins:List (Addr×Obj))(σ:St)(Q:List V->Hp->Prop)(us:List Value)(s':Shared):Prop:=∃vs H',Inv X pins σ H' s'/\Vals vs us/\Q vs H'
def SP(X:Cx)(pins:List (Addr×Obj))(D:oF)(f:Flow)(s':Shared):Prop:=
 match f with
 | .next=>∃σ' H',Inv X pins σ' H' s'/\D.nx σ' H'
 | .brk=>∃σ' H',Inv X pins σ' H' s'/\D.bk σ' H'
 | .cont=>∃σ' H',Inv X pins σ' H' s'/\D.ct σ' H'
 | .ret u=>∃v σ' H',Inv X pins σ' H' s'/\RelV v u/\D.rt v H'
def PE(X:Cx)(e:Expr)(t:TE):Prop:=
 ∀(pins:List (Addr×Obj))(s:Shared)(σ:St)(H:Hp)(Q:VK),Inv X pins σ H s->t σ H Q->wpAny (model X.prog X.w) X.A (eval e X.env) (EP X pins σ Q) X.xe s
def PT(X:Cx)(e:Expr)(t:TT):Prop:=
 ∀(pins:List (Addr×Obj))(s:Shared)(σ:St)(H:Hp)(Q:Bool->Hp->Prop),Inv X pins σ H s->t σ H Q->wpAny (model X.prog X.w) X.A (isTrue e X.env (eval e X.env)) (TP X pins σ Q) X.xe s
def PW(X:Cx)(e:Expr)(t:TT):Prop:=
 ∀(whole:Sem Value)(pins:List (Addr×Obj))(s:Shared)(σ:St)(H:Hp)(Q:Bool->Hp->Prop),Inv X pins σ H s->t σ H Q->wpAny (model X.prog X.w) X.A (isTrue e X.env whole) (TP X pins σ Q) X.xe s
theorem PW.pt{X:Cx}{e:Expr}{t:TT}(h:PW X e t):PT X e t:=h _
def PA(X:Cx)(es:List Expr)(t:TA):Prop:=
 ∀(pos:Pos)(pins:List (Addr×Obj))(s:Shared)(σ:St)(H:Hp)(Q:List V->Hp->Prop),Inv X pins σ H s->t σ H Q->wpAny (model X.prog X.w) X.A (spliced (backTo pos (starEach es X.env))) (AP X pins σ Q) X.xe s
def PS(X:Cx)(st:Stmt)(t:TS):Prop:=
 ∀(pins:List (Addr×Obj))(s:Shared)(σ:St)(H:Hp)(D:oF),Inv X pins σ H s->t D σ H->wpAny (model X.prog X.w) X.A (exec st X.env) (SP X pins D) X.xe s
def Ax(X:Cx)(st:List Stmt)(t:TS):Prop:=
 ∀(pins:List (Addr×Obj))(s:Shared)(σ:St)(H:Hp)(D:oF),Inv X pins σ H s->t D σ H->wpAny (model X.prog X.w) X.A (execs st X.env) (SP X pins D) X.xe s
theorem WA{α:Type}{t:Sem α}{Q Q':α->Shared->Prop}{M:Model}{A:Around}{E:Value->Shared->Prop}{s:Shared}(h:wpAny M A t Q E s)(hQ:∀a s,Q a s->Q' a s):wpAny M A t Q' E s:=wpAny_mono h hQ fun _ _ x=>x
section
variable{X:Cx}
theorem Y9{a b:Expr}{ta tb:TE}(ha:PE X a ta)(hb:PE X b tb){pins:List (Addr×Obj)}{s:Shared}{σ:St}{H:Hp}{R:V->V->Hp->Prop}(I:Inv X pins σ H s)(h:ta σ H fun x H1=>tb σ H1 fun y H2=>R x y H2)
 {α:Type} {Q:α->Shared->Prop} {f:Value->Value->Sem α}
 (hf:∀v u s2 x y H2,Inv X pins σ H2 s2->RelV x v->RelV y u->R x y H2->wpAny (model X.prog X.w) X.A (f v u) Q X.xe s2) :
 wpAny (model X.prog X.w) X.A (eval a X.env) (fun v s₁=>wpAny (model X.prog X.w) X.A (eval b X.env) (fun u s₂=>wpAny (model X.prog X.w) X.A (f v u) Q X.xe s₂) X.xe s₁) X.xe s:=by
 refine WA (ha pins s σ H _ I h) fun v s1 zz=>?_
 obtain⟨x,H1,I1,r1,q1⟩:=zz;refine WA (hb pins s1 σ H1 _ I1 q1) fun u s2 zz=>?_
 obtain⟨y,H2,I2,r2,q2⟩:=zz;exact hf v u s2 x y H2 I2 r1 r2 q2
noncomputable def lK(i:Nat):TE:=fun σ H Q=>∃v,σ[i]?=some (some v)/\Q v H
noncomputable def tC(v:V):TE:=fun _ H Q=>Q v H
theorem qL {i:Nat} {x:Str} {pos:Pos} (hN:X.N[i]?=some x) (hv:IL X.env.scope x) (hd:(x==("__debug__" :Str))=false:=by decide) (hcd:(x==("__classdict__" :Str))=false:=by decide):PE X (.Name x pos) (lK i):=by
 intro pins s σ H Q I h;obtain⟨v,e,h⟩:=h;obtain⟨m,hn,hl⟩:=I.loc;obtain⟨u,r,l⟩:=hl i x v hN e hv;have fin:EP X pins σ Q u s:=⟨v,H,I,r,h⟩;rcases l with⟨hk,hm⟩ | ⟨hk,c,hc,hcell⟩
 · exact wpAny_Name (wpAny_loadName_local I.ok.kind hk hn hm fin) hd
 · rcases hk with hk | hk
   · exact wpAny_Name (wpAny_loadName_cell I.ok.kind hk hc hcell fin) hd
   · exact wpAny_Name (wpAny_loadName_free I.ok.kind hk hc hcell fin hcd) hd
theorem Z5{i j pos}:PE X (.Constant (.int i) j pos) (tC (.int i)):=fun _ _ _ H _ I h=>wpAny_Constant_int ⟨.int i,H,I.tok _,⟨_,rfl⟩,h⟩
theorem T7{b j pos}:PE X (.Constant (.bool b) j pos) (tC (.bl b)):=fun _ _ _ H _ I h=>Constant_bool ⟨.bl b,H,I,rfl,h⟩
theorem b6{j pos}:PE X (.Constant .none j pos) (tC .non):=fun _ _ _ H _ I h=>Constant_none ⟨.non,H,I,rfl,h⟩
theorem k6{x j pos}:PE X (.Constant (.str x) j pos) (tC (.str x)):=fun _ _ _ H _ I h=>Calls.Constant_str ⟨.str x,H,I.tok _,⟨_,rfl⟩,h⟩
noncomputable def Gl(X:Cx)(x:Str):Prop:=X.env.kindOf x=some .globalImplicit
theorem dG{E:Value->Shared->Prop}{pins:List (Addr×Obj)}{s:Shared}{σ:St}{H:Hp}{x:Str}{u:Value}{pos:Pos}{Q:Value->Shared->Prop}(I:Inv X pins σ H s)(hg:Gl X x)(hm:X.mg x=some u)(h:Q u s)
 (hd:(x==("__debug__" :Str))=false:=by decide):wpAny (model X.prog X.w) X.A (eval (.Name x pos) X.env) Q E s:=
 Calls.Name_function_global I.ok.kind hg (Calls.loadGlobal_global (by rw[I.ok.glob];exact I.mod.glob.keeps I.bk) hm h) hd
theorem aH{E:Value->Shared->Prop}{pins:List (Addr×Obj)}{s:Shared}{σ:St}{H:Hp}{x:Str}{u:Value}{pos:Pos}{Q:Value->Shared->Prop}(I:Inv X pins σ H s)(hg:Gl X x)(hm:X.mg x=none)(hv:bootBuiltins x=some u)(h:Q u s)
 (hn:x ≠ "__name__" :=by decide) (hd:(x==("__debug__" :Str))=false:=by decide):wpAny (model X.prog X.w) X.A (eval (.Name x pos) X.env) Q E s:=by
 obtain⟨mb,h1,h2⟩:=I.mod.blt;exact Calls.Name_function_global I.ok.kind hg (Calls.loadGlobal_builtin (by rw[I.ok.glob];exact I.mod.glob.keeps I.bk) hm (by rw[I.ok.blt];exact h1.keeps I.bk) ((h2 x hn).trans hv) h) hd
theorem N4 {x:Str} {v:V} {u:Value} {pos:Pos} (hg:Gl X x) (hm:X.mg x=some u) (r:RelV v u) (hd:(x==("__debug__" :Str))=false:=by decide):PE X (.Name x pos) (tC v):=
 fun _ _ _ H _ I h=>dG I hg hm ⟨v,H,I,r,h⟩ hd
theorem vT {x:Str} {v:V} {u:Value} {pos:Pos} (hg:Gl X x) (hm:X.mg x=none) (hv:bootBuiltins x=some u) (r:RelV v u) (hn:x ≠ "__name__" :=by decide) (hd:(x==("__debug__" :Str))=false:=by decide):PE X (.Name x pos) (tC v):=
 fun _ _ _ H _ I h=>aH I hg hm hv ⟨v,H,I,r,h⟩ hn hd
variable{a b:Expr}{ta tb:TE}{pos:Pos}
def PC(X:Cx)(op:CmpOp)(a b:Expr)(t:TE):Prop:=
 ∀(pins:List (Addr×Obj))(s:Shared)(σ:St)(H:Hp)(Q:VK),Inv X pins σ H s->t σ H Q->
  wpAny (model X.prog X.w) X.A (eval a X.env) (fun v s₁=>wpAny (model X.prog X.w) X.A (eval b X.env) (fun u s₂=>wpAny (model X.prog X.w) X.A (compareOp op v u) (EP X pins σ Q) X.xe s₂) X.xe s₁) X.xe s
theorem YZ(b:Expr){op:CmpOp}(h:op≠.In)(h2:op≠.NotIn):behindInMarks op b=false:=by
 have e1:(op==CmpOp.In)=false:=by cases op<;>first | rfl | exact absurd rfl h
 have e2:(op==CmpOp.NotIn)=false:=by cases op<;>first | rfl | exact absurd rfl h2
 cases b<;>simp[behindInMarks,e1,e2]
noncomputable def tB(t:TE):TT:=fun σ H Q=>t σ H fun x H1=>∃c,x=.bl c/\Q c H1
theorem lU{op:CmpOp}{t:TE}(h:PC X op a b t)(h1:behindInMarks op b=false:=by first | exact YZ _ (by decide) (by decide) | rfl):PT X (.Compare a [op] [b] pos) (tB t):=by intro pins s σ H Q I hw;refine wpAny_isTrue_Compare1 (WA (h pins s σ H _ I hw) fun v s1 h1=>WA h1 fun u s2 h2=>WA h2 fun c s3 zz=>?_) h1;obtain⟨x,H1,I1,r1,q1⟩:=zz;obtain⟨d,rfl,q⟩:=q1;cases r1;exact wpAny_truthy_bool ⟨H1,I1,q⟩
theorem F6{e:Expr}{t:TE}(h:PE X e t)(he:∀whole,isTrue e X.env whole=(do let v <- whole;standAt e.pos;holding [v] (truthy v)):=by intro _;rfl):PT X e (tB t):=by intro pins s σ H Q I hw;refine isTrue_plain (WA (h pins s σ H _ I hw) fun v s1 zz=>?_) (he _);obtain⟨x,H1,I1,r1,q1⟩:=zz;obtain⟨d,rfl,q⟩:=q1;cases r1;exact wpAny_truthy_bool ⟨H1,I1,q⟩
variable{tA Gj:TT}{rest:List Expr}
noncomputable def BV(t u:TT):TT:=fun σ H Q=>t σ H fun c H1=>if c=true then u σ H1 Q else Q false H1
noncomputable def E9(t u:TT):TT:=fun σ H Q=>t σ H fun c H1=>if c=true then Q true H1 else u σ H1 Q
noncomputable def JV(t:TT):TT:=fun σ H Q=>t σ H fun c H1=>Q (!c) H1
theorem t5(ha:PT X a tA):PW X (.BoolOp .And [a] pos) tA:=by
 intro wh pins s σ H Q I h;refine isTrue_and (WA (ha pins s σ H Q I h) fun c s1 e=>?_);cases c with
 | true=>exact isTrue_and_nil e
 | false=>exact e
theorem J6(ha:PT X a tA):PW X (.BoolOp .Or [a] pos) tA:=by
 intro wh pins s σ H Q I h;refine isTrue_or (WA (ha pins s σ H Q I h) fun c s1 e=>?_);cases c with
 | false=>exact isTrue_or_nil e
 | true=>exact e
theorem G6(ha:PT X a tA)(hb:PW X (.BoolOp .And (b::rest) pos) Gj):PW X (.BoolOp .And (a::b::rest) pos) (BV tA Gj):=by
 intro wh pins s σ H Q I h;refine isTrue_and (WA (ha pins s σ H _ I h) fun c s1 zz=>?_);obtain⟨H1,I1,q1⟩:=zz;cases c with
 | true=>exact hb wh pins s1 σ H1 Q I1 q1
 | false=>exact⟨H1,I1,q1⟩
theorem Y7(ha:PT X a tA)(hb:PW X (.BoolOp .Or (b::rest) pos) Gj):PW X (.BoolOp .Or (a::b::rest) pos) (E9 tA Gj):=by
 intro wh pins s σ H Q I h;refine isTrue_or (WA (ha pins s σ H _ I h) fun c s1 zz=>?_);obtain⟨H1,I1,q1⟩:=zz;cases c with
 | true=>exact⟨H1,I1,q1⟩
 | false=>exact hb wh pins s1 σ H1 Q I1 q1
theorem D6(ha:PT X a tA):PT X (.UnaryOp .Not a pos) (JV tA):=by intro pins s σ H Q I h;exact isTrue_not (ha pins s σ H (fun c H1=>Q (!c) H1) I h)
noncomputable def n8(ta tb:TE):TE:=fun σ H Q=>ta σ H fun x H1=>∃c,x=.bl c/\if c=true then tb σ H1 Q else Q (.bl false) H1
noncomputable def LV(ta tb:TE):TE:=fun σ H Q=>ta σ H fun x H1=>∃c,x=.bl c/\if c=true then Q (.bl true) H1 else tb σ H1 Q
noncomputable def B7(ta:TE):TE:=fun σ H Q=>ta σ H fun x H1=>∃c,x=.bl c/\Q (.bl (!c)) H1
theorem i6{op}{t:TE}(h:PE X a t):PE X (.BoolOp op [a] pos) t:=fun pins s σ H Q I hw=>BoolOp_one (h pins s σ H Q I hw)
theorem X5(ha:PE X a ta)(hb:PE X (.BoolOp .And (b::rest) pos) tb):PE X (.BoolOp .And (a::b::rest) pos) (n8 ta tb):=by
 intro pins s σ H Q I h;refine BoolOp_and (WA (ha pins s σ H _ I h) fun v s1 zz=>?_);obtain⟨x,H1,I1,r1,q1⟩:=zz;obtain⟨c,rfl,q1⟩:=q1;cases r1;refine wpAny_truthy_bool ?_;cases c with
 | true=>exact hb pins s1 σ H1 Q I1 q1
 | false=>exact⟨.bl false,H1,I1,rfl,q1⟩
theorem W7(ha:PE X a ta)(hb:PE X (.BoolOp .Or (b::rest) pos) tb):PE X (.BoolOp .Or (a::b::rest) pos) (LV ta tb):=by
 intro pins s σ H Q I h;refine BoolOp_or (WA (ha pins s σ H _ I h) fun v s1 zz=>?_);obtain⟨x,H1,I1,r1,q1⟩:=zz;obtain⟨c,rfl,q1⟩:=q1;cases r1;refine wpAny_truthy_bool ?_;cases c with
 | false=>exact hb pins s1 σ H1 Q I1 q1
 | true=>exact⟨.bl true,H1,I1,rfl,q1⟩
theorem f6(ha:PE X a ta):PE X (.UnaryOp .Not a pos) (B7 ta):=by intro pins s σ H Q I h;refine UnaryOp_ (WA (ha pins s σ H _ I h) fun v s1 zz=>?_);obtain⟨x,H1,I1,r1,q1⟩:=zz;obtain⟨c,rfl,q1⟩:=q1;cases r1;exact not_of (wpAny_truthy_bool ⟨.bl (!c),H1,I1,rfl,q1⟩)
noncomputable def B9(t:TT)(ta tb:TE):TE:=fun σ H Q=>t σ H fun c H1=>if c=true then ta σ H1 Q else tb σ H1 Q
theorem sZ{c:Expr}(hc:PT X c tA)(ha:PE X a ta)(hb:PE X b tb):PE X (.IfExp c a b pos) (B9 tA ta tb):=by
 intro pins s σ H Q I h;refine wpAny_IfExp (WA (hc pins s σ H _ I h) fun d s1 zz=>?_);obtain⟨H1,I1,q1⟩:=zz;cases d with
 | true=>exact ha pins s1 σ H1 Q I1 q1
 | false=>exact hb pins s1 σ H1 Q I1 q1
end
def Wj(K:Frag)(H:Hp)(a:Addr)(xs:List V):Prop:=
 Rd H a (.lst xs)\/
  ∃(o:Obj) (its:Array Value) (n:Nat),K.lookup a=some o/\o.cls=.type "list" /\ o.dict=none/\o.data=.seq its n/\its.size<=sizeLine/\Vals xs its.toList
def xI(K:Frag)(H:Hp)(a:Addr)(xs:List V):Prop:=
 Rd H a (.tup xs)\/
  ∃(o:Obj) (its:Array Value) (n:Nat),K.lookup a=some o/\o.cls=.type "tuple" /\ o.data=.seq its n/\its.size<=sizeLine/\Vals xs its.toList
noncomputable def cV:Value->Option V
 | .none=>some .non
 | .bool b=>some (.bl b)
 | .int i _=>some (.int i)
 | .str x _=>some (.str x)
 | .bytes b _=>some (.wz b)
 | .float b _=>some (.flt b)
 | .ref a=>some (.ref a)
 | .type n=>some (.ty n)
 | _=>none
theorem RelV.abs{x:V}{u:Value}(r:RelV x u):cV u=some x:=by
 cases x with
 | non=>cases r;rfl
 | bl _=>cases r;rfl
 | int _=>obtain⟨t,rfl⟩:=r;rfl
 | str _=>obtain⟨t,rfl⟩:=r;rfl
 | wz _=>obtain⟨t,rfl⟩:=r;rfl
 | flt _=>obtain⟨t,rfl⟩:=r;rfl
 | ref _=>cases r;rfl
 | ty _=>cases r;rfl
theorem RelV.inj{x y:V}{u:Value}(r:RelV x u)(q:RelV y u):x=y:=Option.some.inj (r.abs.symm.trans q.abs)
theorem Vals.inj:∀{xs ys:List V}{us:List Value},Vals xs us->Vals ys us->xs=ys
 | _,_,_,.nil,.nil=>rfl
 | _,_,_,.cons r t,.cons r' t'=>by rw[r.inj r',Vals.inj t t']
section
variable{X:Cx}{pins:List (Addr×Obj)}{σ:St}{H:Hp}{s:Shared}{a:Addr}{xs ys:List V}
theorem Wj.of{K:Frag}(h:H a=some (.lst xs)):Wj K H a xs:=.inl (.inl h)
theorem Inv.list(I:Inv X pins σ H s)(h:Wj X.K H a xs):∃its:List Value,Vals xs its/\PlainL s.heap a its.toArray/\xs.length<=sizeLine:=by
 rcases h with h | ⟨o,its,n,hk,hc,hd,hs,hz,r⟩
 · obtain⟨z,its,n,r,e⟩:=h.ok I.hok;exact⟨its,r,⟨_,n,e,rfl,rfl,rfl⟩,z⟩
 · refine⟨its.toList,r,⟨o,n,I.Aq a o hk,hc,hd,by simpa using hs⟩,?_⟩;have e:=r.length;simp only[Array.length_toList]at e;omega
theorem Inv.tuple(I:Inv X pins σ H s)(h:xI X.K H a xs):∃its:List Value,Vals xs its/\IsTup s.heap a its.toArray/\xs.length<=sizeLine:=by
 rcases h with h | ⟨o,its,n,hk,hc,hs,hz,r⟩
 · obtain⟨z,its,r,p⟩:=h.ok I.hok;exact⟨its,r,p,z⟩
 · refine⟨its.toList,r,⟨o,I.Aq a o hk,hc,n,by simpa using hs⟩,?_⟩;have e:=r.length;simp only[Array.length_toList]at e;omega
theorem Inv.yx(I:Inv X pins σ H s)(h:Wj X.K H a xs)(h':Wj X.K H a ys):xs=ys:=by
 obtain⟨its,r,⟨o,n,e,_,_,d⟩,_⟩:=I.list h;obtain⟨its',r',⟨o',n',e',_,_,d'⟩,_⟩:=I.list h';rw[e]at e';cases e';rw[d]at d';injection d' with d1 _
 have:its=its':=by simpa using congrArg Array.toList d1
 subst this;exact r.inj r'
theorem Inv.Ez(I:Inv X pins σ H s)(h:xI X.K H a xs)(h':xI X.K H a ys):xs=ys:=by
 obtain⟨its,r,⟨o,e,_,n,d⟩,_⟩:=I.tuple h;obtain⟨its',r',⟨o',e',_,n',d'⟩,_⟩:=I.tuple h';rw[e]at e';cases e';rw[d]at d';injection d' with d1 _
 have:its=its':=by simpa using congrArg Array.toList d1
 subst this;exact r.inj r'
end
noncomputable abbrev Cx.wish(X:Cx)(E:Value->Shared->Prop):Cx:={ X with xe:=E }
abbrev Cx.Yx(X:Cx):Cx:=X.wish fun _ _=>False
theorem Cx.Ok.wish{X:Cx}(ok:X.Ok)(E:Value->Shared->Prop):(X.wish E).Ok:=
 ⟨ok.mod,ok.kind,ok.glob,ok.blt,ok.above,ok.inj,ok.has,ok.cab,ok.hd,ok.frames,ok.stk,ok.uw,ok.bs,ok.Rz,ok.Dz,ok.Az,ok.bx,ok.Gv⟩
theorem Cx.Ok.Mj{X:Cx}{E:Value->Shared->Prop}(ok:(X.wish E).Ok):X.Ok:=
 ⟨ok.mod,ok.kind,ok.glob,ok.blt,ok.above,ok.inj,ok.has,ok.cab,ok.hd,ok.frames,ok.stk,ok.uw,ok.bs,ok.Rz,ok.Dz,ok.Az,ok.bx,ok.Gv⟩
section
variable{X:Cx}{pins:List (Addr×Obj)}{σ:St}{H:Hp}{s:Shared}{E:Value->Shared->Prop}
theorem Inv.wish(I:Inv X pins σ H s)(E:Value->Shared->Prop):Inv (X.wish E) pins σ H s:=⟨I.ok.wish E,I.os,I.bare,I.base,I.loc,I.cell,I.free,I.Xj,I.pin,I.hok,I.len⟩
theorem Inv.Mj(I:Inv (X.wish E) pins σ H s):Inv X pins σ H s:=⟨I.ok.Mj,I.os,I.bare,I.base,I.loc,I.cell,I.free,I.Xj,I.pin,I.hok,I.len⟩
theorem SP.Mj{D:oF}{f:Flow}{s':Shared}(h:SP (X.wish E) pins D f s'):SP X pins D f s':=by
 cases f with
 | next=>obtain⟨σ',H',I,q⟩:=h;exact⟨σ',H',I.Mj,q⟩
 | brk=>obtain⟨σ',H',I,q⟩:=h;exact⟨σ',H',I.Mj,q⟩
 | cont=>obtain⟨σ',H',I,q⟩:=h;exact⟨σ',H',I.Mj,q⟩
 | ret u=>obtain⟨v,σ',H',I,r,q⟩:=h;exact⟨v,σ',H',I.Mj,r,q⟩
theorem Ax.Yx{st:List Stmt}{t:TS}(h:Ax X.Yx st t):Ax X st t:=fun pins s σ H D I hw=>wpAny_mono (h pins s σ H D (I.wish _) hw) (fun _ _ q=>q.Mj) fun _ _ z=>False.elim z
end
section
variable{X:Cx}{st:Stmt}{rest:List Stmt}{t u:TS}{e:Expr}{te:TE}{pos:Pos}
noncomputable def A7:TS:=fun D σ H=>D.nx σ H
noncomputable def NV(t u:TS):TS:=fun D σ H=>t { D with nx:=u D } σ H
theorem b5:Ax X [] A7:=fun _ _ σ H _ I h=>wpAny_execs_nil ⟨σ,H,I,h⟩
theorem CO(h1:PS X st t)(h2:Ax X rest u):Ax X (st::rest) (NV t u):=by
 intro pins s σ H D I h;refine wpAny_execs_cons (WA (h1 pins s σ H { D with nx:=u D } I h) fun f s1 q=>?_);cases f with
 | next=>obtain⟨σ',H',I',q⟩:=q;exact h2 pins s1 σ' H' D I' q
 | ret v=>exact q
 | brk=>exact q
 | cont=>exact q
theorem cL(h1:PS X st t):Ax X [st] t:=by
 intro pins s σ H D I h;refine wpAny_execs_cons (WA (h1 pins s σ H D I h) fun f s1 q=>?_);cases f with
 | next=>exact wpAny_execs_nil q
 | ret v=>exact q
 | brk=>exact q
 | cont=>exact q
theorem Inv.quiet{pins:List (Addr×Obj)}{σ:St}{H:Hp}{s:Shared}(I:Inv X pins σ H s):interactive X.env=false:=by simp[interactive,I.ok.kind]
noncomputable def v7(te:TE):TS:=fun D σ H=>te σ H fun _ H1=>D.nx σ H1
theorem zT(he:PE X e te)(hs:swapsWith e none pos.line X.env=pure false:=by rfl):PS X (.Expr e pos) (v7 te):=by intro pins s σ H D I h;exact wpAny_Expr_any (WA (he pins s σ H _ I h) fun v s1 ⟨x,H1,I1,r1,q1⟩=>⟨σ,H1,I1,q1⟩) I.quiet hs
noncomputable def MV(te:TE):TS:=fun D σ H=>te σ H D.rt
theorem B6(he:PE X e te):PS X (.Return (some e) pos) (MV te):=by intro pins s σ H D I h;exact wpAny_Return_some (WA (he pins s σ H _ I h) fun v s1 ⟨x,H1,I1,r1,q1⟩=>⟨x,σ,H1,I1,r1,q1⟩)
noncomputable def GV(c:TT)(t u:TS):TS:=fun D σ H=>c σ H fun b H1=>if b=true then t D σ H1 else u D σ H1
theorem zU{c:Expr}{a b:List Stmt}{tc:TT}(hc:PT X c tc)(ha:Ax X a t)(hb:Ax X b u):PS X (.If c a b pos) (GV tc t u):=by
 intro pins s σ H D I h;refine wpAny_If (WA (hc pins s σ H _ I h) fun d s1 zz=>?_);obtain⟨H1,I1,q1⟩:=zz;cases d with
 | true=>exact ha pins s1 σ H1 D I1 q1
 | false=>exact hb pins s1 σ H1 D I1 q1
end
abbrev TG:=V->St->Hp->(St->Hp->Prop)->Prop
abbrev UL:=List V->St->Hp->(St->Hp->Prop)->Prop
def PG(X:Cx)(target:Expr)(t:TG):Prop:=
 ∀(pins:List (Addr×Obj))(s:Shared)(σ:St)(H:Hp)(v:V)(u:Value)(Q:St->Hp->Prop),Inv X pins σ H s->RelV v u->t v σ H Q->
  wpAny (model X.prog X.w) X.A (assign target X.env u) (fun _ s'=>∃σ' H',Inv X pins σ' H' s'/\Q σ' H') X.xe s
def JU(X:Cx)(ts:List Expr)(t:UL):Prop:=
 ∀(pins:List (Addr×Obj))(s:Shared)(σ:St)(H:Hp)(vs:List V)(us:List Value)(Q:St->Hp->Prop),Inv X pins σ H s->Vals vs us->t vs σ H Q->
  wpAny (model X.prog X.w) X.A (assignInOrder ((assignEach ts X.env).map (·.2)) us) (fun _ s'=>∃σ' H',Inv X pins σ' H' s'/\Q σ' H') X.xe s
abbrev VL:=V->V->V->Hp->(Hp->Prop)->Prop
def BQ(X:Cx)(t:VL):Prop:=
 ∀(pins:List (Addr×Obj))(s:Shared)(σ:St)(H:Hp)(o i v:V)(ov iv u:Value)(Q:Hp->Prop),Inv X pins σ H s->RelV o ov->RelV i iv->RelV v u->t o i v H Q->
  wpAny (model X.prog X.w) X.A (setItem ov iv u) (fun _ s'=>∃H',Inv X pins σ H' s'/\Q H') X.xe s
section
variable{X:Cx}{pos:Pos}
noncomputable def LJ(i:Nat):TG:=fun v σ H Q=>Q (σ.set i (some v)) H
theorem aP{i:Nat}{x:Str}(hN:X.N.Nodup)(hi:X.N[i]?=some x)(hx:aK X.env.scope x)(hf:X.fn x=true\/X.env.scope.names.lookup x=some .local:=by first | exact .inl rfl | exact .inr rfl | assumption):PG X (.Name x pos) (LJ i):=by intro pins s σ H v u Q I r h;exact wpAny_assign_Name (JK I hN hi hx r (fun s' I'=>⟨_,H,I',h⟩) hf)
noncomputable def jV:UL:=fun vs σ H Q=>vs=[]/\Q σ H
noncomputable def O8(t:TG)(u:UL):UL:=fun vs σ H Q=>∃v r,vs=v::r/\t v σ H fun σ' H'=>u r σ' H' Q
theorem U4:JU X [] jV:=by intro pins s σ H vs us Q I r h;obtain⟨e,h⟩:=h;subst e;cases r;exact assignInOrder_nil ⟨σ,H,I,h⟩
theorem dS{e:Expr}{es:List Expr}{t:TG}{u:UL}(h1:PG X e t)(h2:JU X es u)
 (hs:(assignEach (e::es) X.env).map (·.2)=assign e X.env::(assignEach es X.env).map (·.2):=by rfl):JU X (e::es) (O8 t u):=by
 intro pins s σ H vs us Q I r h;obtain⟨v,vr,e1,h⟩:=h;subst e1;cases r with
 | cons r rr=>rw[hs];refine assignInOrder_cons (WA (h1 pins s σ H _ _ _ I r h) fun _ s1 zz=>?_);obtain⟨σ1,H1,I1,q1⟩:=zz;exact h2 pins s1 σ1 H1 _ _ Q I1 rr q1
def mV(K:Frag)(n:Nat)(t:UL):TG:=fun v σ H Q=>∃a xs,v=.ref a/\xI K H a xs/\xs.length=n/\t xs σ H Q
theorem w6{es:List Expr}{k:Nat}{t:UL}{n:Nat}(hc:X.calm=true)(h:JU X es t)
 (hn:(assignEach es X.env).length=n:=by rfl) (hst:(assignEach es X.env).findIdx? (·.1)=none:=by rfl):PG X (.Tuple es k pos) (mV X.K n t):=by
 intro pins s σ H v u Q I r hw;obtain⟨a,xs,e1,hq,hl,hw⟩:=hw;subst e1;cases r;obtain⟨its,rv,ht,hz⟩:=I.tuple hq;refine assign_Tuple_tuple (I.ok.hd hc) ht (by simp[hn,<- hl,rv.length]) hst fun h' hx=>?_
 have I1:Inv X pins σ H { s with heap:=h' }:=I.kept (t':=s.toks) fun b o e=>hx b o (Nat.ne_of_lt (Heap.lt_size e)) e
 exact h pins _ σ H xs _ Q I1 (by simpa using rv) hw
noncomputable def lV(to ti:TE)(t:VL):TG:=fun v σ H Q=>to σ H fun o H1=>ti σ H1 fun i H2=>t o i v H2 fun H3=>Q σ H3
theorem t6{o i:Expr}{to ti:TE}{t:VL}(ho:PE X o to)(hi:PE X i ti)(hs:BQ X t)
 (ha:∀v,assign (.Subscript o i pos) X.env v=(do
  let ov <- holding [v] (eval o X.env)
  let iv <- holding [v,ov] (eval i X.env)
  standAt pos
  holding [v,ov,iv] (setItem ov iv v)
  release [v,ov,iv] []):=by intro _;rfl):PG X (.Subscript o i pos) (lV to ti t):=by
 intro pins s σ H v u Q I r h;rw[ha];refine wpAny_bind (wpAny_holding (WA (ho pins s σ H _ I h) fun ov s1 zz=>?_));obtain⟨x,H1,I1,r1,q1⟩:=zz;refine wpAny_bind (wpAny_holding (WA (hi pins s1 σ H1 _ I1 q1) fun iv s2 zz=>?_));obtain⟨y,H2,I2,r2,q2⟩:=zz;refine wpAny_bind (wpAny_standAt (wpAny_bind (wpAny_holding (WA (hs pins s2 σ H2 x y v ov iv u _ I2 r1 r2 r q2) fun _ s3 zz=>?_))));obtain⟨H3,I3,q3⟩:=zz;exact wpAny_release ⟨σ,H3,I3,q3⟩
noncomputable def kK(te:TE)(g:TG):TS:=fun D σ H=>te σ H fun x H1=>g x σ H1 D.nx
theorem z6{tg e:Expr}{te:TE}{g:TG}(he:PE X e te)(hg:PG X tg g)(hs:swapsWithSole [tg] e pos.line X.env=pure false:=by rfl)(hw:swappedStores [tg] e X.env=pure none:=by rfl)
 (h1:(assignEach [tg] X.env).map (·.2)=[assign tg X.env]:=by rfl):PS X (.Assign [tg] e pos) (kK te g):=by
 intro pins s σ H D I h;refine wpAny_Assign_stores (WA (he pins s σ H _ I h) fun v s1 zz=>?_) hs hw;obtain⟨x,H1,I1,r1,q1⟩:=zz;rw[h1];exact WA (hg pins s1 σ H1 x v _ I1 r1 q1) fun _ s2 q=>q
theorem LP{i:Nat}{x:Str}{e:Expr}{te:TE}{pos':Pos}(hN:X.N.Nodup)(hi:X.N[i]?=some x)(hx:aK X.env.scope x)(he:PE X e te)(hs:swapsWith e (some (.Name x pos')) pos.line X.env=pure false:=by rfl)(hf:X.fn x=true\/X.env.scope.names.lookup x=some .local:=by first | exact .inl rfl | exact .inr rfl | assumption) :
 PS X (.Assign [.Name x pos'] e pos) (kK te (LJ i)):=by
 intro pins s σ H D I h;refine wpAny_Assign_Name (WA (he pins s σ H _ I h) fun v s1 zz=>?_) hs;obtain⟨y,H1,I1,r1,q1⟩:=zz;exact JK I1 hN hi hx r1 (fun s2 I2=>⟨_,H1,I2,q1⟩) hf
end
structure It where
 go:Nat->Hp->Prop
 Tw:Nat->Hp->V->Hp->Prop
 stop:Nat->Hp->Prop
def eE(X:Cx)(pins:List (Addr×Obj))(H:Hp)(b:Addr):Prop:=
 H b=none/\b≠X.env.locals/\b∉X.fs/\(b∈X.ex\/X.s₀.heap.objs.size<=b)/\(∀x c,X.env.cells.lookup x=some c->c≠b)/\∀p∈X.pn++pins,p.1≠b
theorem Inv.Iz{X:Cx}{pins:List (Addr×Obj)}{σ:St}{H H':Hp}{s:Shared}{b:Addr}(I:Inv X pins σ H s)(hb:s.heap.objs.size<=b)(hn:H' b=none):eE X pins H' b:=by
 refine⟨hn,Nat.ne_of_gt (Nat.lt_of_lt_of_le I.lt hb),I.Ng hb,.inr (Nat.le_trans I.sz hb),fun x c e z=>?_,fun p hp z=>?_⟩
 · obtain⟨v,q⟩:=I.cell x c e;exact absurd (Nat.lt_of_lt_of_le q.lt (by rw[z];exact hb)) (Nat.lt_irrefl _)
 · exact absurd (Nat.lt_of_lt_of_le (Heap.lt_size (I.pin p hp).1) (by rw[z];exact hb)) (Nat.lt_irrefl _)
structure rH(P:Program)(w:World)(K:Frag)(tg:Expr)(J:It)(fp:List Addr)(it:Addr)(tn:Nat->Heap->Prop):Prop where
 mem:it∈fp
 obj:∀i h,tn i h->∀b∈fp,∃o,h.get? b=some o/\∀v,o.data≠.cell v
 keep:∀i h h',tn i h->(∀b∈fp,∀o,h.get? b=some o->h'.get? b=some o)->tn i h'
 item:∀(X:Cx),X.prog=P->X.w=w->X.K=K->X.calm=true->∀(i:Nat)(pins:List (Addr×Obj))(s:Shared)(σ:St)(H:Hp)(E:Value->Shared->Prop),Inv X pins σ H s->(∀b∈fp,eE X pins H b)->tn i s.heap->J.go i H->
  wpAny (model P w) X.A (pyNext (.ref it)) (fun r s1=>∃u,r=some u/\
   wpAny (model P w) X.A (letOwnedTupleGo tg (.ref it) u) (fun _ s2=>∃x H',Inv X pins σ H' s2/\RelV x u/\J.Tw i H x H'/\tn (i+1) s2.heap/\∀b∈fp,H' b=none) E s1) E s
 done:∀(X:Cx),X.prog=P->X.w=w->X.K=K->X.calm=true->∀(i:Nat)(pins:List (Addr×Obj))(s:Shared)(σ:St)(H:Hp)(E:Value->Shared->Prop),Inv X pins σ H s->(∀b∈fp,eE X pins H b)->tn i s.heap->J.stop i H->
  wpAny (model P w) X.A (pyNext (.ref it)) (fun r s1=>r=none/\Inv X pins σ H s1) E s
 self:∀(A:Around)(i:Nat)(s:Shared)(Q:Value->Shared->Prop)(E:Value->Shared->Prop),tn i s.heap->Q (.ref it) s->wpAny (model P w) A (pyIter (.ref it)) Q E s
abbrev TI:=St->Hp->(It->Hp->Prop)->Prop
def aV(X:Cx)(pins:List (Addr×Obj))(σ:St)(tg:Expr)(R:It->Hp->Prop)(itv:Value)(s2:Shared):Prop:=
 ∃(it:Addr)(fp:List Addr)(tn:Nat->Heap->Prop)(J:It)(H':Hp),itv=.ref it/\Inv X pins σ H' s2/\rH X.prog X.w X.K tg J fp it tn/\tn 0 s2.heap/\(∀b∈fp,eE X pins H' b)/\R J H'
def PI(X:Cx)(tg iter:Expr)(wi:TI):Prop:=
 ∀(pins:List (Addr×Obj))(s:Shared)(σ:St)(H:Hp)(R:It->Hp->Prop),Inv X pins σ H s->wi σ H R->
  wpAny (model X.prog X.w) X.A (eval iter X.env) (fun v s1=>wpAny (model X.prog X.w) X.A (pyIter v) (aV X pins σ tg R) X.xe s1) X.xe s
theorem gQ{M:Model}{A:Around}{E:Value->Shared->Prop}{s:Shared}{tg:Expr}{it:Addr}{u:Value}{o:Obj}{n:String}{vs:Array Value}{Q:Unit->Shared->Prop}(ho:s.heap.get? it=some o)(hc:o.cls=.type n)(hd:o.data=.fields vs)
 (hn:["enumerate", "zip", "dict_itemiterator", "dict_reverseitemiterator", "odict_iterator", "itertools.zip_longest", "itertools.pairwise"].contains n=false) (hQ:Q () s):wpAny M A (letOwnedTupleGo tg (.ref it) u) Q E s:=by
 unfold letOwnedTupleGo;cases tg<;>first
  | exact wpAny_pure hQ
  | (cases u<;>first
   | exact wpAny_pure hQ
   | (refine wpAny_bind (wpAny_load ho ?_);rw[hc,hd];show wpAny M A (if(["enumerate", "zip", "dict_itemiterator", "dict_reverseitemiterator", "odict_iterator", "itertools.zip_longest", "itertools.pairwise"].contains n&&vs[0]?==some (rawInt _))=true then _ else _) Q E s;rw[if_neg (by intro h;rw[hn,Bool.false_and]at h;cases h)];exact wpAny_pure hQ))
def X8(K:Frag)(a:Addr):It:=
 ⟨fun i H=>∃xs x,Wj K H a xs/\xs[i]?=some x,fun i H x H'=>H'=H/\∀xs,Wj K H a xs->xs[i]?=some x,fun i H=>∃xs,Wj K H a xs/\xs.length<=i⟩
noncomputable def HU(lo:Int)(n:Nat):It:=⟨fun i _=>i<n,fun i H x H'=>H'=H/\x=.int (lo+i),fun i _=>n<=i⟩
theorem DY{P:Program}{w:World}{K:Frag}{tg:Expr}(a it:Addr):rH P w K tg (X8 K a) [it] it (fun i h=>h.IsListIter it a i) where
 mem:=by simp
 obj:=fun i h st b hb=>by
  have e:b=it:=by simpa using hb
  subst e;obtain⟨o,e,c,d⟩:=st;exact⟨o,e,fun v z=>by rw[d]at z;cases z⟩
 keep:=fun i h h' st k=>st.at fun o e=>k it (by simp) o e
 item:=by
  intro X hP hw hK hc i pins s σ H E I hf st hg;subst hP hw hK;obtain⟨xs,x,hq,hx⟩:=hg;obtain⟨its,rv,p,hz⟩:=I.list hq;obtain⟨u,hu,ru⟩:=rv.get hx;obtain⟨f0,f1,f2,f3,f4,f5⟩:=hf it (by simp);refine wpAny_pyNext_list_item st p.isList (x:=u) (by simpa using hu) fun h' st' sb=>?_
  have I1:Inv X pins σ H { s with heap:=h' }:=I.turned (t':=s.toks) (fun b o hb e=>(sb.2 b hb).trans e) f0 f1 f3 f4 f5;obtain⟨o,e,c,d⟩:=id st';exact⟨u,rfl,gQ (s:={ s with heap:=h' }) e c d (by decide) ⟨x,H,I1,ru,⟨rfl,fun ys hy=>by rw[I.yx hy hq];exact hx⟩,st',fun b hb=>(hf b hb).1⟩⟩
 done:=by intro X hP hw hK hc i pins s σ H E I hf st hg;subst hP hw hK;obtain⟨xs,hq,hx⟩:=hg;obtain⟨its,rv,p,hz⟩:=I.list hq;obtain⟨f0,f1,f2,f3,f4,f5⟩:=hf it (by simp);have hl:=rv.length;exact wpAny_pyNext_list_end (I.ok.hd hc) st p.isList (by simp;omega) fun h' eb=>⟨rfl,I.turned (t':=s.toks) (fun b o hb e=>eb b o hb e) f0 f1 f3 f4 f5⟩
 self:=fun _ _ _ _ _ st h=>wpAny_pyIter_listiter st h
theorem kY{P:Program}{w:World}{K:Frag}{tg:Expr}(it:Addr)(lo:Int)(n:Nat):rH P w K tg (HU lo n) [it] it (fun i h=>IsRangeIter h it (lo+(i:Nat)*1) ((n:Int)-(i:Nat)) 1) where
 mem:=by simp
 obj:=fun i h st b hb=>by
  have e:b=it:=by simpa using hb
  subst e;exact⟨_,st,fun v z=>by
   have z':Data.fields _=Data.cell v:=z;cases z'⟩
 keep:=fun i h h' st k=>k it (by simp) _ st
 item:=by
  intro X hP hw hK hc i pins s σ H E I hf st hg;subst hP hw hK;obtain⟨f0,f1,f2,f3,f4,f5⟩:=hf it (by simp);have W:=Walks.range (prog:=X.prog) (w:=X.w) (I.ok.hd hc) it lo 1 n;refine W.item i s _ _ hg st fun v h' tk hv st' kk=>?_
  obtain⟨t,rfl⟩:=hv;have I1:Inv X pins σ H { s with heap:=h',toks:=tk }:=I.turned (fun b o hb e=>kk b o (by simpa using hb) e) f0 f1 f3 f4 f5;refine⟨_,rfl,gQ (s:={ s with heap:=h',toks:=tk }) (n := "range_iterator") st' rfl rfl (by decide) ⟨.int (lo+i),H,I1,⟨t,?_⟩,⟨rfl,rfl⟩,st',fun b hb=>(hf b hb).1⟩⟩;rw[Int.mul_one]
 done:=by intro X hP hw hK hc i pins s σ H E I hf st hg;subst hP hw hK;obtain⟨f0,f1,f2,f3,f4,f5⟩:=hf it (by simp);exact wpAny_pyNext_range_end (I.ok.hd hc) st (by have:n<=i:=hg;omega) fun h' eb=>⟨rfl,I.turned (t':=s.toks) (fun b o hb e=>eb b o hb e) f0 f1 f3 f4 f5⟩
 self:=fun _ _ _ _ _ st h=>wpAny_pyIter_rangeiter st h
section
variable{X:Cx}{tg:Expr}
def P8(K:Frag)(tl:TE):TI:=fun σ H R=>tl σ H fun x H1=>∃a,x=.ref a/\(∃xs,Wj K H1 a xs)/\R (X8 K a) H1
theorem W4{l:Expr}{tl:TE}(hl:PE X l tl):PI X tg l (P8 X.K tl):=by
 intro pins s σ H R I h;refine WA (hl pins s σ H _ I h) fun v s1 zz=>?_
 obtain⟨x,H1,I1,r1,q1⟩:=zz;obtain⟨a,e,⟨xs,hq⟩,q⟩:=q1;subst e;cases r1;obtain⟨its,rv,p,hz⟩:=I1.list hq;refine wpAny_pyIter_list p.isList ?_;refine⟨s1.heap.objs.size,[s1.heap.objs.size],_,_,H1,rfl,I1.kept (t':=s1.toks) fun b o e=>Heap.get?_push_of_some _ e,DY a _,⟨_,Heap.get?_push_size _ rfl,rfl,rfl⟩,fun b hb=>?_,q⟩;have e:b=s1.heap.objs.size:=by simpa using hb
 subst e;exact I1.Iz (Hf _) (I1.hok.fresh (Hf _))
theorem eT{pins:List (Addr×Obj)}{σ:St}{H:Hp}{s:Shared}{R:It->Hp->Prop}{E:Value->Shared->Prop}{lo hi:Int}{t u v:Tok}{tk:Nat}(I:Inv X pins σ H s)(h1:-(2^62)<=lo)(h2:lo<2^62)(h3:-(2^62)<=hi)(h4:hi<2^62)
 (q:R (HU lo (hi-lo).toNat) H):wpAny (model X.prog X.w) X.A (pyIter (.ref s.heap.objs.size)) (aV X pins σ tg R) E { s with heap:=s.heap.push { cls:=.type "range",data:=.fields #[.int lo t,.int hi u,.int 1 v] },toks:=tk }:=by
 refine wpAny_pyIter_range (IsRange.new ..) (small_one h1 h2 h3 h4) ?_;have I1:Inv X pins σ H { s with heap:=s.heap.push { cls:=.type "range",data:=.fields #[.int lo t,.int hi u,.int 1 v] },toks:=tk }:=I.kept fun b o e=>Heap.get?_push_of_some _ e
 refine⟨(s.heap.push { cls:=.type "range",data:=.fields #[.int lo t,.int hi u,.int 1 v] }).objs.size,[(s.heap.push { cls:=.type "range",data:=.fields #[.int lo t,.int hi u,.int 1 v] }).objs.size],_,_,H,rfl,
  I1.kept (t':=tk) fun b o e=>Heap.get?_push_of_some _ e,kY _ lo (hi-lo).toNat,?_,fun b hb=>?_,q⟩
 · have e1:lo+((0:Nat):Int)*1=lo:=by simp
   have e2:(((hi-lo).toNat:Nat):Int)-((0:Nat):Int)=Builtin.Range.rangeSize lo hi 1:=by rw[rangeSize_one];split<;>omega
   show IsRangeIter _ _ (lo+((0:Nat):Int)*1) ((((hi-lo).toNat:Nat):Int)-((0:Nat):Int)) 1;rw[e1,e2];exact Heap.get?_push_size _ rfl
 · have e:b=(s.heap.push { cls:=.type "range",data:=.fields #[.int lo t,.int hi u,.int 1 v] }).objs.size:=by simpa using hb
   subst e;exact I1.Iz (Hf _) (I1.hok.fresh (Hf _))
def Q8(ta:TA):TI:=fun σ H R=>ta σ H fun vs H1=>∃j:Int,vs=[.int j]/\-(2^62)<=j/\j<2^62/\R (HU 0 j.toNat) H1
def R8(ta:TA):TI:=fun σ H R=>ta σ H fun vs H1=>∃i j:Int,vs=[.int i,.int j]/\(-(2^62)<=i/\i<2^62/\-(2^62)<=j/\j<2^62)/\R (HU i (j-i).toNat) H1
theorem eZ {a:Expr} {ta:TA} {p pos:Pos} (hg:Gl X "range") (hm:X.mg "range" =none) (ha:PA X [a] ta) (hs:starEach [a] X.env=[(false,eval a X.env)]:=by rfl):PI X tg (.Call (.Name "range" p) [a] [] pos) (Q8 ta):=by
 intro pins s σ H R I h;refine Call_ (aH I hg hm boot_range (PyProof.Rows.callWith_type1 (WA (ha pos pins s σ H _ I h) fun us s1 zz=>?_) hs rfl));obtain⟨vs,H1,I1,r1,q1⟩:=zz;obtain⟨j,e,q1,q2,q⟩:=q1;subst e;cases r1 with
 | cons r rr=>cases rr;obtain⟨t,rfl⟩:=r;exact call_range_1 (eT I1 (by omega) (by omega) q1 q2 (by simpa using q))
theorem fZ {a b:Expr} {ta:TA} {p pos:Pos} (hg:Gl X "range") (hm:X.mg "range" =none) (ha:PA X [a,b] ta) (hs:starEach [a,b] X.env=[(false,eval a X.env),(false,eval b X.env)]:=by rfl) (hs2:starEach [b] X.env=[(false,eval b X.env)]:=by rfl) :
 PI X tg (.Call (.Name "range" p) [a,b] [] pos) (R8 ta):=by
 intro pins s σ H R I h;refine Call_ (aH I hg hm boot_range (PyProof.Rows.callWith_type1 (WA (ha pos pins s σ H _ I h) fun us s1 zz=>?_) (by rw[hs,hs2]) (by rw[hs2];rfl)));obtain⟨vs,H1,I1,r1,q1⟩:=zz;obtain⟨i,j,e,⟨q1,q2,q3,q4⟩,q⟩:=q1;subst e;cases r1 with
 | cons r rr=>
  cases rr with
  | cons r' rr=>cases rr;obtain⟨t,rfl⟩:=r;obtain⟨t',rfl⟩:=r';exact call_range_2 (eT I1 q1 q2 q3 q4 q)
def EV(wi:TI)(g:TG)(tb:TS):TS:=fun D σ H=>wi σ H fun J H1=>∃W:Nat->Nat->St->Hp->Prop,(∃m,W 0 m σ H1)/\∀i m σ H,W i m σ H->
 (J.stop i H/\D.nx σ H)\/(J.go i H/\∃N:St->Hp->Prop,(∀σ' H',N σ' H'->∃m',m'<m/\W (i+1) m' σ' H')/\∀x H',J.Tw i H x H'->g x σ H' fun σ2 H2=>tb { D with nx:=N,ct:=N,bk:=D.nx } σ2 H2)
noncomputable def EJ(fp:List Addr)(h:Heap):List (Addr×Obj):=fp.filterMap fun b=>(h.get? b).map fun o=>(b,o)
theorem CK{fp:List Addr}{h:Heap}{b:Addr}{o:Obj}(hb:b∈fp)(e:h.get? b=some o):(b,o)∈EJ fp h:=mem_filterMap.mpr ⟨b,hb,by rw[e];rfl⟩
theorem ZY{fp:List Addr}{h:Heap}{p:Addr×Obj}(hp:p∈EJ fp h):p.1∈fp/\h.get? p.1=some p.2:=by
 obtain⟨b,hb,e⟩:=mem_filterMap.mp hp;cases q:h.get? b with
 | none=>rw[q]at e;cases e
 | some o=>rw[q]at e;have e':(b,o)=p:=Option.some.inj e;subst e';exact⟨hb,q⟩
theorem Inv.pinned{pins:List (Addr×Obj)}{σ:St}{H:Hp}{s:Shared}{fp:List Addr}(I:Inv X pins σ H s)(hf:∀b∈fp,eE X pins H b)(ho:∀b∈fp,∃o,s.heap.get? b=some o/\∀v,o.data≠.cell v):Inv X (pins++EJ fp s.heap) σ H s:=
 I.mz fun p hp=>(mem_append.mp hp).elim (fun z=>I.pin p (mem_append_right _ z)) fun z=>by obtain⟨hb,e⟩:=ZY z;obtain⟨f0,f1,f2,_⟩:=hf p.1 hb;obtain⟨o,e',d⟩:=ho p.1 hb;rw[e]at e';cases e';exact⟨e,f0,f1,f2,d⟩
theorem Inv.Zq{pins pl:List (Addr×Obj)}{σ:St}{H:Hp}{s:Shared}(I:Inv X (pins++pl) σ H s):Inv X pins σ H s:=I.mz fun p hp=>I.pin p (mem_append_right _ (mem_append_left _ hp))
theorem kU{iter:Expr}{body:List Stmt}{wi:TI}{g:TG}{tb:TS}{pos:Pos}(hp:PassesOwn (model X.prog X.w) X.A X.env X.xe)(hc:X.calm=true)(hi:PI X tg iter wi)(hg:PG X tg g)(hb:Ax X body tb)
 (hs:∀x,foldedSetIterable iter X.env x=pure x:=by intro _;rfl):PS X (.For tg iter body [] pos) (EV wi g tb):=by
 intro pins s σ H D I h;refine wpAny_For (WA (hi pins s σ H _ I h) fun v s1 h1=>WA h1 fun itv s2 h2=>?_) hs;obtain⟨it,fp,tn,J,H2,e,I2,T,st2,f2,W,⟨m0,w0⟩,turn⟩:=h2;subst e;have stat:∀{H':Hp},(∀b∈fp,H' b=none)->∀b∈fp,eE X pins H' b:=fun hn b hb=>⟨hn b hb,(f2 b hb).2⟩
 refine codeAny_forLoop_any (fun n s'=>∃i σ' H',Inv X pins σ' H' s'/\tn i s'.heap/\(∀b∈fp,H' b=none)/\W i n σ' H') ?_ m0 ⟨0,σ,H2,I2,st2,fun b hb=>(f2 b hb).1,w0⟩;rintro n s3 ⟨i,σ3,H3,I3,st3,Ov,w3⟩;rcases turn i n σ3 H3 w3 with⟨stop,qn⟩ | ⟨go,N,hN,step⟩
 · refine wpAny_passesOwn hp (WA (T.done X rfl rfl rfl hc i pins s3 σ3 H3 X.xe I3 (stat Ov) st3 stop) fun r s4 zz=>?_);obtain⟨hr,I4⟩:=zz;subst hr;exact wpAny_execs_nil ⟨σ3,H3,I4,qn⟩
 · refine wpAny_passesOwn hp (WA (T.item X rfl rfl rfl hc i pins s3 σ3 H3 X.xe I3 (stat Ov) st3 go) fun r s4 zz=>?_);obtain⟨u,hr,h4⟩:=zz;subst hr;refine wpAny_passesOwn hp (WA h4 fun _ s5 zz=>?_);obtain⟨x,H5,I5,r5,y5,Sg,Jt⟩:=zz;have Ph:=I5.pinned (stat Jt) (T.obj _ _ Sg);refine wpAny_passesOwn hp (WA (hg _ s5 σ3 H5 x u _ Ph r5 (step x H5 y5)) fun _ s6 zz=>?_);obtain⟨σ6,H6,I6,q6⟩:=zz;refine wpAny_passesOwn hp (WA (hb _ s6 σ6 H6 _ I6 q6) fun f s7 q7=>?_);have again:∀{σ7:St}{H7:Hp},Inv X (pins++EJ fp s5.heap) σ7 H7 s7->N σ7 H7->∃m,m<n/\∃i σ' H',Inv X pins σ' H' s7/\tn i s7.heap/\(∀b∈fp,H' b=none)/\W i m σ' H':=fun {σ7 H7} I7 n7=>by obtain⟨m',hm,w7⟩:=hN σ7 H7 n7;refine⟨m',hm,i+1,σ7,H7,I7.Zq,T.keep _ _ _ Sg fun b hb o e=>(I7.pin (b,o) (mem_append_right _ (mem_append_right _ (CK hb e)))).1,fun b hb=>?_,w7⟩;obtain⟨o,e,d⟩:=T.obj _ _ Sg b hb;exact(I7.pin (b,o) (mem_append_right _ (mem_append_right _ (CK hb e)))).2.1
   cases f with
   | next=>obtain⟨σ7,H7,I7,n7⟩:=q7;exact again I7 n7
   | cont=>obtain⟨σ7,H7,I7,n7⟩:=q7;exact again I7 n7
   | brk=>obtain⟨σ7,H7,I7,q7⟩:=q7;exact⟨σ7,H7,I7.Zq,q7⟩
   | ret v=>obtain⟨x7,σ7,H7,I7,r7,q7⟩:=q7;exact⟨x7,σ7,H7,I7.Zq,r7,q7⟩
end
abbrev R2:=V->V->Hp->VK->Prop
def xq(X:Cx)(f:Value->Value->Sem Value)(r:R2):Prop:=
 ∀(pins:List (Addr×Obj))(s:Shared)(σ:St)(H:Hp)(x y:V)(v u:Value)(Q:VK),Inv X pins σ H s->RelV x v->RelV y u->r x y H Q->
  wpAny (model X.prog X.w) X.A (f v u) (EP X pins σ Q) X.xe s
def bV(X:Cx)(f:Value->Sem Value)(r:V->Hp->VK->Prop):Prop:=
 ∀(pins:List (Addr×Obj))(s:Shared)(σ:St)(H:Hp)(x:V)(v:Value)(Q:VK),Inv X pins σ H s->RelV x v->r x H Q->
  wpAny (model X.prog X.w) X.A (f v) (EP X pins σ Q) X.xe s
def Uj(X:Cx)(f:Value)(r:List V->Hp->VK->Prop):Prop:=
 ∀(pins:List (Addr×Obj))(s:Shared)(σ:St)(H:Hp)(xs:List V)(us:List Value)(Q:VK),Inv X pins σ H s->Vals xs us->r xs H Q->
  wpAny (model X.prog X.w) X.A (call f us) (EP X pins σ Q) X.xe s
noncomputable def SU(r:R2)(ta tb:TE):TE:=fun σ H Q=>ta σ H fun x H1=>tb σ H1 fun y H2=>r x y H2 Q
noncomputable def G9(r:V->Hp->VK->Prop)(ta:TE):TE:=fun σ H Q=>ta σ H fun x H1=>r x H1 Q
noncomputable def rI(C:Int->Int->Prop)(g:Int->Int->V):R2:=fun x y H Q=>∃i j,x=.int i/\y=.int j/\C i j/\Q (g i j) H
noncomputable def LL(g:Int->Int->V):R2:=fun x y H Q=>∃i j,x=.int i/\y=.int j/\Q (g i j) H
noncomputable def rU(g:Int->V):V->Hp->VK->Prop:=fun x H Q=>∃i,x=.int i/\Q (g i) H
section
variable{X:Cx}{a b c:Expr}{ta tb tc:TE}{pos:Pos}
theorem aM(ha:PE X a ta)(hb:PE X b tb){pins:List (Addr×Obj)}{s:Shared}{σ:St}{H:Hp}{R:V->V->Hp->Prop}(I:Inv X pins σ H s)
 (h:ta σ H fun x H1=>tb σ H1 fun y H2=>R x y H2) {Q:Value->Shared->Prop} {f:Value->Value->Sem Value}
 (hf:∀v u s2 x y H2,Inv X pins σ H2 s2->RelV x v->RelV y u->R x y H2->wpAny (model X.prog X.w) X.A (f v u) Q X.xe s2) :
 wpAny (model X.prog X.w) X.A (eval a X.env) (fun v s₁=>wpAny (model X.prog X.w) X.A (eval b X.env) (fun u s₂=>wpAny (model X.prog X.w) X.A (f v u) Q X.xe s₂) X.xe s₁) X.xe s:=by
 refine WA (ha pins s σ H _ I h) fun v s1 zz=>?_
 obtain⟨x,H1,I1,r1,q1⟩:=zz;refine WA (hb pins s1 σ H1 _ I1 q1) fun u s2 zz=>?_
 obtain⟨y,H2,I2,r2,q2⟩:=zz;exact hf v u s2 x y H2 I2 r1 r2 q2
theorem V7{op:Operator}{r:R2}(ho:xq X (binaryOp op) r)(ha:PE X a ta)(hb:PE X b tb):PE X (.BinOp a op b pos) (SU r ta tb):=by intro pins s σ H Q I h;exact wpAny_BinOp (aM ha hb I h fun v u s2 x y H2 I2 rx ry q=>ho pins s2 σ H2 x y v u Q I2 rx ry q)
theorem X7{op:UnaryOp}{r:V->Hp->VK->Prop}(ho:bV X (unaryOp op) r)(ha:PE X a ta):PE X (.UnaryOp op a pos) (G9 r ta):=by intro pins s σ H Q I h;exact UnaryOp_ (WA (ha pins s σ H _ I h) fun v s1 ⟨x,H1,I1,r1,q1⟩=>ho pins s1 σ H1 x v Q I1 r1 q1)
theorem OU{f:Value->Value->Sem Value}{C:Int->Int->Prop}{g:Int->Int->Int}
 (rule:∀(i j:Int)(t u:Tok)(s:Shared)(Q:Value->Shared->Prop)(E:Value->Shared->Prop),C i j->Q (.int (g i j) s.toks) { s with toks:=s.toks+1 }->wpAny (model X.prog X.w) X.A (f (.int i t) (.int j u)) Q E s) :
 xq X f (rI C fun i j=>.int (g i j)):=by
 intro pins s σ H x y v u Q I rx ry h;obtain⟨i,j,rfl,rfl,hc,q⟩:=h;obtain⟨t,rfl⟩:=rx;obtain⟨t',rfl⟩:=ry;exact rule i j t t' s _ _ hc ⟨.int (g i j),H,I.tok _,⟨_,rfl⟩,q⟩
theorem LQ{f:Value->Value->Sem Value}{g:Int->Int->Int}
 (rule:∀(i j:Int)(t u:Tok)(s:Shared)(Q:Value->Shared->Prop)(E:Value->Shared->Prop),Q (.int (g i j) s.toks) { s with toks:=s.toks+1 }->wpAny (model X.prog X.w) X.A (f (.int i t) (.int j u)) Q E s) :
 xq X f (LL fun i j=>.int (g i j)):=by
 intro pins s σ H x y v u Q I rx ry h;obtain⟨i,j,rfl,rfl,q⟩:=h;obtain⟨t,rfl⟩:=rx;obtain⟨t',rfl⟩:=ry;exact rule i j t t' s _ _ ⟨.int (g i j),H,I.tok _,⟨_,rfl⟩,q⟩
theorem mM{f:Value->Value->Sem Value}{g:Int->Int->Bool}
 (rule:∀(i j:Int)(t u:Tok)(s:Shared)(Q:Value->Shared->Prop)(E:Value->Shared->Prop),Q (.bool (g i j)) s->wpAny (model X.prog X.w) X.A (f (.int i t) (.int j u)) Q E s) :
 xq X f (LL fun i j=>.bl (g i j)):=by
 intro pins s σ H x y v u Q I rx ry h;obtain⟨i,j,rfl,rfl,q⟩:=h;obtain⟨t,rfl⟩:=rx;obtain⟨t',rfl⟩:=ry;exact rule i j t t' s _ _ ⟨.bl (g i j),H,I,rfl,q⟩
noncomputable def zI(i j:Int):Prop:=0<j/\j<1073741824
noncomputable def AI(i j:Int):Prop:=0<=j/\j<=1000000/\i.natAbs<2^64
noncomputable def Vx(i j:Int):Prop:=(-(2^64)<i/\i<2^64)\/(-(2^64)<j/\j<2^64)
theorem Vx.ok{i j:Int}(h:Vx i j):IntMulOk i j:=by
 rcases h with⟨h1,h2⟩ | ⟨h1,h2⟩
 · exact .of_left (intBits_le_64 h1 h2)
 · exact .of_right (intBits_le_64 h1 h2)
theorem j7:xq X (binaryOp .Add) (LL fun i j=>.int (i+j)):=LQ fun _ _ _ _ _ _ _ q=>add_int q
theorem V5:xq X (binaryOp .Sub) (LL fun i j=>.int (i-j)):=LQ fun _ _ _ _ _ _ _ q=>sub_int q
theorem o7:xq X (binaryOp .Mult) (rI Vx fun i j=>.int (i*j)):=OU fun _ _ _ _ _ _ _ hc q=>mul_int q hc.ok
theorem P0:xq X (binaryOp .FloorDiv) (rI zI fun i j=>.int (i/j)):=OU fun i j _ _ _ _ _ hc q=>by have h1:(0:Int)<j:=hc.1;have h2:j<1073741824:=hc.2;exact floordiv_int (by omega) (by rw[Int.fdiv_eq_ediv_of_nonneg i (by omega)];exact q) (.inl (PyProof.noPylong_small (by omega)))
theorem l7:xq X (binaryOp .Mod) (rI (fun _ j=>0<j) fun i j=>.int (i%j)):=OU fun i j _ _ _ _ _ hc q=>by have h1:(0:Int)<j:=hc;exact mod_int' (by omega) (by rw[Int.fmod_eq_emod_of_nonneg i (by omega)];exact q)
theorem t7:xq X (binaryOp .Pow) (rI AI fun i j=>.int (i^j.toNat)):=OU fun _ _ _ _ _ _ _ hc q=>pow_int_small hc.1 hc.2.1 hc.2.2 q
theorem J9{f:Value->Sem Value}{g:Int->Int}
 (rule:∀(i:Int)(t:Tok)(s:Shared)(Q:Value->Shared->Prop)(E:Value->Shared->Prop),Q (.int (g i) s.toks) { s with toks:=s.toks+1 }->wpAny (model X.prog X.w) X.A (f (.int i t)) Q E s) :
 bV X f (rU fun i=>.int (g i)):=by
 intro pins s σ H x v Q I rx h;obtain⟨i,rfl,q⟩:=h;obtain⟨t,rfl⟩:=rx;exact rule i t s _ _ ⟨.int (g i),H,I.tok _,⟨_,rfl⟩,q⟩
theorem w8:bV X (unaryOp .USub) (rU fun i=>.int (-i)):=J9 fun _ _ _ _ _ q=>neg_int q
end
noncomputable def KI:V->V->Bool
 | .non,.non=>true | .non,.int _=>true | .int _,.non=>true | .non,.bl _=>true | .bl _,.non=>true | .non,.str _=>true | .str _,.non=>true
 | .int _,.int _=>true | .bl _,.bl _=>true | .str _,.str _=>true | .wz _,.wz _=>true
 | .int _,.str _=>true | .str _,.int _=>true | .bl _,.str _=>true | .str _,.bl _=>true
 | _,_=>false
def t9:R2:=fun x y H Q=>KI x y=true/\Q (.bl (decide (x=y))) H
def u9:R2:=fun x y H Q=>KI x y=true/\Q (.bl (!decide (x=y))) H
theorem DS{i j:Int}:decide (V.int i=V.int j)=(i==j):=by rw[Bool.eq_iff_iff];simp
theorem bU{i j:Bool}:decide (V.bl i=V.bl j)=(i==j):=by rw[Bool.eq_iff_iff];simp
theorem kP{i j:Str}:decide (V.str i=V.str j)=(i==j):=by rw[Bool.eq_iff_iff];simp
theorem CS{i j:Array UInt8}:decide (V.wz i=V.wz j)=(i.toList==j.toList):=by rw[Bool.eq_iff_iff];cases i;cases j;simp
section
variable{X:Cx}{a b c:Expr}{ta tb tc:TE}{pos:Pos}
theorem DB{pins:List (Addr×Obj)}{σ:St}{H:Hp}{s:Shared}{Q:VK}{k k':Bool}(I:Inv X pins σ H s)(q:Q (.bl k) H)(e:k=k'):EP X pins σ Q (.bool k') s:=by subst e;exact⟨.bl k,H,I,rfl,q⟩
theorem O7:xq X (compareOp .Eq) t9:=by
 intro pins s σ H x y v u Q I rx ry h;obtain⟨hs,q⟩:=h;cases x with
 | non=>
  cases rx;cases y with
  | non=>cases ry;exact PySem.EqNone.eq_none_none (DB I q (by simp))
  | bl j=>cases ry;exact PySem.EqNone.eq_none_bool (DB I q (by simp))
  | int j=>obtain⟨t',rfl⟩:=ry;exact PySem.EqNone.eq_none_int (DB I q (by simp))
  | str j=>obtain⟨t',rfl⟩:=ry;exact PySem.EqNone.eq_none_str (DB I q (by simp))
  | _=>exact absurd (show false=true from hs) Gf
 | bl i=>
  cases rx;cases y with
  | non=>cases ry;exact PySem.EqNone.eq_bool_none (DB I q (by simp))
  | bl j=>cases ry;exact eq_bool (DB I q bU)
  | str j=>obtain⟨t',rfl⟩:=ry;exact PySem.EqMixed.eq_bool_str (DB I q (by simp))
  | _=>exact absurd (show false=true from hs) Gf
 | int i=>
  obtain⟨t,rfl⟩:=rx;cases y with
  | non=>cases ry;exact PySem.EqNone.eq_int_none (DB I q (by simp))
  | int j=>obtain⟨t',rfl⟩:=ry;exact eq_int (DB I q DS)
  | str j=>obtain⟨t',rfl⟩:=ry;exact PySem.EqMixed.eq_int_str (DB I q (by simp))
  | _=>exact absurd (show false=true from hs) Gf
 | str i=>
  obtain⟨t,rfl⟩:=rx;cases y with
  | non=>cases ry;exact PySem.EqNone.eq_str_none (DB I q (by simp))
  | bl j=>cases ry;exact PySem.EqMixed.eq_str_bool (DB I q (by simp))
  | int j=>obtain⟨t',rfl⟩:=ry;exact PySem.EqMixed.eq_str_int (DB I q (by simp))
  | str j=>obtain⟨t',rfl⟩:=ry;exact eq_str (DB I q kP)
  | _=>exact absurd (show false=true from hs) Gf
 | wz i=>
  obtain⟨t,rfl⟩:=rx;cases y with
  | wz j=>obtain⟨t',rfl⟩:=ry;exact PySem.W.eq_bytes (DB I q CS)
  | _=>exact absurd (show false=true from hs) Gf
 | _=>cases y<;>exact absurd (show false=true from hs) Gf
theorem S7:xq X (compareOp .NotEq) u9:=by
 intro pins s σ H x y v u Q I rx ry h;obtain⟨hs,q⟩:=h;cases x with
 | non=>
  cases rx;cases y with
  | non=>cases ry;exact PySem.EqNone.ne_none_none (DB I q (by simp))
  | bl j=>cases ry;exact PySem.EqNone.ne_none_bool (DB I q (by simp))
  | int j=>obtain⟨t',rfl⟩:=ry;exact PySem.EqNone.ne_none_int (DB I q (by simp))
  | str j=>obtain⟨t',rfl⟩:=ry;exact PySem.EqNone.ne_none_str (DB I q (by simp))
  | _=>exact absurd (show false=true from hs) Gf
 | bl i=>
  cases rx;cases y with
  | non=>cases ry;exact PySem.EqNone.ne_bool_none (DB I q (by simp))
  | bl j=>cases ry;exact ne_bool (DB I q (congrArg not bU))
  | str j=>obtain⟨t',rfl⟩:=ry;exact PySem.EqMixed.ne_bool_str (DB I q (by simp))
  | _=>exact absurd (show false=true from hs) Gf
 | int i=>
  obtain⟨t,rfl⟩:=rx;cases y with
  | non=>cases ry;exact PySem.EqNone.ne_int_none (DB I q (by simp))
  | int j=>obtain⟨t',rfl⟩:=ry;exact ne_int (DB I q (congrArg not DS))
  | str j=>obtain⟨t',rfl⟩:=ry;exact PySem.EqMixed.ne_int_str (DB I q (by simp))
  | _=>exact absurd (show false=true from hs) Gf
 | str i=>
  obtain⟨t,rfl⟩:=rx;cases y with
  | non=>cases ry;exact PySem.EqNone.ne_str_none (DB I q (by simp))
  | bl j=>cases ry;exact PySem.EqMixed.ne_str_bool (DB I q (by simp))
  | int j=>obtain⟨t',rfl⟩:=ry;exact PySem.EqMixed.ne_str_int (DB I q (by simp))
  | str j=>obtain⟨t',rfl⟩:=ry;exact ne_str (DB I q (congrArg not kP))
  | _=>exact absurd (show false=true from hs) Gf
 | wz i=>
  obtain⟨t,rfl⟩:=rx;cases y with
  | wz j=>obtain⟨t',rfl⟩:=ry;exact PySem.W.ne_bytes (DB I q (congrArg not CS))
  | _=>exact absurd (show false=true from hs) Gf
 | _=>cases y<;>exact absurd (show false=true from hs) Gf
theorem R7:xq X (compareOp .Lt) (LL fun i j=>.bl (decide (i<j))):=mM fun _ _ _ _ _ _ _ q=>lt_int q
theorem Q7:xq X (compareOp .LtE) (LL fun i j=>.bl (decide (i<=j))):=mM fun _ _ _ _ _ _ _ q=>le_int q
theorem P7:xq X (compareOp .GtE) (LL fun i j=>.bl (decide (j<=i))):=mM fun _ _ _ _ _ _ _ q=>ge_int q
theorem k7:xq X (compareOp .Is) (fun x y H Q=>y=.non/\Q (.bl (decide (x=.non))) H):=by
 intro pins s σ H x y v u Q I rx ry h;obtain⟨rfl,q⟩:=h;cases ry;refine is_none_gen (DB I q ?_);cases x<;>first
  | (cases rx;rfl)
  | (obtain⟨t,rfl⟩:=rx;rfl)
theorem G4:xq X (compareOp .IsNot) (fun x y H Q=>y=.non/\Q (.bl (!decide (x=.non))) H):=by
 intro pins s σ H x y v u Q I rx ry h;obtain⟨rfl,q⟩:=h;cases ry;refine isnot_none_gen (DB I q ?_);cases x<;>first
  | (cases rx;rfl)
  | (obtain⟨t,rfl⟩:=rx;rfl)
theorem hU(b:Expr){op:CmpOp}(h:op≠.In:=by decide)(h2:op≠.NotIn:=by decide):behindInMarks op b=false:=by
 have e1:(op==CmpOp.In)=false:=by cases op<;>first | rfl | exact absurd rfl h
 have e2:(op==CmpOp.NotIn)=false:=by cases op<;>first | rfl | exact absurd rfl h2
 cases b<;>simp[behindInMarks,e1,e2]
theorem K4{op:CmpOp}{r:R2}(ho:xq X (compareOp op) r)(ha:PE X a ta)(hb:PE X b tb)(hm:behindInMarks op b=false):PE X (.Compare a [op] [b] pos) (SU r ta tb):=by intro pins s σ H Q I h;exact wpAny_Compare1 (aM ha hb I h fun v u s2 x y H2 I2 rx ry q=>ho pins s2 σ H2 x y v u Q I2 rx ry q) hm
noncomputable def D7(t:TE):TT:=fun σ H Q=>t σ H fun x H'=>∃k,x=.bl k/\Q k H'
theorem l5{op:CmpOp}{r:R2}(ho:xq X (compareOp op) r)(ha:PE X a ta)(hb:PE X b tb)(hm:behindInMarks op b=false):PT X (.Compare a [op] [b] pos) (D7 (SU r ta tb)):=by
 intro pins s σ H Q I h;refine wpAny_isTrue_Compare1 (WA (ha pins s σ H _ I h) fun v s1 ⟨x,H1,I1,r1,q1⟩=>WA (hb pins s1 σ H1 _ I1 q1) fun u s2 ⟨y,H2,I2,r2,q2⟩=>
  WA (ho pins s2 σ H2 x y v u _ I2 r1 r2 q2) fun c s3 ⟨z,H3,I3,r3,k,e,q3⟩=>?_) hm
 subst e;cases r3;exact wpAny_truthy_bool ⟨H3,I3,q3⟩
noncomputable def eU(r r':R2)(ta tb tc:TE):TE:=fun σ H Q=>ta σ H fun x H1=>tb σ H1 fun y H2=>r x y H2 fun z H3=>∃k,z=.bl k/\
 (if k=true then tc σ H3 fun w' H4=>r' y w' H4 Q else Q (.bl false) H3)
theorem nZ{op op':CmpOp}{r r':R2}(ho:xq X (compareOp op) r)(ho':xq X (compareOp op') r')(ha:PE X a ta)(hb:PE X b tb)(hc:PE X c tc)
 (hm:lastMarks [op,op'] [b,c]=false:=by with_unfolding_all rfl):PE X (.Compare a [op,op'] [b,c] pos) (eU r r' ta tb tc):=by
 intro pins s σ H Q I h;refine Compare_chain (WA (ha pins s σ H _ I h) fun v s1 ⟨x,H1,I1,r1,q1⟩=>chain_link (WA (hb pins s1 σ H1 _ I1 q1) fun u s2 ⟨y,H2,I2,r2,q2⟩=>
  WA (ho pins s2 σ H2 x y v u _ I2 r1 r2 q2) fun d s3 ⟨z,H3,I3,r3,k,e,q3⟩=>?_)) hm
 subst e;cases r3;refine wpAny_truthy_bool ?_;cases k with
 | false=>exact ite_ff ⟨.bl false,H3,I3,rfl,q3⟩
 | true=>exact ite_tt (chain_last (WA (hc pins s3 σ H3 _ I3 q3) fun w' s4 ⟨z',H4,I4,r4,q4⟩=>ho' pins s4 σ H4 y z' u w' Q I4 r2 r4 q4))
theorem bH:(sizeLine:Nat)<2^63:=by rw[sizeLine_eq];decide
theorem kI{x:V}{us:List Value}(r:Vals [x] us):∃u,us=[u]/\RelV x u:=by
 cases r with
 | cons r1 r2=>cases r2;exact⟨_,rfl,r1⟩
theorem V8{x y:V}{us:List Value}(r:Vals [x,y] us):∃u w',us=[u,w']/\RelV x u/\RelV y w':=by
 cases r with
 | cons r1 r2=>
  cases r2 with
  | cons r3 r4=>cases r4;exact⟨_,_,rfl,r1,r3⟩
end
structure Xx(h:Heap)(x dx C:Addr)(mA:Str->Option Value):Prop where
 obj:h.get? x=some (PySem.W.instObj C dx)
 ns:h.Ns1 dx mA
 ne:dx≠x
theorem JX{h:Heap}{dx:Addr}{mA:Str->Option Value}(n:h.Ns1 dx mA):∃od,h.get? dx=some od/\∀name,PySem.W.lookIn name od=some (mA name):=by
 obtain⟨o,es,ep,ho,hd,hk,_,hm⟩:=n;refine⟨o,ho,fun name=>?_⟩;have e:=hm name;unfold nsFind findBy at e;rw[<- Array.find?_toList]at e;unfold PySem.W.lookIn;rw[hd];dsimp only;split
 · rename_i y q;rw[q]at e;exact congrArg some e
 · rename_i q;rw[q]at e;have a:es.toList.any (·.refKey)=false:=by rw[any_eq_false];intro y hy;obtain⟨z,t,hkey⟩:=hk y (Array.mem_toList_iff.mp hy);simp[DictEntry.refKey,hkey]
   have a':¬es.toList.any (·.refKey)=true:=by rw[a];exact Gf
   rw[if_neg a'];exact congrArg some e
theorem Xx.look{h:Heap}{x dx C:Addr}{mA:Str->Option Value}(I:Xx h x dx C mA):∃od,PySem.W.InstAt h x (PySem.W.instObj C dx) C (some od)/\∀name,PySem.W.lookIn name od=some (mA name):=
 let ⟨od,ho,hl⟩:=JX I.ns
 ⟨od,⟨I.obj,rfl,rfl,ho⟩,hl⟩
section
variable{prog:Program}{w:World}{A:Around}{E:Value->Shared->Prop}{s:Shared}{K:Frag}{x dx C f:Addr}{mA:Str->Option Value}{name:Str}{v:Value}
theorem F1{expr:Bool}{Q:Value->Shared->Prop}(X:K.In s.heap)(I:Xx s.heap x dx C mA)(hg:PySem.W.plainGet K C name=true)(hh:PySem.W.hasDictIn K C=true)
 (ha:findIn K (.ref C) name=some none) (hv:mA name=some v) (hv':PySem.W.handedIn v=true) (h:Q v { s with toks:=s.toks+1 }) :
 wpAny (model prog w) A (getAttr (.ref x) name expr) Q E s:=by
 obtain⟨od,J,hl⟩:=I.look;exact PySem.W.get_value X J (PySem.W.plainGet_of hg).1 (PySem.W.findObj_own hh ha rfl (by rw[hl,hv])) hv' h
theorem KZ{pl:Sem Bool}{Q:Value×List Value->Shared->Prop}(X:K.In s.heap)(I:Xx s.heap x dx C mA)(hg:PySem.W.plainGet K C name=true)
 (hf:findIn K (.ref C) name=some (some (.ref f))) (ht:PySem.W.isFn K (.ref f)=true) (hv:mA name=none) (h:Q (.ref f,[.ref x]) s) :
 wpAny (model prog w) A (getMethod (.ref x) name pl) Q E s:=by
 obtain⟨od,J,hl⟩:=I.look;exact PySem.W.method_fn X J (PySem.W.plainGet_of hg).1 (PySem.W.plainGet_of hg).2 hf (beq_iff_eq.mp ht) (by show(PySem.W.lookIn name od).map (·.isSome)=some false;rw[hl,hv];rfl) h
theorem K3{ns:List Str}{Q:Unit->Shared->Prop}(X:K.In s.heap)(I:Xx s.heap x dx C mA)
 (hs:findIn K (.ref C) "__setattr__" =some (some (.builtin "object.__setattr__"))) (hp:PySem.W.plainOver K C=true) (ht:PySem.W.takerIn K C name=some none) (hh:PySem.W.hasDictIn K C=true)
 (hw:PySem.Within mA ns) (hsz:ns.length<=sizeLine)
 (h:∀h',Xx h' x dx C (fun y=>if y=name then some v else mA y)->Heap.SameBut dx s.heap h'->Q () { s with heap:=h',toks:=s.toks+2 }) :
 wpAny (model prog w) A (setAttr (.ref x) name v) Q E s:=by
 obtain⟨od,J,hl⟩:=I.look;refine PySem.W.set_plain X J hs (PySem.W.osa_open (s:={ s with toks:=s.toks+1 }) (r:=none) X J hp ht fun b=>?_);obtain⟨cd,hc,hd'⟩:=PySem.W.any_some hh;have hx:s.heap.get? x=some ⟨.ref C,some dx,.plain,#[]⟩:=I.obj;refine wpAny_bind (wpAny_pure (wpAny_bind (wpAny_bind (wpAny_loadPart hx (wpAny_bind (PySem.W.Looks.here (s:={ s with toks:=s.toks+1 }) (PySem.W.looks_clsIn X hc) ?_))))));rw[hd'];refine wpAny_pure (a:=some dx) (wpAny_bind (wpAny_pure (wpAny_bind ?_)));refine wpAny_nsSet1 (s:={ s with toks:=s.toks+1 }) I.ns fun h' hn2 hs2=>?_
 obtain⟨oD,esD,epD,hoD,hdD,hcD⟩:=hn2.count (PySem.Within.cons name v hw);refine wpAny_bind (wpAny_lookBehind hoD (by rw[hdD];exact pastItsLine_dict (Nat.le_trans hcD (by rw[Xr];omega))) ?_);exact wpAny_pure (h _ ⟨(hs2.2 _ (Ne.symm I.ne)).trans I.obj,hn2,I.ne⟩ hs2)
theorem SZ{R:Result->Shared->Prop}{vs:List Value}{kw:List (Str×Value)}(X:K.In s.heap)(hm:PySem.W.makesIn K C=true)
 (hi:findIn K (.ref C) "__init__" =some (some (.ref f))) (hf:PySem.W.typeIn K (.ref f)=some (.type "function"))
 (h:codeAny (model prog w) (A.under (.builtin "type.__call__" ⟨.ref C::vs,kw⟩)) (.call (.ref f) ⟨.ref (s.heap.objs.size+1)::vs,kw⟩) (PySem.W.InitBack (s.heap.objs.size+1) R)
  { s with heap:=(s.heap.push PySem.W.emptyDict).push (PySem.W.instObj C s.heap.objs.size) }) :
 codeAny (model prog w) A (.call (.ref C) ⟨vs,kw⟩) R s:=by
 obtain⟨hh,g,d,t,os⟩:=s;exact PySem.W.make_core (PySem.W.makes_of X hm) (PySem.W.looks_findIn X hi) (fun self=>PySem.W.bind_fn X self hf) (.inl rfl) h
end
noncomputable def zC(f:Str)(v:V):List (Str×V)->List (Str×V)
 | []=>[(f,v)]
 | (g,x)::r=>if g=f then(g,v)::r else(g,x)::zC f v r
theorem tR(f g:Str)(v:V):∀fs:List (Str×V),(zC f v fs).lookup g=if g=f then some v else fs.lookup g
 | []=>by
  show List.lookup g [(f,v)]=_;by_cases h:g=f
  · have hb:(g==f)=true:=beq_iff_eq.mpr h;simp only[List.lookup,hb,if_pos h]
  · have hb:(g==f)=false:=beq_eq_false_iff_ne.mpr h;simp only[List.lookup,hb,if_neg h]
 | (k,x)::r=>by
  have ih:=tR f g v r;rw[show zC f v ((k,x)::r)=(if k=f then(k,v)::r else(k,x)::zC f v r)from rfl];by_cases hk:k=f
  · rw[if_pos hk];by_cases h:g=k
    · have hb:(g==k)=true:=beq_iff_eq.mpr h;simp only[List.lookup,hb,if_pos (h.trans hk)]
    · have hb:(g==k)=false:=beq_eq_false_iff_ne.mpr h;simp only[List.lookup,hb,if_neg (fun e:g=f=>h (e.trans hk.symm))]
  · rw[if_neg hk];by_cases h:g=k
    · have hb:(g==k)=true:=beq_iff_eq.mpr h;simp only[List.lookup,hb,if_neg (fun e:g=f=>hk (h.symm.trans e))]
    · have hb:(g==k)=false:=beq_eq_false_iff_ne.mpr h;simp only[List.lookup,hb];exact ih
theorem rO(f:Str)(v:V):∀fs:List (Str×V),f∈(zC f v fs).map (·.1)/\∀g,g∈fs.map (·.1)->g∈(zC f v fs).map (·.1)
 | []=>⟨by simp[zC],fun g h=>by simp at h⟩
 | (k,x)::r=>by
  obtain⟨i1,i2⟩:=rO f v r;rw[show zC f v ((k,x)::r)=(if k=f then(k,v)::r else(k,x)::zC f v r)from rfl];by_cases hk:k=f
  · rw[if_pos hk];subst hk;exact⟨by simp,fun g h=>by simpa using h⟩
  · rw[if_neg hk];refine⟨?_,fun g h=>?_⟩
    · rw[Zr];exact mem_cons_of_mem _ i1
    · rw[Zr]at h ⊢;rcases mem_cons.mp h with e | e
      · exact mem_cons.mpr (.inl e)
      · exact mem_cons_of_mem _ (i2 g e)
theorem rR(f:Str)(v:V):∀fs:List (Str×V),(zC f v fs).length<=fs.length+1
 | []=>by simp[zC]
 | (k,x)::r=>by
  have ih:=rR f v r;rw[show zC f v ((k,x)::r)=(if k=f then(k,v)::r else(k,x)::zC f v r)from rfl];by_cases hk:k=f
  · rw[if_pos hk,Xr,Xr];omega
  · rw[if_neg hk,Xr,Xr];omega
theorem zq.some_of{v:V}{o:Option Value}(r:zq (some v) o):∃u,o=some u/\RelV v u:=by
 cases o with
 | none=>exact(show False from r).elim
 | some u=>exact⟨u,rfl,r⟩
theorem zq.none_of{o:Option Value}(r:zq none o):o=none:=by
 cases o with
 | none=>rfl
 | some u=>exact(show False from r).elim
theorem XX{v:V}{u:Value}(r:RelV v u):PySem.W.handedIn u=true:=by
 cases v with
 | non=>cases (show u=Value.none from r);rfl
 | bl b=>cases (show u=Value.bool b from r);rfl
 | int i=>obtain⟨t,e⟩:=(show ∃t,u=Value.int i t from r);cases e;rfl
 | str x=>obtain⟨t,e⟩:=(show ∃t,u=Value.str x t from r);cases e;rfl
 | wz b=>obtain⟨t,e⟩:=(show ∃t,u=Value.bytes b t from r);cases e;rfl
 | flt b=>obtain⟨t,e⟩:=(show ∃t,u=Value.float b t from r);cases e;rfl
 | ref a=>cases (show u=Value.ref a from r);rfl
 | ty n=>cases (show u=Value.type n from r);rfl
section
variable{P:Program}{w:World}{H H':Hp}{h h':Heap}{a C dx:Addr}{fs fs':List (Str×V)}
theorem ZO(hok:Oq P w H h)(e:H a=some (.ins C dx fs)):∃mA,Xx h a dx C mA/\(∀f,zq (fs.lookup f) (mA f))/\PySem.Within mA (fs.map (·.1))/\fs.length<=1000/\H dx=some (.own a):=by obtain⟨d,z,ne,ob,mA,n,r,q⟩:=(show Dj P w H h a (.ins C dx fs)from hok a _ e);exact⟨mA,⟨ob,n,ne⟩,r,q,z,d⟩
end
structure Cls(K:Frag)(C:Addr):Prop where
 pg:PySem.W.plainGet K C Str.empty=true
 hd:PySem.W.hasDictIn K C=true
 po:PySem.W.plainOver K C=true
 sa:findIn K (.ref C) "__setattr__" =some (some (.builtin "object.__setattr__"))
theorem Cls.get{K:Frag}{C:Addr}(c:Cls K C)(f:Str):PySem.W.plainGet K C f=true:=c.pg
noncomputable def yq(K:Frag)(C:Addr)(f:Str):Prop:=findIn K (.ref C) f=some none
theorem yq.taker{K:Frag}{C:Addr}{f:Str}(n:yq K C f):PySem.W.takerIn K C f=some none:=by unfold PySem.W.takerIn;rw[show findIn K (.ref C) f=some none from n];rfl
structure pF(K:Frag)(C:Addr)(m:Str)(f:Addr):Prop where
 at_:findIn K (.ref C) m=some (some (.ref f))
 fn:PySem.W.isFn K (.ref f)=true
 kp:keepIn K (.ref f)=true
section
variable{X:Cx}{pins:List (Addr×Obj)}{σ:St}{H:Hp}{s:Shared}{a C dx:Addr}{fs:List (Str×V)}{f:Str}{v:V}{A:Around}{E:Value->Shared->Prop}
theorem wX{b:Bool}{Q:Value->Shared->Prop}(I:Inv X pins σ H s)(e:H a=some (.ins C dx fs))(c:Cls X.K C)(n:yq X.K C f)(l:fs.lookup f=some v)
 (h:∀u s',Inv X pins σ H s'->RelV v u->Q u s'):wpAny (model X.prog X.w) A (getAttr (.ref a) f b) Q E s:=by
 obtain⟨mA,O,r,_,_,_⟩:=ZO I.hok e;obtain⟨u,hu,ru⟩:=zq.some_of (v:=v) (o:=mA f) (by rw[<- l];exact r f);exact F1 I.Aq O (c.get f) c.hd n hu (XX ru) (h u _ (I.tok _) ru)
theorem BK{m:Str}{g:Addr}{pl:Sem Bool}{Q:Value×List Value->Shared->Prop}(I:Inv X pins σ H s)(e:H a=some (.ins C dx fs))(c:Cls X.K C)(k:pF X.K C m g)(l:fs.lookup m=none)
 (h:Q (.ref g,[.ref a]) s):wpAny (model X.prog X.w) A (getMethod (.ref a) m pl) Q E s:=by
 obtain⟨mA,O,r,_,_,_⟩:=ZO I.hok e;have hn:mA m=none:=zq.none_of (by rw[<- l];exact r m);exact KZ I.Aq O (c.get m) k.at_ k.fn hn h
theorem mX{y:V}{u:Value}{Q:Unit->Shared->Prop}(I:Inv X pins σ H s)(e:H a=some (.ins C dx fs))(c:Cls X.K C)(n:yq X.K C f)(hl:fs.length<1000)(ry:RelV y u)
 (h:∀s',Inv X pins σ (VA H a (.ins C dx (zC f y fs))) s'->Q () s'):wpAny (model X.prog X.w) A (setAttr (.ref a) f u) Q E s:=by
 obtain⟨mA,O,r,wi,_,ho⟩:=ZO I.hok e;have hz:(fs.map (·.1)).length<=sizeLine:=by rw[length_map,sizeLine_eq];omega
 refine K3 I.Aq O c.sa c.po n.taker c.hd wi hz fun h' O' sb=>h _ ?_
 have hd:∃o,h'.get? dx=some o:=let ⟨o,_,_,e',_⟩:=O'.ns;⟨o,e'⟩
 refine I.write (x:=a) (e:=dx) (by rw[e];exact True.intro) (.inr ho) (fun b q hb z=>(sb.2 b hb).trans z) hd ?_;refine⟨by rw[UA O.ne];exact ho,?_,O.ne,O'.obj,_,O'.ns,fun g=>?_,fun g hg=>?_⟩
 · have:=rR f y fs;omega
 · show zq ((zC f y fs).lookup g) (if g=f then some u else mA g);rw[tR];by_cases q:g=f
   · rw[if_pos q,if_pos q];exact ry
   · rw[if_neg q,if_neg q];exact r g
 · by_cases q:g=f
   · rw[q];exact(rO f y fs).1
   · refine(rO f y fs).2 g (wi g fun z=>hg ?_);show(if g=f then some u else mA g)=none;rw[if_neg q];exact z
theorem Inv.made(I:Inv X pins σ H s):Inv X pins σ (VA (VA H s.heap.objs.size (.own (s.heap.objs.size+1))) (s.heap.objs.size+1) (.ins C s.heap.objs.size []))
 { s with heap:=(s.heap.push PySem.W.emptyDict).push (PySem.W.instObj C s.heap.objs.size) }:=by
 have e1:(s.heap.push PySem.W.emptyDict).get? s.heap.objs.size=some PySem.W.emptyDict:=Heap.get?_push_size s.heap rfl;have e2:((s.heap.push PySem.W.emptyDict).push (PySem.W.instObj C s.heap.objs.size)).get? (s.heap.objs.size+1)=some (PySem.W.instObj C s.heap.objs.size):=by have:=Heap.get?_push_size (s.heap.push PySem.W.emptyDict) (o:=PySem.W.instObj C s.heap.objs.size) rfl;rwa[Heap.size_push]at this
 have e3:(s.heap.push PySem.W.emptyDict).Ns s.heap.objs.size (fun _=>none):=⟨PySem.W.emptyDict,#[],_,e1,rfl,(fun e he=>absurd he (by simp)),fun _=>rfl⟩;have I1:=I.laid (a:=s.heap.objs.size) (o:=.own (s.heap.objs.size+1)) (h':=s.heap.push PySem.W.emptyDict) (t':=s.toks) (fun b u q=>Heap.get?_push_of_some _ q) (Hf _) ⟨_,e1⟩;refine I1.laid (a:=s.heap.objs.size+1) (o:=.ins C s.heap.objs.size []) (t':=s.toks) (fun b u q=>Heap.get?_push_of_some _ q) (Nat.le_of_eq (Heap.size_push _ _)) ?_;have ne:s.heap.objs.size≠s.heap.objs.size+1:=Nat.ne_of_lt (Nat.lt_succ_self _);refine⟨by rw[UA ne,KB],Nat.zero_le _,ne,e2,fun _=>none,(Heap.Ns1.of_empty e3).at fun o q=>Heap.get?_push_of_some _ q,fun _=>True.intro,fun y hy=>absurd rfl hy⟩
theorem YS{prog:Program}{w:World}{env:Env}{e:Expr}{f:Str}{pos:Pos}{s:Shared}{Q:Value->Shared->Prop}(hb:attributeBase e f env (eval e env)=eval e env)
 (h:wpAny (model prog w) A (eval e env) (fun o s₁=>wpAny (model prog w) A (getAttr o f true) Q E s₁) E s):wpAny (model prog w) A (eval (.Attribute e f pos) env) Q E s:=
 Attribute_any_ h (by rw[arm_eval_Attribute,hb])
end
def DV(K:Frag)(ta:TE)(f:Str):TE:=fun σ H Q=>ta σ H fun x H1=>∃a C dx fs v,x=.ref a/\H1 a=some (.ins C dx fs)/\Cls K C/\yq K C f/\fs.lookup f=some v/\Q v H1
def wV(K:Frag)(ta tv:TE)(f:Str):TS:=fun D σ H=>tv σ H fun y H1=>ta σ H1 fun x H2=>∃a C dx fs,x=.ref a/\H2 a=some (.ins C dx fs)/\Cls K C/\yq K C f/\fs.length<1000/\
 D.nx σ (VA H2 a (.ins C dx (zC f y fs)))
section
variable{X:Cx}{o e value:Expr}{f:Str}{pos pos' tpos:Pos}{ta tv:TE}
theorem Y5(he:PE X e ta)(hb:attributeBase e f X.env (eval e X.env)=eval e X.env):PE X (.Attribute e f pos) (DV X.K ta f):=by intro pins s σ H Q I h;refine YS hb (WA (he pins s σ H _ I h) fun u s1 zz=>?_);obtain⟨x,H1,I1,rx,a,C,dx,fs,v,ex,ea,c,n,l,q⟩:=zz;subst ex;obtain rfl:u=Value.ref a:=rx;exact wX I1 ea c n l fun u' s2 I2 ru=>⟨v,H1,I2,ru,q⟩
theorem A6(ha:PE X o ta)(hv:PE X value tv)(hs:swapsWith value (some (.Attribute o f pos')) pos.line X.env=pure false):PS X (.Assign [.Attribute o f pos'] value pos) (wV X.K ta tv f):=by intro pins s σ H D I h;refine plainObj_wpAny_Assign_Attribute (WA (hv pins s σ H _ I h) fun u s1 ⟨y,H1,I1,ry,q⟩=>WA (ha pins s1 σ H1 _ I1 q) fun ov s2 zz=>?_) hs;obtain⟨x,H2,I2,rx,a,C,dx,fs,ex,ea,c,n,l,q2⟩:=zz;subst ex;obtain rfl:ov=Value.ref a:=rx;exact mX I2 ea c n l ry fun s3 I3=>⟨σ,_,I3,q2⟩
theorem M9{pl:Sem Bool}{m:Str}{apos:Pos}{args:List Expr}{pins:List (Addr×Obj)}{s:Shared}{σ:St}{H:Hp}{Q:Value->Shared->Prop}{te:TE}(he:PE X e te)(I:Inv X pins σ H s)
 (h:te σ H fun x H1=>∃a C dx fs g,x=.ref a/\H1 a=some (.ins C dx fs)/\Cls X.K C/\pF X.K C m g/\fs.lookup m=none/\
  ∀s1,Inv X pins σ H1 s1->wpAny (model X.prog X.w) X.A (callWith pos (.ref g) [.ref a] (backTo pos (starEach args X.env)) (backToKw pos (keywordEach [] X.env))) Q X.xe s1)
 (ht:eval (.Call (.Attribute e m apos) args [] pos) X.env=(do
  let ov <- eval e X.env
  standAt apos.atName
  let (f,first) <- holding [ov] (getMethod ov m pl)
  callWith pos f first (backTo pos (starEach args X.env)) (backToKw pos (keywordEach [] X.env)))) :
 wpAny (model X.prog X.w) X.A (eval (.Call (.Attribute e m apos) args [] pos) X.env) Q X.xe s:=by
 refine PySem.W.methodCall_KW (pl:=pl) (WA (he pins s σ H _ I h) fun u s1 zz=>?_) ht;obtain⟨x,H1,I1,rx,a,C,dx,fs,g,ex,ea,c,k,l,q⟩:=zz;subst ex;obtain rfl:u=Value.ref a:=rx;exact BK I1 ea c k l (q s1 I1)
end
section
variable{X:Cx}{pins:List (Addr×Obj)}{σ:St}{H:Hp}{s:Shared}{A:Around}{E:Value->Shared->Prop}{Q:Value->Shared->Prop}{c:Value}{b:Bool}
end
structure Hj(k:Nat)(A:Around):Prop where
 hd:A.handled=none
 dp:A.depth+3*k+5<recursionLimit
 un:A.units+16*k+200<cLine
theorem Hj.mono{j k:Nat}{A:Around}(r:Hj k A)(h:j<=k):Hj j A:=⟨r.hd,by have:=r.dp;omega,by have:=r.un;omega⟩
theorem Hj.deeper{k:Nat}{A:Around}(r:Hj (k+1) A)(env:Env):Hj k (A.deeper env):=
 ⟨r.hd,by have:=r.dp;show A.depth+1+3*k+5<_;omega,by have:=r.un;show A.units+3+16*k+200<_;omega⟩
theorem yX {A:Around} {C:Addr} {us:List Value} {kw:List (Str×Value)}:(A.under (.builtin "type.__call__" ⟨.ref C::us,kw⟩)).depth=A.depth+1:=by first | rfl | simp[Around.under,Code.weight,Code.isCreation,Code.isGuard,Code.isCaller,Code.frames,Code.isFrame,guardIds]
theorem zX {A:Around} {C:Addr} {us:List Value} {kw:List (Str×Value)}:(A.under (.builtin "type.__call__" ⟨.ref C::us,kw⟩)).units=A.units+1:=by first | rfl | simp[Around.under,Code.cUnits,Code.frames,Code.isFrame]
theorem Hj.make {k:Nat} {A:Around} (r:Hj (k+1) A) (C:Addr) (us:List Value) (kw:List (Str×Value)):Hj k (A.under (.builtin "type.__call__" ⟨.ref C::us,kw⟩)):=
 ⟨r.hd,by have:=r.dp;rw[yX];omega,by have:=r.un;rw[zX];omega⟩
theorem Hj.depth{k:Nat}{A:Around}(r:Hj k A):A.depth<recursionLimit:=by have:=r.dp;omega
theorem Hj.units{k:Nat}{A:Around}(r:Hj k A):A.units+64<cLine:=by have:=r.un;omega
noncomputable def RQ:TA:=fun _ H Q=>Q [] H
noncomputable def v8(ta:TE)(tr:TA):TA:=fun σ H Q=>ta σ H fun x H1=>tr σ H1 fun xs H2=>Q (x::xs) H2
section
variable{X:Cx}{e:Expr}{es:List Expr}{te:TE}{t:TA}{pos:Pos}
theorem tD:PA X [] RQ:=fun _ _ _ _ H Q I h=>Calls.spliced_nil ⟨[],H,I,.nil,h⟩
theorem FC(ha:PE X e te)(hr:PA X es t)(hs:starEach (e::es) X.env=(false,eval e X.env)::starEach es X.env:=by rfl):PA X (e::es) (v8 te t):=by intro pos pins s σ H Q I h;rw[hs];show wpAny _ _ (spliced ((false,eval e X.env)::backTo pos (starEach es X.env))) _ _ s;refine Calls.spliced_cons (WA (ha pins s σ H _ I h) fun u s1 zz=>?_);obtain⟨x,H1,I1,r1,q1⟩:=zz;exact WA (hr pos pins s1 σ H1 _ I1 q1) fun us s2 ⟨xs,H2,I2,r2,q2⟩=>⟨x::xs,H2,I2,.cons r1 r2,q2⟩
def PV(t:TA):TE:=fun σ H Q=>t σ H fun xs H1=>xs.length<=sizeLine/\∀p,H1 p=none->Q (.ref p) (VA H1 p (.tup xs))
def HV(t:TA):TE:=fun σ H Q=>t σ H fun xs H1=>xs.length<=sizeLine/\∀p,H1 p=none->Q (.ref p) (VA H1 p (.lst xs))
theorem m6{x1}(h:PA X es t):PE X (.Tuple es x1 pos) (PV t):=by intro pins s σ H Q I hq;refine wpAny_Tuple_spliced (WA (h pos pins s σ H _ I hq) fun us s1 ⟨xs,H1,I1,r,z,q⟩=>⟨by rw[<- r.length];exact z,?_⟩);have hf:H1 s1.heap.objs.size=none:=I1.hok.fresh (Hf _);refine⟨.ref s1.heap.objs.size,VA H1 s1.heap.objs.size (.tup xs),I1.laid (t':=s1.toks) (fun b u e=>Heap.get?_push_of_some _ e) (Hf _) ?_,rfl,q _ hf⟩;exact⟨z,us,r,⟨_,Heap.get?_push_size _ rfl,rfl,_,rfl⟩⟩
theorem jU(h:PA X es t):PE X (.List es pos) (HV t):=by intro pins s σ H Q I hq;refine wpAny_List_spliced (WA (h pos pins s σ H _ I hq) fun us s1 ⟨xs,H1,I1,r,z,q⟩=>⟨by rw[<- r.length];exact z,?_⟩);have hf:H1 s1.heap.objs.size=none:=I1.hok.fresh (Hf _);refine⟨.ref s1.heap.objs.size,VA H1 s1.heap.objs.size (.lst xs),I1.laid (t':=s1.toks) (fun b u e=>Heap.get?_push_of_some _ e) (Hf _) ?_,rfl,q _ hf⟩;exact⟨z,us,0,r,Heap.get?_push_size _ rfl⟩
end
abbrev Sp:=List V->Hp->VK->XK->Prop
abbrev qG:=List Env->Hp->Shared->XK->Value->Shared->Prop
structure Wx(P:Program)(w:World)(K:Frag)(mg:Str->Option Value)(base:Heap)(A:Around)(outer:List Env)(s:Shared)(H:Hp):Prop where
 frames:A.frames=some outer
 mod:Mod K mg base
 bs:∀b o,base.get? b=some o->s.heap.get? b=some o/\H b=none
 Rz:base.objs.size<=s.heap.objs.size
 bx:s.heap.FunFrames base outer
 Gv:∀b∈rG outer,H b=none
 hok:Oq P w H s.heap
 bare:AllBare s.gens
def CE(outer:List Env)(P:Program)(w:World)(H:Hp)(s:Shared)(Q:VK)(u:Value)(s':Shared):Prop:=
 ∃v H',s'.os=s.os/\AllBare s'.gens/\Un (rG outer) [] H H' s.heap s'.heap/\Oq P w H' s'.heap/\RelV v u/\Q v H'
def CR(CX:qG)(outer:List Env)(P:Program)(w:World)(H:Hp)(s:Shared)(Q:VK)(E:XK)(r:Result)(s':Shared):Prop:=
 match r with
 | .ok (.ret u)=>CE outer P w H s Q u s'
 | .ok _=>False
 | .error e=>CX outer H s E e s'
structure Oj(P:Program)(w:World)(K:Frag)(mg:Str->Option Value)(base:Heap)(CX:qG)(k:Nat)(f:Addr)(fd:FuncData)(ps:List Str)(sp:Sp):Prop where
 len:∀vs H Q E,sp vs H Q E->vs.length=ps.length
 run:∀(A:Around)(outer:List Env)(s:Shared)(H:Hp)(args:Args)(us:List Value)(vs:List V)(Q:VK)(E:XK),Hj k A->Wx P w K mg base A outer s H->BindsTo s fd args (ps.zip us)->Vals vs us->sp vs H Q E->
  codeAny (model P w) A (.call (.ref f) args) (CR CX outer P w H s Q E) s
theorem Oj.mono{P:Program}{w:World}{K:Frag}{mg:Str->Option Value}{base:Heap}{CX:qG}{j k:Nat}{f:Addr}{fd:FuncData}{ps:List Str}{sp:Sp}(F:Oj P w K mg base CX j f fd ps sp)(h:j<=k) :
 Oj P w K mg base CX k f fd ps sp:=⟨F.len,fun A outer s H args us vs Q E hr=>F.run A outer s H args us vs Q E (hr.mono h)⟩
theorem Wx.make{P:Program}{w:World}{K:Frag}{mg:Str->Option Value}{base:Heap}{A:Around}{outer:List Env}{s:Shared}{H:Hp}(e:Wx P w K mg base A outer s H)(C:Addr)(us:List Value)(kw:List (Str×Value)) :
 Wx P w K mg base (A.under (.builtin "type.__call__" ⟨.ref C::us,kw⟩)) outer s H:=⟨by first | exact e.frames | (simpa[Around.under,Code.envs,Code.isFrame,pushEnvs]using e.frames),e.mod,e.bs,e.Rz,e.bx,e.Gv,e.hok,e.bare⟩
section
variable{X:Cx}{pins:List (Addr×Obj)}{σ:St}{H:Hp}{s s':Shared}
theorem Inv.env0(I:Inv X pins σ H s):Wx X.prog X.w X.K X.mg X.base X.A X.stack s H:=
 ⟨I.ok.frames,I.ok.mod,I.bs,Nat.le_trans I.ok.Rz I.sz,I.stack,I.Nx,I.hok,I.bare⟩
theorem Inv.after{Q:VK}{u:Value}(I:Inv X pins σ H s)(h:CE X.stack X.prog X.w H s Q u s'):EP X pins σ Q u s':=by obtain⟨v,H',os,bare,un,hok,r,q⟩:=h;obtain⟨hh,g,d,t,os'⟩:=s';obtain rfl:os'=s.os:=os;exact⟨v,H',I.call (h':=hh) (g':=g) (d':=d) (t':=t) (ch:=[]) un hok bare (fun b z=>absurd z (by simp)),r,q⟩
end
noncomputable def t8(sp:Sp)(Pq:List V)(E:XK)(t:TA):TE:=fun σ H Q=>t σ H fun vs H1=>sp (vs++Pq) H1 Q E
def XJ(C:Addr)(m:Str)(sp:Sp)(Pq:List V)(E:XK)(ta:TE)(t:TA):TE:=fun σ H Q=>ta σ H fun x H1=>∃a dx fs,x=.ref a/\H1 a=some (.ins C dx fs)/\fs.lookup m=none/\
 t σ H1 fun vs H2=>sp (x::(vs++Pq)) H2 Q E
def z7(C:Addr)(sp:Sp)(Pq:List V)(E:XK)(t:TA):TE:=fun σ H Q=>t σ H fun vs H1=>∀x dx,H1 x=none->H1 dx=none->dx≠x->
 sp (.ref x::(vs++Pq)) (VA (VA H1 dx (.own x)) x (.ins C dx [])) (fun v H2=>v=.non/\Q (.ref x) H2) E
noncomputable def Binds(K:Frag)(fd:FuncData)(ps:List Str)(ds:List Value):Prop:=
 ∀(s:Shared)(us:List Value),K.In s.heap->(us++ds).length=ps.length->BindsTo s fd ⟨us,[]⟩ (ps.zip (us++ds))
theorem Binds.all{K:Frag}{fd:FuncData}{ps:List Str}(h:∀us:List Value,us.length=ps.length->bindArgs fd ⟨us,[]⟩=pure (ps.zip us)):Binds K fd ps []:=fun s us _ hl=>by rw[Kf]at hl ⊢;exact .of_eq (h us hl)
def ZE(CX:qG)(X:Cx)(E:XK):Prop:=∀(pins:List (Addr×Obj))(σ:St)(H:Hp)(s:Shared)(e:Value)(s':Shared),Inv X pins σ H s->CX X.stack H s E e s'->X.xe e s'
section
variable{X:Cx}{CX:qG}{k:Nat}{f C:Addr}{fd:FuncData}{ps:List Str}{sp:Sp}{Pq:List V}{ds:List Value}{E:XK}{x m:Str}{p pos apos:Pos}{e o:Expr}{es:List Expr}{ta:TE}{t:TA}
theorem PP{pins:List (Addr×Obj)}{σ:St}{H:Hp}{s:Shared}{Q:VK}{us:List Value}{vs:List V}(F:Oj X.prog X.w X.K X.mg X.base CX k f fd ps sp)(hr:Hj k X.A)(hb:Binds X.K fd ps ds)(hd:Vals Pq ds)(hx:ZE CX X E)
 (I:Inv X pins σ H s) (r:Vals vs us) (h:sp (vs++Pq) H Q E):wpAny (model X.prog X.w) X.A (call (.ref f) us) (EP X pins σ Q) X.xe s:=by
 have r2:Vals (vs++Pq) (us++ds):=r.append hd;have hl:(us++ds).length=ps.length:=by rw[<- r2.length];exact F.len _ _ _ _ h
 refine wpAny_call (codeAny_mono (F.run X.A X.stack s H ⟨us,[]⟩ (us++ds) (vs++Pq) Q E hr I.env0 (hb s us I.Aq hl) r2 h) fun r s' hq=>?_);cases r with
 | error e=>exact hx pins σ H s e s' I hq
 | ok fl=>
  cases fl with
  | ret u=>exact I.after hq
  | next=>exact False.elim hq
  | brk=>exact False.elim hq
  | cont=>exact False.elim hq
theorem J4(F:Oj X.prog X.w X.K X.mg X.base CX k f fd ps sp)(hr:Hj k X.A)(hg:Gl X x)(hm:X.mg x=some (.ref f))(hk:keepIn X.K (.ref f)=true)(hb:Binds X.K fd ps ds)(hd:Vals Pq ds)(hx:ZE CX X E)
 (ha:PA X (e::es) t) (hdb:(x==("__debug__" :Str))=false:=by decide) (he:starEach (e::es) X.env=(false,eval e X.env)::starEach es X.env:=by rfl) (hpl:(backTo pos (starEach es X.env)).any (·.1)=false:=by rfl) :
 PE X (.Call (.Name x p) (e::es) [] pos) (t8 sp Pq E t):=by
 intro pins s σ H Q I h;refine wpAny_Call_Name_kw (dG I hg hm ?_ hdb);refine PySem.W.callWith_K (h₀:=X.base) I.ok.mod.Iv hk (WA (ha pos pins s σ H _ I h) fun us s1 ⟨vs,H1,I1,r,q⟩=>⟨I1.Aq,?_⟩) he hpl;exact PP F hr hb hd hx I1 r q
theorem P4{pl:Sem Bool}(he:PE X o ta)(c:Cls X.K C)(hm:pF X.K C m f)(F:Oj X.prog X.w X.K X.mg X.base CX k f fd ps sp)(hr:Hj k X.A)(hb:Binds X.K fd ps ds)(hd:Vals Pq ds)(hx:ZE CX X E)(ha:PA X (e::es) t)
 (hst:starEach (e::es) X.env=(false,eval e X.env)::starEach es X.env:=by rfl) (hpl:(backTo pos (starEach es X.env)).any (·.1)=false:=by rfl)
 (ht:eval (.Call (.Attribute o m apos) (e::es) [] pos) X.env=(do
  let ov <- eval o X.env
  standAt apos.atName
  let (f,first) <- holding [ov] (getMethod ov m pl)
  callWith pos f first (backTo pos (starEach (e::es) X.env)) (backToKw pos (keywordEach [] X.env))):=by rfl) :
 PE X (.Call (.Attribute o m apos) (e::es) [] pos) (XJ C m sp Pq E ta t):=by
 intro pins s σ H Q I h;refine PySem.W.methodCall_KW (pl:=pl) (WA (he pins s σ H _ I h) fun u s1 zz=>?_) ht;obtain⟨x,H1,I1,rx,a,dx,fs,ex,ea,l,q⟩:=zz;subst ex;obtain rfl:u=Value.ref a:=rx;refine BK I1 ea c hm l ?_;refine PySem.W.callWith_K (first:=[.ref a]) (h₀:=X.base) I.ok.mod.Iv hm.kp (WA (ha pos pins s1 σ H1 _ I1 q) fun us s2 ⟨vs,H2,I2,r,q2⟩=>⟨I2.Aq,?_⟩) hst hpl;exact PP (us:=.ref a::us) (vs:=.ref a::vs) F hr hb hd hx I2 (.cons rfl r) q2
theorem tZ{pl:Sem Bool}(he:PE X o ta)(c:Cls X.K C)(hm:pF X.K C m f)(F:Oj X.prog X.w X.K X.mg X.base CX k f fd ps sp)(hr:Hj k X.A)(hb:Binds X.K fd ps ds)(hd:Vals Pq ds)(hx:ZE CX X E)
 (ht:eval (.Call (.Attribute o m apos) [] [] pos) X.env=(do
  let ov <- eval o X.env
  standAt apos.atName
  let (f,first) <- holding [ov] (getMethod ov m pl)
  callWith pos f first (backTo pos (starEach [] X.env)) (backToKw pos (keywordEach [] X.env))):=by rfl) :
 PE X (.Call (.Attribute o m apos) [] [] pos) (XJ C m sp Pq E ta RQ):=by
 intro pins s σ H Q I h;refine PySem.W.methodCall_KW (pl:=pl) (WA (he pins s σ H _ I h) fun u s1 zz=>?_) ht;obtain⟨x,H1,I1,rx,a,dx,fs,ex,ea,l,q⟩:=zz;subst ex;obtain rfl:u=Value.ref a:=rx;refine BK I1 ea c hm l ?_;exact PySem.W.callWith_K0 (first:=[.ref a]) I1.Aq hm.kp (PP (us:=[.ref a]) (vs:=[.ref a]) F hr hb hd hx I1 (.cons rfl .nil) q)
structure Mk(K:Frag)(C f:Addr):Prop where
 makes:PySem.W.makesIn K C=true
 init:findIn K (.ref C) "__init__" =some (some (.ref f))
 fn:PySem.W.isFn K (.ref f)=true
 kp:keepIn K (.ref C)=true
theorem zZ{pins:List (Addr×Obj)}{σ:St}{H:Hp}{s:Shared}{Q:VK}{us:List Value}{vs:List V}(M:Mk X.K C f)(F:Oj X.prog X.w X.K X.mg X.base CX k f fd ps sp)(hr:Hj (k+1) X.A)(hb:Binds X.K fd ps ds)(hd:Vals Pq ds)
 (hx:ZE CX X E) (I:Inv X pins σ H s) (r:Vals vs us)
 (h:∀x dx,H x=none->H dx=none->dx≠x->sp (.ref x::(vs++Pq)) (VA (VA H dx (.own x)) x (.ins C dx [])) (fun v H2=>v=.non/\Q (.ref x) H2) E) :
 wpAny (model X.prog X.w) X.A (call (.ref C) us) (EP X pins σ Q) X.xe s:=by
 have hq:=h (s.heap.objs.size+1) s.heap.objs.size (I.hok.fresh (Nat.le_succ _)) (I.hok.fresh (Hf _)) (Nat.ne_of_lt (Nat.lt_succ_self _));have I2:=Inv.made (C:=C) I;have r2:Vals (V.ref (s.heap.objs.size+1)::(vs++Pq)) (Value.ref (s.heap.objs.size+1)::(us++ds)):=.cons rfl (r.append hd);have hl:(Value.ref (s.heap.objs.size+1)::us++ds).length=ps.length:=by have e:=r2.length;rw[F.len _ _ _ _ hq]at e;exact e.symm
 refine wpAny_call (SZ (f:=f) I.Aq M.makes M.init (beq_iff_eq.mp M.fn) (codeAny_mono (F.run _ X.stack _ _ ⟨Value.ref (s.heap.objs.size+1)::us,[]⟩ (Value.ref (s.heap.objs.size+1)::(us++ds)) _ _ E (hr.make C us [])
  (I2.env0.make C us []) (hb _ (Value.ref (s.heap.objs.size+1)::us) I2.Aq hl) r2 hq) fun r s' hq'=>?_))
 cases r with
 | error e=>exact hx pins σ _ _ e s' I2 hq'
 | ok fl=>
  cases fl with
  | ret u=>obtain⟨v,H',I3,rv,ev,q3⟩:=I2.after hq';subst ev;exact⟨rv,⟨V.ref (s.heap.objs.size+1),H',I3,rfl,q3⟩⟩
  | next=>exact False.elim hq'
  | brk=>exact False.elim hq'
  | cont=>exact False.elim hq'
theorem O4(M:Mk X.K C f)(F:Oj X.prog X.w X.K X.mg X.base CX k f fd ps sp)(hr:Hj (k+1) X.A)(hg:Gl X x)(hm:X.mg x=some (.ref C))(hb:Binds X.K fd ps ds)(hd:Vals Pq ds)(hx:ZE CX X E)
 (ha:PA X (e::es) t) (hdb:(x==("__debug__" :Str))=false:=by decide) (he:starEach (e::es) X.env=(false,eval e X.env)::starEach es X.env:=by rfl) (hpl:(backTo pos (starEach es X.env)).any (·.1)=false:=by rfl) :
 PE X (.Call (.Name x p) (e::es) [] pos) (z7 C sp Pq E t):=by
 intro pins s σ H Q I h;refine wpAny_Call_Name_kw (dG I hg hm ?_ hdb);refine PySem.W.callWith_K (h₀:=X.base) I.ok.mod.Iv M.kp (WA (ha pos pins s σ H _ I h) fun us s1 ⟨vs,H1,I1,r,q⟩=>⟨I1.Aq,?_⟩) he hpl;exact zZ M F hr hb hd hx I1 r q
end
section
variable{X:Cx}{CX:qG}{k:Nat}{f C:Addr}{fd:FuncData}{ps ks:List Str}{sp:Sp}{E:XK}{x m:Str}{p pos apos kpos:Pos}{e o:Expr}{es:List Expr}{kws:List Keyword}{te ta:TE}{t tk:TA}{nm:Option Str}
variable{g:List Value->List Value->List Value}{gV:List V->List V->List V}
end
structure YA(N P:List Str)(sc:Scope):Prop where
 kind:sc.kind=.function
 co:sc.isCoroutine=false
 gen:sc.isGenerator=false
 nd:N.Nodup
 pre:N.take P.length=P
 par:∀x∈P,sc.names.lookup x=some .local\/sc.names.lookup x=some .cell
 Wv:∀y∈sc.names,y.2≠.free
theorem MR{kindOf:Str->Option NameKind}{x:Str}:∀{binds:List (Str×Value)}{m:Str->Option Value},(∀v,(x,v)∉binds)->bindL kindOf binds m x=m x
 | [],_,_=>rfl
 | (n,v)::r,m,h=>by
  unfold bindL;rw[MR fun w hw=>h w (mem_cons_of_mem _ hw)];split
  · have:x≠n:=by rintro rfl;exact h v mem_cons_self
    simp[this]
  · rfl
theorem KR{kindOf:Str->Option NameKind}{x:Str}:∀{binds:List (Str×Value)}{m:Str->Option Value},(∀v,(x,v)∉binds)->bindC kindOf binds m x=m x
 | [],_,_=>rfl
 | (n,v)::r,m,h=>by
  unfold bindC;rw[KR fun w hw=>h w (mem_cons_of_mem _ hw)];split
  · rfl
  · have:x≠n:=by rintro rfl;exact h v mem_cons_self
    simp[this]
theorem LR{kindOf:Str->Option NameKind}{x:Str}{v:Value}:∀{P:List Str}{vs:List Value}{i:Nat}{m:Str->Option Value},P.Nodup->P[i]?=some x->vs[i]?=some v->kindOf x=some .local->
 bindL kindOf (P.zip vs) m x=some v
 | [],_,_,_,_,h,_,_=>by simp at h
 | _::_,[],_,_,_,_,h,_=>by simp at h
 | p::P,w::vs,0,m,nd,h1,h2,hk=>by simp at h1 h2;subst h1;subst h2;show bindL kindOf ((p,w)::P.zip vs) m p=_;unfold bindL;rw[MR fun v hv=>(nodup_cons.mp nd).1 (of_mem_zip hv).1,if_pos hk];simp
 | p::P,w::vs,i+1,m,nd,h1,h2,hk=>by show bindL kindOf ((p,w)::P.zip vs) m x=_;unfold bindL;exact LR (i:=i) (nodup_cons.mp nd).2 (by simpa using h1) (by simpa using h2) hk
theorem JR{kindOf:Str->Option NameKind}{x:Str}{v:Value}:∀{P:List Str}{vs:List Value}{i:Nat}{m:Str->Option Value},P.Nodup->P[i]?=some x->vs[i]?=some v->kindOf x≠some .local->
 bindC kindOf (P.zip vs) m x=some v
 | [],_,_,_,_,h,_,_=>by simp at h
 | _::_,[],_,_,_,_,h,_=>by simp at h
 | p::P,w::vs,0,m,nd,h1,h2,hk=>by simp at h1 h2;subst h1;subst h2;show bindC kindOf ((p,w)::P.zip vs) m p=_;unfold bindC;rw[KR fun v hv=>(nodup_cons.mp nd).1 (of_mem_zip hv).1,if_neg hk];simp
 | p::P,w::vs,i+1,m,nd,h1,h2,hk=>by show bindC kindOf ((p,w)::P.zip vs) m x=_;unfold bindC;exact JR (i:=i) (nodup_cons.mp nd).2 (by simpa using h1) (by simpa using h2) hk
noncomputable def HE(N:List Str)(vs:List V):St:=vs.map some++List.replicate (N.length-vs.length) none
noncomputable def mC(CX:qG)(P:Program)(w:World)(K:Frag)(mg:Str->Option Value)(base:Heap)(N:List Str)(qual:Str)(scope:Scope)(f:Addr)(cd:Value)(A:Around)(outer:List Env)(s:Shared)(H:Hp)(E:XK):Cx where
 prog:=P
 w:=w
 K:=K
 mg:=mg
 base:=base
 A:=A.deeper (envOfC qual scope s.heap.objs.size f cd)
 N:=N
 s₀:=s
 H₀:=H
 env:=envOfC qual scope s.heap.objs.size f cd
 outer:=outer
 stack:=envOfC qual scope s.heap.objs.size f cd::outer
 ex:=[]
 calm:=true
 fn:=fun _=>true
 pn:=[]
 xe:=fun e s'=>wpAny (model P w) (A.deeper (envOfC qual scope s.heap.objs.size f cd)) (leaving (envOfC qual scope s.heap.objs.size f cd) e) (fun _ s''=>CX outer H s E e s'') (fun e' s''=>CX outer H s E e' s'') s'
theorem uS{sc:Scope}{n:Nat}{x:Str}(h:sc.names.lookup x=some .cell):∃c,(cellsFrom n sc.names []).lookup x=some c:=by have q:=PySem.W.cellsFrom_some sc.names n [] (.inl h);exact Option.isSome_iff_exists.mp q
theorem bY{CX:qG}{P:Program}{w:World}{K:Frag}{mg:Str->Option Value}{base:Heap}{N ps:List Str}{qual:Str}{scope:Scope}{f:Addr}{cd:Value}{A:Around}{outer:List Env}{s s1:Shared}{H:Hp}{E:XK}{us:List Value}{vs:List V}
 (S:YA N ps scope) (hd:A.handled=none) (e0:Wx P w K mg base A outer s H) (hl:vs.length=ps.length) (r:Vals vs us)
 (x:InCallC s s.heap.objs.size (bindL (envOfC qual scope s.heap.objs.size f cd).kindOf (ps.zip us) fun _=>none) (cellsFrom (s.heap.objs.size+1) scope.names []) (bindC (envOfC qual scope s.heap.objs.size f cd).kindOf (ps.zip us) fun _=>none) s1) :
 Inv (mC CX P w K mg base N qual scope f cd A outer s H E) [] (HE N vs) H s1:=by
 have hpl:ps.length<=N.length:=by have:=congrArg List.length S.pre;rw[length_take]at this;omega
 obtain⟨h1,tk,rfl,hk⟩:=x.done;have Mw:∀b:Addr,b∉(mC CX P w K mg base N qual scope f cd A outer s H E).ex:=fun b z=>absurd (show b∈([]:List Addr)from z) (by simp)
 refine⟨⟨e0.mod,S.kind,rfl,rfl,Hf _,fun y z c h1 h2=>?_,fun y hy=>?_,fun y c _ h=>?_,fun _=>hd,Around.frames_deeper e0.frames,.inr ⟨rfl,rfl⟩,fun b z=>absurd z (Mw b),e0.bs,e0.Rz,fun b _ _=>Mw b,fun b z=>absurd z (Mw b),e0.bx,e0.Gv⟩,
  rfl,e0.bare,Un.kept hk,⟨_,x.toInCall.ns,fun i y v h1 h2 h3=>?_⟩,fun y c h=>⟨_,x.cell y c h⟩,e0.hok.fresh (Hf _),fun y c h=>?_,fun p hp=>absurd (show p∈([]:List (Addr×Obj))from hp) (by simp),e0.hok.kept hk,?_⟩
 · exact name_of_addr x.apart (PySem.mem_of_lookup h1) (PySem.mem_of_lookup h2)
 · have hy:scope.names.lookup y=some .cell\/scope.names.lookup y=some .free:=hy;rcases hy with hy | hy
   · exact uS hy
   · exact absurd rfl (S.Wv _ (PySem.mem_of_lookup hy))
 · exact Nat.le_of_lt (x.above y c (PySem.mem_of_lookup h))
 · have hi:i<vs.length:=by
    unfold HE at h2;by_cases hi:i<vs.length
    · exact hi
    · rw[Jf (by simpa using hi)]at h2;rw[getElem?_replicate]at h2;split at h2<;>cases h2
   have ha:vs[i]?=some v:=by
    unfold HE at h2;rw[Ef (by simpa using hi),getElem?_map]at h2;cases e:vs[i]? with
    | none=>rw[e]at h2;cases h2
    | some a=>rw[e]at h2;cases h2;rfl
   obtain⟨u,hu,rv⟩:=r.get ha;have hp:ps[i]?=some y:=by rw[<- S.pre,getElem?_take_of_lt (by omega)];exact h1
   have Hh:ps.Nodup:=by rw[<- S.pre];exact S.nd.sublist (take_sublist _ _)
   refine⟨u,rv,?_⟩;rcases S.par y (mem_of_getElem? hp)with k | k
   · exact .inl ⟨k,LR Hh hp hu k⟩
   · obtain⟨c,e⟩:=uS (n:=s.heap.objs.size+1) k;refine .inr ⟨.inl k,c,e,?_⟩;have q:=x.cell y c e;rw[JR Hh hp hu (by show scope.names.lookup y≠_;rw[k];decide)]at q;exact q
 · exact e0.hok.fresh (Nat.le_of_lt (x.above y c (PySem.mem_of_lookup h)))
 · unfold HE;show _=N.length;rw[length_append,length_map,length_replicate];omega
theorem fQ{CX:qG}{P:Program}{w:World}{K:Frag}{mg:Str->Option Value}{base:Heap}{k:Nat}{f:Addr}{name qual:Str}{params:Arguments}{body:List Stmt}{scope:Scope}{dV kV doc pm cdv ct oc:Value}{an od:Option Addr}
 {osl:Array (Option Value)} {N ps:List Str} {sp:Sp} (lk:K.lookup f=some ⟨oc,od,.func (fnOf name qual params body scope dV kV doc pm an cdv ct),osl⟩) (hcd:PySem.W.codeIn K cdv qual=true) (S:YA N ps scope)
 (len:∀vs H Q E,sp vs H Q E->vs.length=ps.length)
 (hbody:∀(A:Around)(outer:List Env)(s:Shared)(H:Hp)(vs:List V)(Q:VK)(E:XK),Hj k (A.deeper (envOfC qual scope s.heap.objs.size f cdv))->sp vs H Q E->
  ∃t,Ax (mC CX P w K mg base N qual scope f cdv A outer s H E) body t/\t { nx:=fun _ H'=>Q .non H',rt:=Q } (HE N vs) H) :
 Oj P w K mg base CX (k+1) f (fnOf name qual params body scope dV kV doc pm an cdv ct) ps sp:=by
 refine⟨len,fun A outer s H args us vs Q E hr e0 hb r hsp=>?_⟩;have hl:=len _ _ _ _ hsp;have KX:K.In s.heap:=e0.mod.Iv.keeps fun b o e=>(e0.bs b o e).1
 have lim:s.heap.NoLimit:=e0.mod.nolimit.keeps fun b o e=>(e0.bs b o e).1
 have hkind:∀y∈ps.zip us,scope.names.lookup y.1=some .local\/(scope.names.lookup y.1=some .cell/\((cellsFrom (s.heap.objs.size+1) scope.names []).lookup y.1).isSome=true):=fun zz hy=>by
  obtain⟨n,v⟩:=zz;rcases S.par n (of_mem_zip hy).1 with q | q
  · exact .inl q
  · exact .inr ⟨q,PySem.W.cellsFrom_some _ _ _ (.inl q)⟩
 refine codeAny_call_function hr.depth (KX _ _ lk) rfl S.co S.gen rfl (PySem.W.codeRec_of KX hcd) (hb _ _ _ _ ?_);refine wpAny_newFunctionEnv_cells S.kind hkind fun env he s1 x=>?_
 subst he;refine⟨lim.keeps x.toInCall.keep,codeAny_func ?_⟩;obtain⟨t,ht,hq⟩:=hbody A outer s H vs Q E (hr.deeper _) hsp;have I:Inv (mC CX P w K mg base N qual scope f cdv A outer s H E) [] (HE N vs) H s1:=bY S hr.hd e0 hl r x;refine wpAny_mono (ht [] s1 (HE N vs) H _ I hq) (fun fl s' hs=>?_) fun e s' hs=>hs
 have fin:∀{σ':St}{H':Hp}{v:V}{u:Value},Inv (mC CX P w K mg base N qual scope f cdv A outer s H E) [] σ' H' s'->RelV v u->Q v H'->CE outer P w H s Q u s':=
  fun {σ' H' v u} J rv q=>⟨v,H',J.os,J.bare,J.base,J.hok,rv,q⟩
 cases fl with
 | ret u=>obtain⟨v,σ',H',J,rv,q⟩:=hs;exact fin J rv q
 | next=>obtain⟨σ',H',J,q⟩:=hs;exact fin (v:=V.non) (u:=Value.none) J rfl q
 | brk=>obtain⟨_,_,_,q⟩:=hs;exact False.elim q
 | cont=>obtain⟨_,_,_,q⟩:=hs;exact False.elim q
section
variable{X:Cx}{x:Str}{p pos:Pos}{e:Expr}{es:List Expr}{t:TA}{id T:String}{r:List V->Hp->VK->Prop}
noncomputable def j9(r:List V->Hp->VK->Prop)(t:TA):TE:=fun σ H Q=>t σ H fun vs H1=>r vs H1 Q
theorem BO (hc:Uj X (.builtin id) r) (hg:Gl X x) (hm:X.mg x=none) (hv:bootBuiltins x=some (.builtin id)) (ha:PA X (e::es) t) (hn:x ≠ "__name__" :=by decide) (hdb:(x==("__debug__" :Str))=false:=by decide)
 (he:starEach (e::es) X.env=(false,eval e X.env)::starEach es X.env:=by rfl) (hpl:(backTo pos (starEach es X.env)).any (·.1)=false:=by rfl):PE X (.Call (.Name x p) (e::es) [] pos) (j9 r t):=by
 intro pins s σ H Q I h;refine wpAny_Call_Name_kw (aH I hg hm hv ?_ hn hdb);exact PyProof.Rows.callWith_builtin1 (WA (ha pos pins s σ H _ I h) fun us s1 ⟨vs,H1,I1,r1,q1⟩=>hc pins s1 σ H1 vs us Q I1 r1 q1) he hpl
theorem bZ (hc:Uj X (.type T) r) (hg:Gl X x) (hm:X.mg x=none) (hv:bootBuiltins x=some (.type T)) (ha:PA X (e::es) t) (hn:x ≠ "__name__" :=by decide) (hdb:(x==("__debug__" :Str))=false:=by decide)
 (he:starEach (e::es) X.env=(false,eval e X.env)::starEach es X.env:=by rfl) (hpl:(backTo pos (starEach es X.env)).any (·.1)=false:=by rfl):PE X (.Call (.Name x p) (e::es) [] pos) (j9 r t):=by
 intro pins s σ H Q I h;refine wpAny_Call_Name_kw (aH I hg hm hv ?_ hn hdb);exact PyProof.Rows.callWith_type1 (WA (ha pos pins s σ H _ I h) fun us s1 ⟨vs,H1,I1,r1,q1⟩=>hc pins s1 σ H1 vs us Q I1 r1 q1) he hpl
end
end L2
namespace HT
section
open PySem.SeqAt
open PySem.AutoSeq1 (wpAny_loadPart')
open PySem.MeetsSeq PySem.MeetsSeq2 PySem.MeetsSeq3
end
section
variable{prog:Program}{w:World}{A:Around}{E:Value->Shared->Prop}{s:Shared}
noncomputable def Fx(n d:Nat):Option Int->Nat
 | none=>d
 | some v=>if v<0 then(v+(n:Int)).toNat else min v.toNat n
theorem qz(n d k:Nat):Fx n d (some (k:Int))=min k n:=by show(if(k:Int)<0 then((k:Int)+(n:Int)).toNat else min (k:Int).toNat n)=min k n;rw[if_neg (by omega),Int.toNat_natCast]
end
end HT
namespace L2
abbrev TO:=St->Hp->(Option Int->Hp->Prop)->Prop
def PO(X:Cx)(e:Option Expr)(t:TO):Prop:=
 ∀(pins:List (Addr×Obj))(s:Shared)(σ:St)(H:Hp)(Q:Option Int->Hp->Prop),Inv X pins σ H s->t σ H Q->
  wpAny (model X.prog X.w) X.A (evalPart e X.env) (fun u s'=>∃o H',Inv X pins σ H' s'/\IsPart u o/\Q o H') X.xe s
noncomputable def C7(t:TE):TO:=fun σ H Q=>t σ H fun x H1=>∃i,x=.int i/\Q (some i) H1
section
variable{X:Cx}{e:Expr}{te:TE}{lo hi:Option Expr}{tl th:TO}{pos p2:Pos}
theorem X4(h:PE X e te):PO X (some e) (C7 te):=by
 intro pins s σ H Q I hw;rw[evalPart_some];refine WA (h pins s σ H _ I hw) fun u s1 zz=>?_
 obtain⟨x,H1,I1,r1,q1⟩:=zz;obtain⟨i,rfl,q⟩:=q1;obtain⟨t,rfl⟩:=r1;exact⟨some i,H1,I1,.int i t,q⟩
def Z8(X:Cx)(r:V->Option Int->Option Int->Hp->VK->Prop):Prop:=
 ∀(pins:List (Addr×Obj))(s:Shared)(σ:St)(H:Hp)(x:V)(v vl vu:Value)(lo hi:Option Int)(sl:Addr)(Q:VK),Inv X pins σ H s->RelV x v->s.heap.IsSliceOf sl vl vu .none->IsPart vl lo->IsPart vu hi->r x lo hi H Q->
  ∃T id,typeLookup (.type T) "__getitem__" =pure (some (.builtin id))/\s.TypeIs v T/\wpAny (model X.prog X.w) X.A (getItem v (.ref sl)) (EP X pins σ Q) X.xe s
noncomputable def F9(r:V->Option Int->Option Int->Hp->VK->Prop)(te:TE)(tl th:TO):TE:=fun σ H Q=>te σ H fun x H1=>tl σ H1 fun l H2=>th σ H2 fun u H3=>r x l u H3 Q
theorem vZ{r:V->Option Int->Option Int->Hp->VK->Prop}(hr:Z8 X r)(he:PE X e te)(hl:PO X lo tl)(hu:PO X hi th):PE X (.Subscript e (.Slice lo hi none p2) pos) (F9 r te tl th):=by
 intro pins s σ H Q I h;refine Subscript_ (WA (he pins s σ H _ I h) fun v s1 zz=>?_);obtain⟨x,H1,I1,r1,q1⟩:=zz;refine wpAny_Slice (WA (hl pins s1 σ H1 _ I1 q1) fun vl s2 ⟨l,H2,I2,pl,q2⟩=>WA (hu pins s2 σ H2 _ I2 q2) fun vu s3 zz=>?_);obtain⟨u,H3,I3,pu,q3⟩:=zz;rw[evalPart_none];refine wpAny_pure ?_;have I4:Inv X pins σ H3 { s3 with heap:=s3.heap.push { cls:=.type "slice",data:=.fields #[vl,vu,.none] } }:=I3.kept (t':=s3.toks) fun b ob q=>Heap.get?_push_of_some _ q
 obtain⟨T,id,hT,ht,hg⟩:=hr pins { s3 with heap:=s3.heap.push { cls:=.type "slice",data:=.fields #[vl,vu,.none] } } σ H3 x v vl vu l u s3.heap.objs.size Q I4 r1 (Heap.IsSliceOf.new ..) pl pu q3;show wpAny (model X.prog X.w) X.A (subscriptTail e (.Slice lo hi none p2) v (.ref s3.heap.objs.size)) (EP X pins σ Q) X.xe { s3 with heap:=s3.heap.push { cls:=.type "slice",data:=.fields #[vl,vu,.none] } };exact tail_any (ops:=[.ref s3.heap.objs.size,v]) ht hT hg (by with_unfolding_all rfl)
def uH(xs:List V)(lo hi:Option Int):List V:=(xs.drop (HT.Fx xs.length 0 lo)).take (HT.Fx xs.length xs.length hi-HT.Fx xs.length 0 lo)
theorem VW(xs:List V)(lo hi:Option Int):(uH xs lo hi).length<=xs.length:=by unfold uH;rw[length_take,length_drop];omega
end
noncomputable def zH(n:Nat)(i:Int):Option Nat:=if 0<=i then(if i<n then some i.toNat else none)else if -(n:Int)<=i then some (i+n).toNat else none
def Rq{α:Type}(xs:List α)(i:Int):Option α:=(zH xs.length i).bind fun j=>xs[j]?
theorem sT{n:Nat}{i:Int}{j:Nat}(h:zH n i=some j):seqIndex? i n=some j/\j<n/\-(n:Int)<=i/\i<n:=by
 unfold zH at h;by_cases h0:0<=i
 · rw[if_pos h0]at h;by_cases h1:i<n
   · rw[if_pos h1]at h;have e:i.toNat=j:=Option.some.inj h;exact⟨by rw[seqIndex_of h0 h1,e],by omega,by omega,h1⟩
   · rw[if_neg h1]at h;cases h
 · rw[if_neg h0]at h;by_cases h1:-(n:Int)<=i
   · rw[if_pos h1]at h;have e:(i+n).toNat=j:=Option.some.inj h;exact⟨by rw[seqIndex_neg (by omega) h1,e],by omega,h1,by omega⟩
   · rw[if_neg h1]at h;cases h
theorem iP{α:Type}{xs:List α}{i:Int}{v:α}(h:Rq xs i=some v):∃j,seqIndex? i xs.length=some j/\xs[j]?=some v/\j<xs.length/\-(xs.length:Int)<=i/\i<xs.length:=by
 unfold Rq at h;cases e:zH xs.length i with
 | none=>rw[e]at h;cases h
 | some j=>rw[e]at h;obtain⟨h1,h2,h3,h4⟩:=sT e;exact⟨j,h1,h,h2,h3,h4⟩
theorem UH{α:Type}{xs:List α}{j:Nat}{v:α}(h:xs[j]?=some v):Rq xs (j:Int)=some v:=by
 have hj:j<xs.length:=(Df h).1;have e:zH xs.length (j:Int)=some j:=by unfold zH;rw[if_pos (by omega),if_pos (by omega)];simp
 unfold Rq;rw[e];exact h
noncomputable def VS(b:Expr):Prop:=∀o i,subscripted b false o i=operate [o,i] (getItem o i)
def Qz(X:Cx)(r:R2):Prop:=
 ∀(value slice:Expr)(pins:List (Addr×Obj))(s:Shared)(σ:St)(H:Hp)(x y:V)(v u:Value)(Q:VK),Inv X pins σ H s->RelV x v->RelV y u->r x y H Q->
  subscripted slice false v u=operate [v,u] (getItem v u)->wpAny (model X.prog X.w) X.A (subscriptTail value slice v u) (EP X pins σ Q) X.xe s
def IU(X:Cx)(id:String)(r:V->List V->Hp->VK->Prop):Prop:=
 ∀(pins:List (Addr×Obj))(s:Shared)(σ:St)(H:Hp)(x:V)(xs:List V)(v:Value)(us:List Value)(Q:VK),Inv X pins σ H s->RelV x v->Vals xs us->r x xs H Q->
  wpAny (model X.prog X.w) X.A (call (.builtin id) (v::us)) (EP X pins σ Q) X.xe s
section
variable{X:Cx}{a b:Expr}{ta tb:TE}{pos:Pos}
theorem Qz.or{r r':R2}(h:Qz X r)(h':Qz X r'):Qz X (fun x y H Q=>r x y H Q\/r' x y H Q):=by
 intro value slice pins s σ H x y v u Q I rx ry q hs;rcases q with q | q
 · exact h value slice pins s σ H x y v u Q I rx ry q hs
 · exact h' value slice pins s σ H x y v u Q I rx ry q hs
theorem U7{r:R2}(hr:Qz X r)(ha:PE X a ta)(hb:PE X b tb)(hs:VS b):PE X (.Subscript a b pos) (SU r ta tb):=by intro pins s σ H Q I h;exact Subscript_ (aM ha hb I h fun v u s2 x y H2 I2 rx ry q=>hr a b pins s2 σ H2 x y v u Q I2 rx ry q (hs _ _))
def NQ(K:Frag):R2:=fun x y H Q=>∃p xs i v,x=.ref p/\y=.int i/\Wj K H p xs/\Rq xs i=some v/\Q v H
def PQ(K:Frag):R2:=fun x y H Q=>∃p xs i v,x=.ref p/\y=.int i/\xI K H p xs/\Rq xs i=some v/\Q v H
def OQ:R2:=fun x y H Q=>∃z i c,x=.str z/\y=.int i/\z.length<=sizeLine/\Rq z.cps.toList i=some c/\Q (.str ⟨#[c]⟩) H
theorem Vz:Qz X (NQ X.K):=by
 intro value slice pins s σ H x y v u Q I rx ry h hs;obtain⟨p,xs,i,z,rfl,rfl,hq,he,q⟩:=h;cases rx;obtain⟨t,rfl⟩:=ry;obtain⟨its,r,pl,hz⟩:=I.list hq;obtain⟨j,h1,h2,h3,h4,h5⟩:=iP he;obtain⟨w,ew,Mx⟩:=r.get h2;have hl:=r.length;have hn:=bH;have fin:EP X pins σ Q w s:=⟨z,H,I,Mx,q⟩;by_cases h0:0<=i
 · have hj:i.toNat=j:=by rw[seqIndex_of h0 h5]at h1;exact Option.some.inj h1
   exact item_listR pl.isList h0 (by omega) (by rw[hj];simpa using ew) fin hs
 · have hj:(i+(its.toArray.size:Int)).toNat=j:=by rw[seqIndex_neg (by omega) h4]at h1;rw[size_toArray,<- hl];exact Option.some.inj h1
   exact subscriptTail_builtinR (x:=w) pl.isList.typeIs slot_list_getitem.lookup
    (wpAny_getItem_list_neg (Q:=fun r s'=>r=w/\EP X pins σ Q r s') pl.isList (by omega) (by rw[size_toArray]<;>omega) (by omega) (by rw[hj];simpa using ew) ⟨rfl,fin⟩) hs
theorem Sv:Qz X (PQ X.K):=by
 intro value slice pins s σ H x y v u Q I rx ry h hs;obtain⟨p,xs,i,z,rfl,rfl,hq,he,q⟩:=h;cases rx;obtain⟨t,rfl⟩:=ry;obtain⟨its,r,pl,hz⟩:=I.tuple hq;obtain⟨j,h1,h2,h3,h4,h5⟩:=iP he;obtain⟨w,ew,Mx⟩:=r.get h2;have hl:=r.length;have hn:=bH;have fin:EP X pins σ Q w s:=⟨z,H,I,Mx,q⟩;exact subscriptTail_builtinR (x:=w) pl.typeIs slot_tuple_getitem.lookup
  (getItem_tuple (j:=j) (Q:=fun r s'=>r=w/\EP X pins σ Q r s') pl (by omega) (by omega) (by rw[size_toArray,<- hl];exact h1) (by simpa using ew) ⟨rfl,fin⟩) hs
theorem O6:Qz X OQ:=by
 intro value slice pins s σ H x y v u Q I rx ry h hs;obtain⟨z,i,c,rfl,rfl,hz,he,q⟩:=h;obtain⟨t,rfl⟩:=rx;obtain⟨t',rfl⟩:=ry;obtain⟨j,h1,h2,h3,h4,h5⟩:=iP he;have hl:z.cps.toList.length=z.length:=by simp[Str.length]
 rw[hl]at h1 h4 h5;have hn:=bH;exact tail_any (typeIs_str s z t) slot_str_getitem.lookup (getItem_str (c:=c) (by
  have e1:decide (i < -(2^63:Int))=false:=decide_eq_false (by omega);have e2:decide (i >=2^63)=false:=decide_eq_false (by omega);rw[e1,e2,Bool.or_false]) (by rw[h1];simpa using h2) ⟨.str ⟨#[c]⟩,H,I.tok _,⟨_,rfl⟩,q⟩) hs
def i9(K:Frag):R2:=fun x y H Q=>NQ K x y H Q\/PQ K x y H Q\/OQ x y H Q
theorem N6:Qz X (i9 X.K):=Vz.or (Sv.or O6)
theorem lX (its:List Value) (n j:Nat) (u:Value):Obj.mapSeq (·.setIfInBounds j u) { cls:=.type "list",data:=.seq its.toArray n }={ cls:=.type "list",data:=.seq (its.set j u).toArray n }:=by simp[Obj.mapSeq]
theorem Inv.lst{pins:List (Addr×Obj)}{σ:St}{H:Hp}{s:Shared}{p:Addr}{xs:List V}(I:Inv X pins σ H s)(h:H p=some (.lst xs)) :
 ∃(its:List Value) (n:Nat),Vals xs its/\s.heap.get? p=some { cls:=.type "list",data:=.seq its.toArray n }/\xs.length<=sizeLine:=by
 obtain⟨z,its,n,r,e⟩:=I.hok p _ h;exact⟨its,n,r,e,z⟩
theorem Inv.Uv{pins:List (Addr×Obj)}{σ:St}{H:Hp}{s:Shared}{p:Addr}{xs ys:List V}{its its':List Value}{n n':Nat}{f:Obj->Obj}(I:Inv X pins σ H s)(h:H p=some (.lst xs))
 (ho:s.heap.get? p=some { cls:=.type "list",data:=.seq its.toArray n }) (hf:f { cls:=.type "list",data:=.seq its.toArray n }={ cls:=.type "list",data:=.seq its'.toArray n' }) (r:Vals ys its') (hz:ys.length<=sizeLine) (t:Nat) :
 Inv X pins σ (VA H p (.lst ys)) { s with heap:=s.heap.update p f,toks:=t }:=by
 have e:(s.heap.update p f).get? p=some { cls:=.type "list",data:=.seq its'.toArray n' }:=by rw[Heap.get?_update_self f ho (by rw[hf]<;>rfl),hf]
 refine I.write (x:=p) (e:=p) (by rw[h];trivial) (.inl rfl) (fun b u hb q=>(Heap.get?_update_other _ _ (Ne.symm hb)).trans q) ⟨_,e⟩ ?_;exact⟨hz,its',n',r,e⟩
def i8:V->V->V->Hp->(Hp->Prop)->Prop:=fun o i v H Q=>∃p xs k j,o=.ref p/\i=.int k/\H p=some (.lst xs)/\zH xs.length k=some j/\Q (VA H p (.lst (xs.set j v)))
theorem AZ:BQ X i8:=by
 intro pins s σ H o i v ov iv u Q I ro ri rv h;obtain⟨p,xs,k,j,rfl,rfl,hp,hj,q⟩:=h;cases ro;obtain⟨t,rfl⟩:=ri;obtain⟨its,n,r,ho,hz⟩:=I.lst hp;obtain⟨h1,h2,h3,h4⟩:=sT hj;have hl:=r.length;have hn:=bH;have I':Inv X pins σ (VA H p (.lst (xs.set j v))) { s with heap:=s.heap.update p (Obj.mapSeq (·.setIfInBounds j u)) }:=
  I.Uv hp ho (lX its n j u) (r.set rv j) (by rw[length_set];exact hz) s.toks
 by_cases h0:0<=k
 · have hk:k.toNat=j:=by rw[seqIndex_of h0 h4]at h1;exact Option.some.inj h1
   exact PySem.W.ki_setAt ho h0 (by omega) (by rw[size_toArray,<- hl];exact h4) (by rw[hk];exact⟨_,I',q⟩)
 · have hk:(k+(its.toArray.size:Int)).toNat=j:=by rw[seqIndex_neg (by omega) h3]at h1;rw[size_toArray,<- hl];exact Option.some.inj h1
   exact PySem.W.ki_setBack ho (by omega) (by rw[size_toArray,<- hl];exact h3) (by omega) (by rw[hk];exact⟨_,I',q⟩)
theorem kX(lo hi:Option Int)(n:Nat):(sliceBounds lo hi none n).1=((HT.Fx n 0 lo:Nat):Int)/\(sliceBounds lo hi none n).2.1=((HT.Fx n n hi:Nat):Int)/\(sliceBounds lo hi none n).2.2=1:=by
 refine⟨?_,?_,rfl⟩
 · cases lo with
   | none=>simp[sliceBounds,HT.Fx]
   | some i=>
    simp only[sliceBounds,HT.Fx,Option.getD_none,show(1:Int)>0 by decide,if_true];by_cases h:i<0
    · simp only[h,if_true]<;>omega
    · simp only[h,if_false]<;>omega
 · cases hi with
   | none=>simp[sliceBounds,HT.Fx]
   | some i=>
    simp only[sliceBounds,HT.Fx,Option.getD_none,show(1:Int)>0 by decide,if_true];by_cases h:i<0
    · simp only[h,if_true]<;>omega
    · simp only[h,if_false]<;>omega
theorem DW(its:List Value)(lo hi:Option Int):slicePick its.toArray lo hi none=((its.drop (HT.Fx its.length 0 lo)).take (HT.Fx its.length its.length hi-HT.Fx its.length 0 lo)).toArray:=by obtain⟨h1,h2,h3⟩:=kX lo hi its.toArray.size;unfold slicePick;rw[h1,h2,h3];simp only[sliceRange_one,pick_run,size_toArray]<;>rfl
def vV(K:Frag):V->Option Int->Option Int->Hp->VK->Prop:=fun x lo hi H Q=>∃a xs,x=.ref a/\Wj K H a xs/\∀p,H p=none->Q (.ref p) (VA H p (.lst (uH xs lo hi)))
theorem M3:Z8 X (vV X.K):=by intro pins s σ H x v vl vu lo hi sl Q I rx hs pl pu h;obtain⟨a,xs,rfl,hx,q⟩:=h;cases rx;obtain⟨its,r,ht,hz⟩:=I.list hx;have hlen:=r.length;refine⟨"list",_,slot_list_getitem.lookup,ht.isList.typeIs,?_⟩;refine wpAny_getItem_list_slice ht.isList hs pl pu .none (by simp) ?_ (by rw[size_toArray]<;>omega);rw[DW,<- hlen];refine⟨.ref s.heap.objs.size,_,I.laid (t':=s.toks) (o:=.lst (uH xs lo hi)) (fun b ob q=>Heap.get?_push_of_some _ q) (Hf _) ?_,rfl,q _ (I.hok.fresh (Hf _))⟩;exact⟨Nat.le_trans (VW xs lo hi) hz,_,0,(r.drop (HT.Fx xs.length 0 lo)).take (HT.Fx xs.length xs.length hi-HT.Fx xs.length 0 lo),Heap.get?_push_size _ rfl⟩
noncomputable def jF:V->Bool
 | .non=>true
 | .bl _=>true
 | .int _=>true
 | .str _=>true
 | _=>false
noncomputable def YJ:V->V->Bool
 | .non,.non=>true
 | .bl a,.bl b=>a==b
 | .bl a,.int b=>(if a then 1 else 0)==b
 | .int a,.bl b=>a==(if b then 1 else 0)
 | .int a,.int b=>a==b
 | .str a,.str b=>a==b
 | _,_=>false
theorem F4{A:Around}{s:Shared}{y x:V}{u v:Value}(ry:RelV y u)(rx:RelV x v)(fy:jF y=true)(fx:jF x=true):SeqAt.EqAt A s u v (YJ y x):=by
 cases y with
 | non=>
  cases ry;cases x with
  | non=>cases rx;exact SeqAt.EqAt.same _
  | bl b=>cases rx;exact SeqAt.EqAt.none_bool b
  | int b=>obtain⟨t,rfl⟩:=rx;exact SeqAt.EqAt.none_int b t
  | str b=>obtain⟨t,rfl⟩:=rx;exact SeqAt.EqAt.none_str b t
  | _=>exact absurd (show false=true from fx) Gf
 | bl a=>
  cases ry;cases x with
  | non=>cases rx;exact SeqAt.EqAt.bool_none a
  | bl b=>cases rx;exact SeqAt.EqAt.bool_bool a b
  | int b=>obtain⟨t,rfl⟩:=rx;exact SeqAt.EqAt.bool_int a b t
  | str b=>obtain⟨t,rfl⟩:=rx;exact SeqAt.EqAt.bool_str a b t
  | _=>exact absurd (show false=true from fx) Gf
 | int a=>
  obtain⟨t',rfl⟩:=ry;cases x with
  | non=>cases rx;exact SeqAt.EqAt.int_none a t'
  | bl b=>cases rx;exact SeqAt.EqAt.int_bool a t' b
  | int b=>obtain⟨t,rfl⟩:=rx;exact SeqAt.EqAt.int_int a t' b t
  | str b=>obtain⟨t,rfl⟩:=rx;exact SeqAt.EqAt.int_str a t' b t
  | _=>exact absurd (show false=true from fx) Gf
 | str a=>
  obtain⟨t',rfl⟩:=ry;cases x with
  | non=>cases rx;exact SeqAt.EqAt.str_none a t'
  | bl b=>cases rx;exact SeqAt.EqAt.str_bool a t' b
  | int b=>obtain⟨t,rfl⟩:=rx;exact SeqAt.EqAt.str_int a t' b t
  | str b=>obtain⟨t,rfl⟩:=rx;exact SeqAt.EqAt.str_str a t' b t
  | _=>exact absurd (show false=true from fx) Gf
 | _=>exact absurd (show false=true from fy) Gf
def eK(x:V)(u:Value):Bool:=match u with
 | .none=>YJ .non x
 | .bool b=>YJ (.bl b) x
 | .int i _=>YJ (.int i) x
 | .str z _=>YJ (.str z) x
 | _=>false
theorem ST{x y:V}{u:Value}(r:RelV y u)(f:jF y=true):eK x u=YJ y x:=by
 cases y with
 | non=>cases r;rfl
 | bl b=>cases r;rfl
 | int i=>obtain⟨t,rfl⟩:=r;rfl
 | str z=>obtain⟨t,rfl⟩:=r;rfl
 | _=>exact absurd (show false=true from f) Gf
theorem gP{x:V}:∀{xs:List V}{us:List Value},Vals xs us->xs.all jF=true->us.any (eK x)=xs.any fun y=>YJ y x
 | _,_,.nil,_=>rfl
 | y::xs,u::us,.cons r t,f=>by rw[all_cons,Bool.and_eq_true]at f;rw[any_cons,any_cons,ST r f.1,gP t f.2]
theorem yO{A:Around}{s:Shared}{x:V}{v:Value}(rx:RelV x v)(fx:jF x=true):∀{xs:List V}{us:List Value},Vals xs us->xs.all jF=true->∀u∈us,SeqAt.EqAt A s u v (eK x u)
 | _,_,.nil,_=>fun u hu=>by cases hu
 | y::xs,u::us,.cons r t,f=>fun u' hu=>by
  rw[all_cons,Bool.and_eq_true]at f;rcases mem_cons.mp hu with rfl | hu
  · rw[ST r f.1];exact F4 r rx f.1 fx
  · exact yO rx fx t f.2 u' hu
def wQ(x:V)(xs:List V):Bool:=xs.any fun y=>YJ y x
def g9(K:Frag)(neg:Bool):R2:=fun x y H Q=>∃p xs,y=.ref p/\(Wj K H p xs\/xI K H p xs)/\jF x=true/\xs.all jF=true/\Q (.bl (if neg then !wQ x xs else wQ x xs)) H
theorem GW:xq X (compareOp .NotIn) (g9 X.K true):=by
 intro pins s σ H x y v u Q I rx ry h;obtain⟨p,xs,rfl,hq,fx,fs,q⟩:=h;cases ry;rcases hq with hq | hq
 · obtain⟨its,r,pl,hz⟩:=I.list hq;refine SeqAt.notIn_listAt (eK x) pl.isList (fun w hw=>yO rx fx r fs w (by simpa using hw)) ⟨.bl _,H,I,rfl,?_⟩;rw[show its.toArray.any (eK x)=its.any (eK x) by simp,gP r fs];exact q
 · obtain⟨its,r,pl,hz⟩:=I.tuple hq;refine SeqAt.notIn_tupleAt (eK x) pl (fun w hw=>yO rx fx r fs w (by simpa using hw)) ⟨.bl _,H,I,rfl,?_⟩;rw[show its.toArray.any (eK x)=its.any (eK x) by simp,gP r fs];exact q
theorem OW:Uj X (.builtin "len") (fun xs H Q=>∃p ys,xs=[.ref p]/\(Wj X.K H p ys\/xI X.K H p ys)/\Q (.int ys.length) H):=by
 intro pins s σ H xs us Q I r h;obtain⟨p,ys,rfl,hq,q⟩:=h;obtain⟨u,rfl,rx⟩:=kI r;cases rx;have hn:=bH;rcases hq with hq | hq
 · obtain⟨its,r',pl,hz⟩:=I.list hq;have hlen:=r'.length;exact Calls.call_len_list pl.isList (by simp only[size_toArray]<;>omega) ⟨.int ys.length,H,I.tok _,⟨s.toks+1,by rw[size_toArray,hlen]⟩,q⟩
 · obtain⟨its,r',pl,hz⟩:=I.tuple hq;have hlen:=r'.length;exact len_tuple pl (by simp only[size_toArray]<;>omega) ⟨.int ys.length,H,I.tok _,⟨s.toks+1,by rw[size_toArray,hlen]⟩,q⟩
theorem QW:Uj X (.builtin "len") (fun xs H Q=>∃z,xs=[.str z]/\z.length<=sizeLine/\Q (.int z.length) H):=by intro pins s σ H xs us Q I r h;obtain⟨z,rfl,hz,q⟩:=h;obtain⟨u,rfl,t,rfl⟩:=kI r;have hn:=bH;exact len_str (by omega) ⟨.int z.length,H,I.tok _,⟨_,rfl⟩,q⟩
theorem Uj.or{f:Value}{r r':List V->Hp->VK->Prop}(h:Uj X f r)(h':Uj X f r'):Uj X f (fun xs H Q=>r xs H Q\/r' xs H Q):=by
 intro pins s σ H xs us Q I rs q;rcases q with q | q
 · exact h pins s σ H xs us Q I rs q
 · exact h' pins s σ H xs us Q I rs q
theorem RW:Uj X (.type "list") (fun xs H Q=>∃p ys,xs=[.ref p]/\(Wj X.K H p ys\/xI X.K H p ys)/\∀l,H l=none->Q (.ref l) (VA H l (.lst ys))):=by
 intro pins s σ H xs us Q I r h;obtain⟨p,ys,rfl,hq,q⟩:=h;obtain⟨u,rfl,rx⟩:=kI r;cases rx;have fin:∀(its:List Value),Vals ys its->ys.length<=sizeLine->∀(h':Heap)(c':Nat),(∀b o',s.heap.get? b=some o'->h'.get? b=some o')->
  h'.get? s.heap.objs.size=some { cls:=.type "list",dict:=none,data:=.seq its.toArray c',slots:=#[] }->EP X pins σ Q (.ref s.heap.objs.size) { s with heap:=h' }:=fun its r' hz h' c' kp e=>
  ⟨.ref s.heap.objs.size,_,I.laid (t':=s.toks) kp (Hf _) (show Dj X.prog X.w _ h' _ (.lst ys)from⟨hz,its,c',r',e⟩),rfl,q _ (I.hok.fresh (Hf _))⟩
 rcases hq with hq | hq
 · obtain⟨its,r',pl,hz⟩:=I.list hq;have hlen:=r'.length;obtain⟨o,ho,hc,n,hd⟩:=pl.isList;exact call_list_seq p (.inl rfl) ho hc hd (fun h' c' kp e=>fin its r' hz h' c' kp e) (by simp only[size_toArray]<;>omega)
 · obtain⟨its,r',pl,hz⟩:=I.tuple hq;have hlen:=r'.length;obtain⟨o,ho,hc,n,hd⟩:=pl;exact call_list_seq p (.inr rfl) ho hc hd (fun h' c' kp e=>fin its r' hz h' c' kp e) (by simp only[size_toArray]<;>omega)
def QV(K:Frag)(T:String)(x:V)(H:Hp):Prop:=match x with
 | .str _=>T = "str"
 | .int _=>T = "int"
 | .ref p=>(T = "list" /\ ∃xs,Wj K H p xs)\/(T = "tuple" /\ ∃o,K.lookup p=some o/\o.cls=.type "tuple" /\ o.dict=none)\/
  (T = "dict" /\ ((∃kvs,H p=some (.dK kvs))\/∃kvs,H p=some (.dT kvs)))\/(T = "set" /\ ∃S n,H p=some (.set S n))
 | _=>False
theorem U5{pins:List (Addr×Obj)}{σ:St}{H:Hp}{s:Shared}{T:String}{x:V}{v:Value}(I:Inv X pins σ H s)(r:RelV x v)(ty:QV X.K T x H) :
 s.TypeIs v T/\∀a,v=.ref a->∃ob,s.heap.get? a=some ob/\ob.dict=none:=by
 cases x with
 | str z=>obtain⟨t,rfl⟩:=r;cases (show T = "str" from ty);exact⟨typeIs_str s z t,fun _ e=>nomatch e⟩
 | int i=>obtain⟨t,rfl⟩:=r;cases (show T = "int" from ty);exact⟨typeIs_int s i t,fun _ e=>nomatch e⟩
 | ref p=>
  cases r;rcases ty with⟨rfl,xs,hq⟩ | ⟨rfl,o,hk,hc,hd⟩ | ⟨rfl,hk⟩ | ⟨rfl,S,n,hk⟩
  · obtain⟨its,_,pl,_⟩:=I.list hq;refine⟨pl.isList.typeIs,fun a e=>?_⟩;cases e;obtain⟨o,n,e,c,hd,_⟩:=pl;exact⟨o,e,hd⟩
  · refine⟨⟨o,I.Aq p o hk,hc⟩,fun a e=>?_⟩;cases e;exact⟨o,I.Aq _ o hk,hd⟩
  · have z:∃o,s.heap.get? p=some o/\o.ExactDict:=by
     rcases hk with⟨kvs,hk⟩ | ⟨kvs,hk⟩
     · obtain⟨_,_,_,_,o,_,_,e,ex,_⟩:=I.hok p _ hk;exact⟨o,e,ex⟩
     · obtain⟨_,_,_,_,o,_,_,e,ex,_⟩:=I.hok p _ hk;exact⟨o,e,ex⟩
    obtain⟨o,e,ex⟩:=z;refine⟨⟨o,e,ex.1⟩,fun a e2=>?_⟩;cases e2;exact⟨o,e,ex.2.1⟩
  · obtain⟨o,_,_,_,e,ex,_⟩:=I.hok p _ hk;refine⟨⟨o,e,ex.1⟩,fun a e2=>?_⟩;cases e2;exact⟨o,e,ex.2.1⟩
 | _=>exact False.elim ty
def A9(K:Frag)(T:String)(r:V->List V->Hp->VK->Prop)(to:TE)(t:TA):TE:=fun σ H Q=>to σ H fun x H1=>QV K T x H1/\t σ H1 fun xs H2=>r x xs H2 Q
variable{o e:Expr}{es:List Expr}{to:TE}{t:TA}{name:Str}{apos cpos:Pos}{T id:String}{r:V->List V->Hp->VK->Prop}
theorem QJ (pa:PlainAttrs T) (slot:Slot T name id) (hty:typeOf (.builtin id)=pure (.type "method_descriptor")) (hm:IU X id r) (ho:PE X o to) (ha:PA X (e::es) t)
 (hbase:attributeBase o name X.env (eval o X.env)=eval o X.env:=by rfl)
 (hfew:((backTo cpos (starEach (e::es) X.env)).all (fun x=>!x.1)&&(backToKw cpos (keywordEach [] X.env)).all (fun x=>x.1.isSome)
  && decide ((e::es).length+([]:List Keyword).length+(if([]:List Keyword).isEmpty then 0 else 1)<30))=true:=by rfl)
 (hline:(apos.endLine==cpos.line)=true:=by rfl) (hs:starEach (e::es) X.env=(false,eval e X.env)::starEach es X.env:=by rfl) (hplain:(backTo cpos (starEach es X.env)).any (·.1)=false:=by rfl) :
 PE X (.Call (.Attribute o name apos) (e::es) [] cpos) (A9 X.K T r to t):=by
 intro pins s σ H Q I h;refine wpAny_Call_method_late hbase hfew hline rfl (WA (ho pins s σ H _ I h) fun v s1 zz=>?_);obtain⟨x,H1,I1,r1,ty,q1⟩:=zz;obtain⟨h1,h2⟩:=U5 I1 r1 ty;refine⟨T,id,pa,slot,hty,h1,h2,?_⟩;have hA:=ha cpos pins s1 σ H1 _ I1 q1;rw[hs]at hA ⊢;refine Calls.callWith_builtin (by show(false || (backTo cpos (starEach es X.env)).any (·.1))=false;rw[hplain]<;>rfl) (Calls.evalArgs_plain ?_);exact WA hA fun us s2 ⟨vs,H2,I2,r2,q2⟩=>hm pins s2 σ H2 x vs v us Q I2 r1 r2 q2
end
def Y8(X:Cx)(id:String)(r:V->List V->Hp->VK->Prop):Prop:=
 ∀(pins:List (Addr×Obj))(s:Shared)(σ:St)(H:Hp)(x:V)(xs:List V)(v:Value)(us:List Value)(Q:VK),Inv X pins σ H s->RelV x v->Vals xs us->r x xs H Q->
  wpAny (model X.prog X.w) X.A (call (.builtin id) (v::us)) (EP X pins σ Q) X.xe s
theorem Vals.one:∀{x:V}{us:List Value},Vals [x] us->∃u,us=[u]/\RelV x u
 | _,_,.cons r .nil=>⟨_,rfl,r⟩
theorem Vals.two:∀{x y:V}{us:List Value},Vals [x,y] us->∃u v,us=[u,v]/\RelV x u/\RelV y v
 | _,_,_,.cons r (.cons q .nil)=>⟨_,_,rfl,r,q⟩
theorem Vals.zero:∀{us:List Value},Vals [] us->us=[]
 | _,.nil=>rfl
section
variable{X:Cx}{pins:List (Addr×Obj)}{σ:St}{H:Hp}{s:Shared}{l b:Addr}{xs ys zs:List V}
theorem Inv.Iw{its its':List Value}{n:Nat}{f:Array Value->Array Value}{t':Nat}(I:Inv X pins σ H s)(hH:H l=some (.lst xs))
 (e:s.heap.get? l=some { cls:=.type "list",data:=.seq its.toArray n }) (hf:f its.toArray=its'.toArray) (hv:Vals ys its') (hz:ys.length<=sizeLine) :
 Inv X pins σ (VA H l (.lst ys)) { s with heap:=s.heap.update l (Obj.mapSeq f),toks:=t' }:=by
 have q:=PySem.IsL.update e f;rw[hf]at q;refine I.write (x:=l) (e:=l) (by rw[hH];exact trivial) (.inl rfl) (fun b' u hb hu=>(Heap.get?_update_other s.heap (Obj.mapSeq f) (Ne.symm hb)).trans hu) ⟨_,q⟩ ?_;exact⟨hz,its',_,hv,q⟩
theorem Inv.Hw{its:List Value}{t':Nat}(I:Inv X pins σ H s)(hv:Vals ys its)(hz:ys.length<=sizeLine) :
 Inv X pins σ (VA H s.heap.objs.size (.lst ys)) { s with heap:=s.heap.push { cls:=.type "list",data:=.seq its.toArray },toks:=t' }:=
 I.laid (fun _ _ q=>Heap.get?_push_of_some _ q) (Hf _) ⟨hz,its,0,hv,Heap.get?_push_size _ rfl⟩
theorem Inv.fresh(I:Inv X pins σ H s):H s.heap.objs.size=none:=I.hok.fresh (Hf _)
theorem Inv.Tv (I:Inv X pins σ H s) (hH:H l=some (.lst xs)):xs.length<=sizeLine/\∃(its:List Value) (n:Nat),Vals xs its/\xs.length=its.length/\s.heap.get? l=some { cls:=.type "list",data:=.seq its.toArray n }:=by obtain⟨z,its,n,r,e⟩:=I.hok l _ hH;exact⟨z,its,n,r,r.length,e⟩
theorem ZZ{n:Nat}(h:n<=sizeLine):Builtin.List.listTooLong n=false:=by unfold Builtin.List.listTooLong;exact decide_eq_false (by omega)
end
section
variable{X:Cx}
def G3:V->List V->Hp->VK->Prop:=fun x vs H Q=>∃l xs y,x=.ref l/\vs=[y]/\H l=some (.lst xs)/\xs.length<sizeLine/\Q .non (VA H l (.lst (xs++[y])))
theorem aS:Y8 X "list.append" G3:=by intro pins s σ H x vs v us Q I rx rv h;obtain⟨l,xs,y,rfl,rfl,hH,hz,q⟩:=h;cases rx;obtain⟨u,rfl,ru⟩:=rv.one;obtain⟨z,its,n,r,hl,e⟩:=I.Tv hH;refine call_meets F.slot_list_append ⟨_,e,rfl⟩ F.entry_list_append (F.args_list_append_2 _ _) (PySem.list_append l its.toArray n u (by rw[size_toArray];omega)) ⟨e,?_⟩;refine⟨.non,_,I.Iw (its':=its++[u]) hH e (by simp) (r.append (.cons ru .nil)) ?_,rfl,q⟩;rw[length_append,length_singleton];omega
def J3:V->List V->Hp->VK->Prop:=fun x vs H Q=>∃l b xs zs,x=.ref l/\vs=[.ref b]/\H l=some (.lst xs)/\H b=some (.lst zs)/\xs.length+zs.length<=sizeLine/\Q .non (VA H l (.lst (xs++zs)))
theorem TY:Y8 X "list.extend" J3:=by
 intro pins s σ H x vs v us Q I rx rv h;obtain⟨l,b,xs,zs,rfl,rfl,hH,hB,hz,q⟩:=h;cases rx;obtain⟨u,rfl,ru⟩:=rv.one;cases ru;obtain⟨z,its,n,r,hl,e⟩:=I.Tv hH;obtain⟨z2,its2,n2,r2,hl2,e2⟩:=I.Tv hB;have hsz:its.toArray.size+its2.toArray.size<=sizeLine:=by rw[size_toArray,size_toArray];omega
 have Ew:¬(!its.toArray.isEmpty&&Builtin.List.listTooLong (its.toArray.size+its2.toArray.size))=true:=by rw[ZZ hsz,Bool.and_false];exact Gf
 refine call_meets F.slot_list_extend ⟨_,e,rfl⟩ F.entry_list_extend (F.args_list_extend_2 _ _)
  (AutoSeq1.list_extend_list_list_0 l its.toArray n b its2.toArray n2 Ew (by rw[size_toArray];omega) (by omega)) ⟨e,e2,?_⟩
 refine⟨.non,_,I.Iw (its':=its++its2) hH e (by simp) (r.append r2) ?_,rfl,q⟩;rw[length_append];omega
end
section
variable{prog:Program}{w:World}{A:Around}{E:Value->Shared->Prop}{s:Shared}
end
section
variable{X:Cx}
end
end L2
namespace Xg
open PySem.W PySem.Calls
theorem rW{P:Params}{h:Heap}:∀(ns:List Int)(vs:List Value),WellAll P h vs (ns.map WData.int)->IntsAre vs ns:=by
 intro ns
 induction ns with
 | nil=>intro vs w;rw[bf]at w;cases w;exact .nil
 | cons n ns ih=>
  intro vs w;rw[Zr]at w;cases w with
  | cons a b=>cases a;exact .cons _ _ (ih _ b)
theorem lZ{l:OpenLaw}{n:Nat}(hn:l.most=some n){P:Params}{h:Heap}{args:List WData}{vals:List Value}
 (hpre:l.row.toRowW.claim.pre args=true) (hwl:WellAll P h vals args) :
 ∃a vs ns,vals=[Value.ref a]/\args=[WData.list (ns.map WData.int)]/\h.get? a=some { cls:=.type "list",data:=.seq vs.toArray }/\IntsAre vs ns/\ns.length<=n:=by
 have hsh:WShape.hasAll [] args [.list .int]=true:=(pre_splitW hpre).1;have hc:l.pre.holds [] { args:=args }=true:=(pre_splitW hpre).2;obtain⟨d,r,rfl,h1,h2⟩:=hasAllW_cons hsh;obtain rfl:=hasAllW_nil h2;obtain⟨xs,rfl,h3⟩:=hasW_list h1;obtain⟨ns,rfl⟩:=items_int h3;have hlen:ns.length<=n:=by
  unfold OpenLaw.pre at hc;have h4:(WTm.not (.lt (.lit (.int (n:Int))) (.len (.arg 0)))).holds [] { args:=[.list (ns.map .int)] }=true:=by have h4:=(holds_andW hc).1;rw[hn]at h4;exact h4
  have h5:=condW_of h4 (w_not (w_lt w_lit (w_len_list (w_arg rfl))));rw[length_map]at h5;refine Nat.le_of_not_lt fun q=>?_
  have q':(n:Int)<((ns.length:Nat):Int):=by omega
  first
   | (rw[decide_eq_true q']at h5;exact absurd h5 (by decide))
   | (simp at h5;omega)
 cases hwl with
 | cons w1 w2=>
  cases w2;cases w1 with
  | list ho hall=>exact⟨_,_,ns,rfl,rfl,ho,rW ns _ hall,hlen⟩
theorem iZ(l:OpenLaw)(args:List WData):l.row.toRowW.claim.post args (.bool true) args=true:=
 postW_of (r:=l.row.toRowW) (X:=(true==true))
  (show WShape.has [] (.bool true) .bool=true by first | rfl | decide | simp[WShape.has,WShape.arms,WShape.armsAll])
  (show(WTm.eq .res (.lit (.bool true))).value [] { args:=args,res:=some (.bool true),after:=args }=some (.bool (true==true))from w_eq_bool (w_res rfl) w_lit) rfl
theorem Px{l:OpenLaw}{n:Nat}{q:Program}{loose:List Str}{XP:(Str->Option Value)->Heap->Prop}{YP:World->Heap->Prop}{d:DefRec}
 (hn:l.most=some n) (hdf:d.params.defaults=[])
 (call:∀(w:World)(s₀ s₁:Shared)(mg mb:Str->Option Value)(fa:Addr)(o:Obj)(pm cd doc:Value)(a:Addr)(vs:List Value)(ns:List Int),
  Ground q loose [] XP w s₀ mg mb s₁.heap->YP w s₁.heap->
  s₁.heap.get? fa=some o->o.data=.func (docDef d.name d.params d.body d.scope pm cd doc)->s₁.heap.CodeRec cd d.name->mg d.name=some (.ref fa)->
  s₁.heap.get? a=some { cls:=.type "list",data:=.seq vs.toArray }->IntsAre vs ns->ns.length<=n->s₁.gens=#[]->
  codeAny (model l.prog w) callerA (.call (.ref fa) ⟨[.ref a],[]⟩) (fun r s'=>r=.ok (.ret (.bool true))/\OldK s₁.heap s'.heap/\s'.os=s₁.os/\AllBare s'.gens) s₁) :
 WalkO q loose XP YP l.row.toRowW d [] (fun f vs=>PySem.call f vs):=by
 intro w s₀ s₁ mg mb G Y fa o pm cd doc dV kV ho hd hcd hD hmg hg args vals as hpre hlay hrd hwl hlo;obtain rfl:dV=.none:=Dflts.none hD hdf;obtain rfl:kV=.none:=Dflts.noKw hD;obtain⟨a,vs,ns,rfl,rfl,hobj,hints,hlen⟩:=lZ hn hpre hwl;refine enter_call (codeAny_mono (call w s₀ s₁ mg mb fa o pm cd doc a vs ns G Y ho (fd_plain hd) hcd hmg hobj hints hlen hg) fun r s' hq=>?_);obtain⟨rfl,h2,h3,h4⟩:=hq;exact⟨.inl ⟨.bool true,.bool true,[],rfl,fun _=>rfl,.bool true,iZ l _,fun _=>⟨List.Pairwise.nil,fun _ hm=>(nomatch hm)⟩⟩,h2,h3,h4⟩
section
variable{prog:Program}{w:World}{A:Around}{E:Value->Shared->Prop}{s:Shared}{K:Frag}
end
end Xg
namespace L2
theorem HR:∀{vs:List Value}{ns:List Int},IntsAre vs ns->Vals (ns.map V.int) vs
 | _,_,.nil=>.nil
 | _,_,.cons n t h=>.cons ⟨t,rfl⟩ (HR h)
noncomputable def TL(H:Hp):Prop:=∀b,H b=none\/∃o xs,H b=some (.Qq o (.lst xs))
theorem PZ{P:Program}{w:World}{K:Frag}{mg mb:Str->Option Value}{CX:qG}{k:Nat}{fa a:Addr}{fd:FuncData}{x:Str}{sp:Sp}{s₁:Shared}{vs:List Value}{ns:List Int}
 (KX:K.In s₁.heap) (hns:s₁.heap.Ns mainGlobals mg) (hb:s₁.heap.Ns builtinsNs mb) (hbb:∀x:Str,x ≠ "__name__" ->mb x=bootBuiltins x) (hlim:s₁.heap.NoLimit) (hg:s₁.gens=#[])
 (ha:s₁.heap.get? a=some { cls:=.type "list",data:=.seq vs.toArray }) (hi:IntsAre vs ns) (hl:ns.length<=sizeLine) (hr:Hj k callerA)
 (F:∀base:Heap,K.In base->base.Ns mainGlobals mg->Oj P w K mg base CX k fa fd [x] sp) (hbind:∀(s:Shared)(u:Value),BindsTo s fd ⟨[u],[]⟩ [(x,u)])
 (hsp:∀H:Hp,TL H->Wj K H a (ns.map V.int)->sp [.ref a] H (fun v _=>v=.bl true) fun _ _ _=>False)
 (Fg:∀H e s',CX [] H s₁ (fun _ _ _=>False) e s'->False) :
 codeAny (model P w) callerA (.call (.ref fa) ⟨[.ref a],[]⟩) (fun r s'=>r=.ok (.ret (.bool true))/\OldK s₁.heap s'.heap/\s'.os=s₁.os/\AllBare s'.gens) s₁:=by
 have rv:=HR hi;have lenV:=hi.length;have core:∀H:Hp,TL H->Wj K H a (ns.map V.int)->Oq P w H s₁.heap->(∀b,H b≠none->b=a)->(H a≠none->K.lookup a=none)->
  codeAny (model P w) callerA (.call (.ref fa) ⟨[.ref a],[]⟩) (fun r s'=>r=.ok (.ret (.bool true))/\OldK s₁.heap s'.heap/\s'.os=s₁.os/\AllBare s'.gens) s₁:=by
  intro H hO hS hok hA hK;have WK:∀{b:Addr}{o:Obj},s₁.heap.get? b=some o->H b=none->(qF s₁.heap H).get? b=some o:=fun e n=>LZ e n
  have Mw:∀{b:Addr}{o:Obj}{es:Array DictEntry}{ep:Nat},s₁.heap.get? b=some o->o.data=.dict es ep->H b=none:=fun {b o es ep} e d=>by
   cases q:H b with
   | none=>rfl
   | some u=>have e':b=a:=hA b (by rw[q];simp);subst e';rw[ha]at e;cases e;have d':Data.seq vs.toArray _=Data.dict es ep:=d;cases d'
  have ug:∀{b:Addr}{m:Str->Option Value},s₁.heap.Ns b m->(qF s₁.heap H).Ns b m:=fun {b m} ⟨o,es,ep,e,d,r⟩=>⟨o,es,ep,WK e (Mw e d),d,r⟩
  have uh:K.In (qF s₁.heap H):=fun b o e=>WK (KX b o e) (by
   cases q:H b with
   | none=>rfl
   | some u=>
    have e':b=a:=hA b (by rw[q];simp);subst e';rw[hK (by rw[q];simp)]at e;cases e)
  have hM:Mod K mg (qF s₁.heap H):=⟨uh,ug hns,⟨mb,ug hb,hbb⟩,let ⟨mc,h1,h2⟩:=hlim;⟨mc,ug h1,h2⟩⟩;have e0:Wx P w K mg (qF s₁.heap H) callerA [] s₁ H:=⟨rfl,hM,fun b o e=>K0 e,Nat.le_of_eq (YX _ _),trivial,fun b hb=>absurd (show b∈([]:List Addr)from hb) (by simp),hok,.of_eq hg⟩;refine codeAny_mono ((F _ uh (ug hns)).run callerA [] s₁ H ⟨[.ref a],[]⟩ [.ref a] [.ref a] _ _ hr e0 (hbind s₁ (.ref a)) (.cons rfl .nil) (hsp H hO hS)) fun r s' h=>?_
  cases r with
  | error e=>exact(Fg H e s' h).elim
  | ok fl=>
   cases fl with
   | next=>exact False.elim h
   | brk=>exact False.elim h
   | cont=>exact False.elim h
   | ret u=>
    obtain⟨v,H',os,bare,un,hok',r',q⟩:=h;have q':v=.bl true:=q;subst q';obtain rfl:u=Value.bool true:=r';refine⟨rfl,OldK.of_keep fun b o e=>?_,os,bare⟩;cases q:H b with
    | none=>exact un.keep b o e q (by intro z;exact absurd (show b∈([]:List Addr)from z) (by simp)) (by simp)
    | some u=>
     rcases hO b with z | ⟨ob,xs,z⟩
     · rw[q]at z;cases z
     · have z2:=un.Kq b ob _ z;obtain⟨e1,_⟩:=hok b _ z;obtain⟨e2,_⟩:=hok' b _ z2;rw[e]at e1;cases e1;exact e2
 cases hk:K.lookup a with
 | some o=>have e:=KX a o hk;rw[ha]at e;cases e;refine core (fun _=>none) (fun _=>.inl rfl) (.inr ⟨_,vs.toArray,_,hk,rfl,rfl,rfl,by rw[size_toArray,lenV];exact hl,by simpa using rv⟩) (fun b u z=>by have z':(none:Option HO)=some u:=z;cases z') (fun b z=>absurd rfl z) fun z=>absurd rfl z
 | none=>
  refine core (fun b=>if b=a then some (.Qq { cls:=.type "list",data:=.seq vs.toArray } (.lst (ns.map V.int)))else none) (fun b=>?_) (.inl (.inr ⟨{ cls:=.type "list",data:=.seq vs.toArray },if_pos rfl⟩)) (fun b u z=>?_) (fun b z=>?_) fun _=>hk
  · by_cases hb:b=a
    · exact .inr ⟨_,_,if_pos hb⟩
    · exact .inl (if_neg hb)
  · by_cases hb:b=a
    · have z':=(if_pos hb).symm.trans z;cases z';subst hb;exact⟨ha,by rw[length_map];exact hl,vs,_,rv,ha⟩
    · have z':=(if_neg hb).symm.trans z;cases z'
  · by_cases hb:b=a
    · exact hb
    · exact absurd (if_neg hb) z
theorem W3{l:PySem.W.OpenLaw}{n k:Nat}{q:Program}{loose:List Str}{XP:(Str->Option Value)->Heap->Prop}{YP:World->Heap->Prop}{d:DefRec}{K:Params->Frag}{CX:World->qG}{sp:World->Sp}{x:Str}
 (hn:l.most=some n) (hn2:n<=sizeLine) (hdf:d.params.defaults=[]) (hr:Hj k callerA)
 (hY:∀(w:World)(h:Heap),YP w h->(K w.params).In h)
 (F:∀(w:World)(mg:Str->Option Value)(fa:Addr)(h:Heap),(K w.params).In h->h.Ns mainGlobals mg->mg d.name=some (.ref fa)->
  ∃fd:FuncData,(∀(s:Shared)(u:Value),BindsTo s fd ⟨[u],[]⟩ [(x,u)])/\
   ∀base:Heap,(K w.params).In base->base.Ns mainGlobals mg->Oj l.prog w (K w.params) mg base (CX w) k fa fd [x] (sp w))
 (hsp:∀(w:World)(H:Hp)(a:Addr)(ns:List Int),ns.length<=n->TL H->Wj (K w.params) H a (ns.map V.int)->sp w [.ref a] H (fun v _=>v=.bl true) fun _ _ _=>False)
 (Fg:∀(w:World)(H:Hp)(s:Shared)(e:Value)(s':Shared),CX w [] H s (fun _ _ _=>False) e s'->False) :
 PySem.W.WalkO q loose XP YP l.row.toRowW d [] (fun f vs=>PySem.call f vs):=by
 refine Xg.Px hn hdf fun w s₀ s₁ mg mb fa o pm cd doc a vs ns G Y ho hd hcd hmg hobj hints hlen hg=>?_
 have KX:=hY w _ Y;obtain⟨fd,hb,hF⟩:=F w mg fa _ KX G.T.g hmg;exact PZ KX G.T.g G.T.b G.T.builtins G.T.nolimit hg hobj hints (Nat.le_trans hlen hn2) hr hF hb (fun H hO hS=>hsp w H a ns hlen hO hS) fun H e s'=>Fg w H s₁ e s'
noncomputable def DE(s:Stmt)(j:Nat):Stmt:=match s with
 | .ClassDef _ _ _ body _ _ _ _ _ _ _=>body.getD j (.Pass ⟨0,0,0,0⟩)
 | _=>.Pass ⟨0,0,0,0⟩
noncomputable def jD(s:Stmt):Arguments:=match s with
 | .FunctionDef _ a _ _ _ _ _ _ _ _=>a
 | _=>{ posonlyargs:=[],args:=[],vararg:=none,kwonlyargs:=[],kw_defaults:=[],kwarg:=none,defaults:=[] }
noncomputable def LB(s:Stmt):List Stmt:=match s with
 | .FunctionDef _ _ b _ _ _ _ _ _ _=>b
 | _=>[]
noncomputable def sA(s:Stmt):Scope:=match s with
 | .FunctionDef _ _ _ _ _ _ sc _ _ _=>sc
 | _=>{ kind:=.function,names:=[],isGenerator:=false,isCoroutine:=false }
noncomputable abbrev sE:qG:=fun _ _ _ _ _ _=>False
noncomputable abbrev E0:XK:=fun _ _ _=>False
theorem zL{X:Cx}:ZE sE X E0:=fun _ _ _ _ _ _ _ h=>h.elim
structure iz(K:Frag)(x qual:Str)(st:Stmt)(f:Addr)(fd:FuncData):Prop where
 ex:∃(oc:Value)(od:Option Addr)(kV doc pm:Value)(an:Option Addr)(cdv ct:Value)(osl:Array (Option Value)),
  fd=fnOf x qual (jD st) (LB st) (sA st) .none kV doc pm an cdv ct/\K.lookup f=some ⟨oc,od,.func fd,osl⟩/\PySem.W.codeIn K cdv qual=true
 kp:keepIn K (.ref f)=true
section
variable{P:Program}{w:World}{K:Frag}{mg:Str->Option Value}{base:Heap}
theorem iz.ok{x qual:Str}{st:Stmt}{f:Addr}{fd:FuncData}{N ps:List Str}{k:Nat}{sp:Sp}(F:iz K x qual st f fd)(S:YA N ps (sA st))(len:∀vs H Q E,sp vs H Q E->vs.length=ps.length)
 (hbody:∀(cdv:Value)(A:Around)(outer:List Env)(s:Shared)(H:Hp)(vs:List V)(Q:VK)(E:XK),Hj k (A.deeper (envOfC qual (sA st) s.heap.objs.size f cdv))->sp vs H Q E->
  ∃t,Ax (mC sE P w K mg base N qual (sA st) f cdv A outer s H E).Yx (LB st) t/\t { nx:=fun _ H'=>Q .non H',rt:=Q } (HE N vs) H):Oj P w K mg base sE (k+1) f fd ps sp:=by
 obtain⟨oc,od,kV,doc,pm,an,cdv,ct,osl,rfl,lk,hcd⟩:=F.ex;refine fQ lk hcd S len fun A outer s H vs Q E hr hsp=>?_
 obtain⟨t,h,q⟩:=hbody cdv A outer s H vs Q E hr hsp;exact⟨t,h.Yx,q⟩
theorem iz.binds{x qual:Str}{st:Stmt}{f:Addr}{fd:FuncData}{ps:List Str}(F:iz K x qual st f fd)
 (h:∀(kV doc pm:Value)(an:Option Addr)(cdv ct:Value)(us:List Value),us.length=ps.length->bindArgs (fnOf x qual (jD st) (LB st) (sA st) .none kV doc pm an cdv ct) ⟨us,[]⟩=pure (ps.zip us)):Binds K fd ps []:=by
 obtain⟨oc,od,kV,doc,pm,an,cdv,ct,osl,rfl,lk,hcd⟩:=F.ex;exact .all (h kV doc pm an cdv ct)
theorem BJ{x qual:Str}{st:Stmt}{f:Addr}{oc:Value}{od an:Option Addr}{osl:Array (Option Value)}{kV doc pm cdv ct:Value}(l:K.lookup f=some ⟨oc,od,.func (fnOf x qual (jD st) (LB st) (sA st) .none kV doc pm an cdv ct),osl⟩)
 (c:PySem.W.codeIn K cdv qual=true) (k:keepIn K (.ref f)=true):iz K x qual st f (fnOf x qual (jD st) (LB st) (sA st) .none kV doc pm an cdv ct):=⟨⟨oc,od,kV,doc,pm,an,cdv,ct,osl,rfl,l,c⟩,k⟩
end
section
variable{X:Cx}
end
theorem xE{A B:Prop}(h:B):if false=true then A else B:=by rw[if_neg Gf];exact h
theorem yE{A B:Prop}(h:A):if true=true then A else B:=by rw[if_pos rfl];exact h
noncomputable def Same(H H':Hp):Prop:=∀b o,H b=some o->H' b=some o
theorem Same.refl(H:Hp):Same H H:=fun _ _ h=>h
theorem Same.trans{H H1 H2:Hp}(a:Same H H1)(b:Same H1 H2):Same H H2:=fun c o h=>b c o (a c o h)
theorem Same.free{H H':Hp}(e:Same H H'){l:Addr}(h:H' l=Option.none):H l=Option.none:=by
 cases q:H l with
 | none=>rfl
 | some o=>rw[e l o q]at h;cases h
open PySem.AutoSeq1 (wpAny_loadPart')
open PySem.SeqAt PySem.MeetsSeq PySem.MeetsSeq2 PySem.MeetsSeq3
theorem HX(l b:Addr)(items items2:Array Value)(n n2:Nat)(dd dd2:Option Addr)(sl sl2:Array (Option Value))(hc0:items.size+items2.size<=sizeLine) :
 Meets (Builtin.«list.__add__» ⟨[.ref l,.ref b],[]⟩) (fun _ R s=>s.heap.get? l=some { cls:=.type "list",dict:=dd,data:=.seq items n,slots:=sl }/\s.heap.get? b=some { cls:=.type "list",dict:=dd2,data:=.seq items2 n2,slots:=sl2 }/\R (.ok (.ret (Value.ref s.heap.objs.size))) { s with heap:=s.heap.push { cls:=Value.type "list",data:=Data.seq (items++items2) },toks:=s.toks }):=
 .of_wp fun prog w A R s h=>by obtain⟨hp,g,d,tk,os⟩:=s;obtain⟨hl,hb,h⟩:=h;have f1:=AutoSeq1.idx_int;have f2:=AutoSeq1.sub_tuple_tuple;have f3:=AutoSeq1.sub_list_list;have f4:=AutoSeq1.sub_tuple_list;have f5:=AutoSeq1.sub_list_tuple;wp_walk using wpAny_loadPart' hl,wpAny_loadPart' hb;exact⟨_,rfl,h⟩
section
variable{X:Cx}
theorem N0:xq X (binaryOp .Add) (fun x y H Q=>∃l b xs zs,x=.ref l/\y=.ref b/\Wj X.K H l xs/\Wj X.K H b zs/\xs.length+zs.length<=sizeLine/\∀p,H p=none->Q (.ref p) (VA H p (.lst (xs++zs)))):=by
 intro pins s σ H x y v u Q I rx ry h;obtain⟨l,b,xs,zs,rfl,rfl,hH,hB,hz,q⟩:=h;cases rx;cases ry;obtain⟨its,r,⟨⟨c1,d1,t1,Sw⟩,n,e,k1,k2,k3⟩,z⟩:=I.list hH;obtain⟨its2,r2,⟨⟨c2,d2,t2,sl2⟩,n2,e2,m1,m2,m3⟩,z2⟩:=I.list hB;simp only at k1 k2 k3 m1 m2 m3;subst k1 k2 k3 m1 m2 m3;have hl:=r.length;have hl2:=r2.length;refine concat_meets ⟨_,e,rfl⟩ ⟨_,e2,rfl⟩ noFill_list_add seq_list_add F.slot_list_add F.entry_list_add (F.args_list_add_2 _ _) (HX l b its.toArray its2.toArray n n2 none none Sw sl2 (by rw[size_toArray,size_toArray];omega)) ⟨e,e2,?_⟩;have ea:its.toArray++its2.toArray=(its++its2).toArray:=by simp
 rw[ea];exact⟨.ref _,_,I.Hw (t':=s.toks) (r.append r2) (by rw[length_append];omega),rfl,q _ I.fresh⟩
def a9(K:Frag)(H:Hp)(x:V)(t:String):Prop:=match x with
 | .non=>t = "NoneType"
 | .bl _=>t = "bool"
 | .int _=>t = "int"
 | .str _=>t = "str"
 | .ref a=>(t = "list" /\ ∃xs,Wj K H a xs)\/(t = "tuple" /\ ∃xs,xI K H a xs)
 | _=>False
theorem MY {T:String}:Uj X (.builtin "isinstance") (fun xs H Q=>∃x t b,xs=[x,.ty T]/\a9 X.K H x t/\PySem.W.kitOne X.K (.type t) (.type T)=some b/\Q (.bl b) H):=by
 intro pins s σ H xs us Q I r h;obtain⟨x,t,b,rfl,ty,e,q⟩:=h;obtain⟨u,u2,rfl,rx,ry⟩:=V8 r;cases ry;have fin:∀tk,EP X pins σ Q (.bool b) { s with toks:=tk }:=fun tk=>⟨.bl b,H,I.tok tk,rfl,q⟩
 cases x with
 | non=>cases (show t = "NoneType" from ty);cases rx;exact PySem.W.kia_one PySem.W.kitx_none I.Aq True.intro e (fun z=>nomatch z) fin
 | bl y=>cases (show t = "bool" from ty);cases rx;exact PySem.W.kia_one PySem.W.kitx_bool I.Aq True.intro e (fun z=>nomatch z) fin
 | int i=>cases (show t = "int" from ty);obtain⟨_,rfl⟩:=rx;exact PySem.W.kia_one PySem.W.kitx_int I.Aq True.intro e (fun z=>nomatch z) fin
 | str y=>cases (show t = "str" from ty);obtain⟨_,rfl⟩:=rx;exact PySem.W.kia_one PySem.W.kitx_str I.Aq True.intro e (fun z=>nomatch z) fin
 | ref a=>
  cases rx;rcases ty with⟨rfl,ys,sq⟩ | ⟨rfl,ys,sq⟩
  · obtain⟨its,_,⟨o,n,h1,h2,_,_⟩,_⟩:=I.list sq;exact PySem.W.kia_one PySem.W.kitx_list I.Aq ⟨o,h1,h2⟩ e (fun z=>nomatch z) fin
  · obtain⟨its,_,⟨o,h1,h2,_⟩,_⟩:=I.tuple sq;exact PySem.W.kia_one PySem.W.kitx_tuple I.Aq ⟨o,h1,h2⟩ e (fun z=>nomatch z) fin
 | wz _=>exact False.elim ty
 | flt _=>exact False.elim ty
 | ty _=>exact False.elim ty
end
open PySem.AutoSeq1 (wpAny_loadPart')
open PySem.SeqAt PySem.MeetsSeq PySem.MeetsSeq2 PySem.MeetsSeq3
theorem jY(l b:Addr)(items items2:Array Value)(n n2:Nat)(dd dd2:Option Addr)(sl sl2:Array (Option Value))(e:Nat->Bool) :
 Meets (Builtin.«tuple.__ne__» ⟨[.ref l,.ref b],[]⟩)
  (fun A R s=>s.heap.get? l=some { cls:=.type "tuple",dict:=dd,data:=.seq items n,slots:=sl }/\s.heap.get? b=some { cls:=.type "tuple",dict:=dd2,data:=.seq items2 n2,slots:=sl2 }/\
   (∀j (h1:j<items.size) (h2:j<items2.size),EqAt A.in1 s items[j] items2[j] (e j))/\
   R (.ok (.ret (.bool (!((List.range (min items.size items2.size)).all e&&items.size==items2.size))))) s):=
 .of_wp fun prog w A R s h=>by
  obtain⟨hp,g,d,tk,os⟩:=s;obtain⟨hl,hb,he,h⟩:=h;have f2:=AutoSeq1.sub_tuple_tuple;have hZ:(items.toList.zip items2.toList).length=min items.size items2.size:=by simp
  wp_walk using wpAny_loadPart' hl,wpAny_loadPart' hb,wpAny_forIn_list _ (fun rest b s'=>b.1=none/\s'=⟨hp,g,d,tk,os⟩/\∃i,rest=(items.toList.zip items2.toList).drop i/\
   R (.ok (.ret (.bool (!(((List.range (min items.size items2.size)).drop i).all e&&items.size==items2.size))))) ⟨hp,g,d,tk,os⟩) _
  case turn=>
   rintro⟨y,x⟩ rest b s' ⟨hb',rfl,i,hz,hR⟩;have hlt:i<(items.toList.zip items2.toList).length:=by
    rcases Nat.lt_or_ge i (items.toList.zip items2.toList).length with h' | h'
    · exact h'
    · rw[drop_of_length_le h']at hz;cases hz
   have hm:i<min items.size items2.size:=hZ ▸ hlt;have h1:i<items.size:=Nat.lt_of_lt_of_le hm (Nat.min_le_left _ _);have h2:i<items2.size:=Nat.lt_of_lt_of_le hm (Nat.min_le_right _ _);rw[drop_eq_getElem_cons hlt]at hz;injection hz with hyx hrest
   have hy:y=items[i]:=by have:=congrArg Prod.fst hyx;simpa using this
   have hx:x=items2[i]:=by have:=congrArg Prod.snd hyx;simpa using this
   subst hy hx;have hd:(List.range (min items.size items2.size)).drop i=i::(List.range (min items.size items2.size)).drop (i+1):=by simp[drop_eq_getElem_cons,hm]
   rw[hd,all_cons]at hR;refine wpAny_bind (he i h1 h2 prog w _ _ ?_);cases hy:e i with
   | true=>
    rw[hy]at hR
    wp_walk
    exact⟨rfl,rfl,i+1,hrest,by simpa only[Bool.true_and]using hR⟩
   | false=>
    rw[hy]at hR
    wp_walk
    exact⟨_,rfl,by simpa only[Bool.false_and,Bool.not_false]using hR⟩
  case fin=>
   rintro⟨b1,b2⟩ s' ⟨hb',rfl,i,hz,hR⟩;simp only at hb';subst hb';have hge:min items.size items2.size<=i:=by
    rcases Nat.lt_or_ge i (items.toList.zip items2.toList).length with h' | h'
    · rw[drop_eq_getElem_cons h']at hz;cases hz
    · exact hZ ▸ h'
   rw[drop_of_length_le (by simpa using hge)]at hR
   wp_walk
   exact⟨_,rfl,by simpa[Builtin.Tuple.tupleCompareSizes,bne]using hR⟩
  case h=>exact⟨rfl,rfl,0,rfl,by simpa only[drop_zero]using h⟩
theorem WY(l b:Addr)(items items2:Array Value)(n n2:Nat)(dd dd2:Option Addr)(sl sl2:Array (Option Value))(hsz:items.size=items2.size)(e:Nat->Bool)(k:Nat) :
 ∀i:Nat,items.size-i=k->Meets (Builtin.«list.__eq__.loop» ⟨[.ref l,.ref b,rawInt i,rawInt 3],[]⟩)
  (fun A R s=>s.heap.get? l=some { cls:=.type "list",dict:=dd,data:=.seq items n,slots:=sl }/\s.heap.get? b=some { cls:=.type "list",dict:=dd2,data:=.seq items2 n2,slots:=sl2 }/\
   (∀j (h1:j<items.size) (h2:j<items2.size),EqAt A.in1 s items[j] items2[j] (e j))/\
   R (.ok (.ret (.bool (!(((List.range items.size).drop i).all e))))) s):=by
 induction k with
 | zero=>
  intro i hk prog w A R s h;obtain⟨hp,g,d,tk,os⟩:=s;obtain⟨hl,hb,he,h⟩:=h
  wp_walk using wpAny_loadPart' hl,wpAny_loadPart' hb
  have hi1:items[((i:Nat):Int).toNat]?=none:=by simp;omega
  have hi2:items2[((i:Nat):Int).toNat]?=none:=by simp;omega
  have hd:(List.range items.size).drop i=[]:=by simp;omega
  rw[hd]at h;rw[hi1,hi2]
  wp_walk using wpAny_loadPart' hl,wpAny_loadPart' hb
  show R (.ok (.ret (.bool (items.size !=items2.size)))) _;rw[hsz];simpa using h
 | succ k ih=>
  intro i hk prog w A R s h;obtain⟨hp,g,d,tk,os⟩:=s;obtain⟨hl,hb,he,h⟩:=h
  wp_walk using wpAny_loadPart' hl,wpAny_loadPart' hb
  have hlt:i<items.size:=by omega
  have hlt2:i<items2.size:=by omega
  have hi1:items[((i:Nat):Int).toNat]?=some items[i]:=by simp[hlt]
  have hi2:items2[((i:Nat):Int).toNat]?=some items2[i]:=by simp[hlt2]
  have hd:(List.range items.size).drop i=i::(List.range items.size).drop (i+1):=by simp[drop_eq_getElem_cons,hlt]
  have hc:((i:Int)+1)=((i+1:Nat):Int):=by push_cast;rfl
  rw[hd,all_cons]at h;rw[hi1,hi2];refine wpAny_bind (he i hlt hlt2 prog w _ _ ?_);cases hb':e i with
  | true=>
   rw[hb']at h
   wp_walk
   rw[hc];exact⟨plainId_quiet plain_eq_loop _,codeAny_builtin entry_eq_loop (by
    rw[Around.under_plainId plain_eq_loop _];exact ih (i+1) (by omega) prog w A R _ ⟨hl,hb,he,by simpa only[Bool.true_and]using h⟩)⟩
  | false=>
   rw[hb']at h
   wp_walk using wpAny_loadPart' hl,wpAny_loadPart' hb
   rw[hi1,hi2]
   wp_walk
   simpa using h
theorem IX(l b:Addr)(items items2:Array Value)(n n2:Nat)(dd dd2:Option Addr)(sl sl2:Array (Option Value))(hsz:items.size=items2.size)(e:Nat->Bool) :
 Meets (Builtin.«list.__ne__» ⟨[.ref l,.ref b],[]⟩)
  (fun A R s=>s.heap.get? l=some { cls:=.type "list",dict:=dd,data:=.seq items n,slots:=sl }/\s.heap.get? b=some { cls:=.type "list",dict:=dd2,data:=.seq items2 n2,slots:=sl2 }/\
   (∀j (h1:j<items.size) (h2:j<items2.size),EqAt A.in1 s items[j] items2[j] (e j))/\
   R (.ok (.ret (.bool (!((List.range items.size).all e))))) s):=by
 intro prog w A R s h;obtain⟨hp,g,d,tk,os⟩:=s;obtain⟨hl,hb,he,h⟩:=h;have f3:=AutoSeq1.sub_list_list;have hne:¬(items.size !=items2.size)=true:=by simp[hsz]
 wp_walk using wpAny_loadPart' hl,wpAny_loadPart' hb
 exact⟨plainId_quiet plain_eq_loop _,codeAny_builtin entry_eq_loop (by
  rw[Around.under_plainId plain_eq_loop _];exact WY l b items items2 n n2 dd dd2 sl sl2 hsz e _ 0 rfl prog w A R _ ⟨hl,hb,he,by simpa only[drop_zero]using h⟩)⟩
theorem cW(l b:Addr)(items items2:Array Value)(n n2:Nat)(dd dd2:Option Addr)(sl sl2:Array (Option Value))(hc0:(items.size !=items2.size)=true) :
 Meets (Builtin.«list.__ne__» ⟨[.ref l,.ref b],[]⟩)
  (fun _ R s=>s.heap.get? l=some { cls:=.type "list",dict:=dd,data:=.seq items n,slots:=sl }/\s.heap.get? b=some { cls:=.type "list",dict:=dd2,data:=.seq items2 n2,slots:=sl2 }/\
   R (.ok (.ret (.bool true))) s):=
 .of_wp fun prog w A R s h=>by
  obtain⟨hp,g,d,tk,os⟩:=s;obtain⟨hl,hb,h⟩:=h;have f3:=AutoSeq1.sub_list_list
  wp_walk using wpAny_loadPart' hl,wpAny_loadPart' hb
  exact⟨_,rfl,h⟩
section
variable{prog:Program}{w:World}{A:Around}{E:Value->Shared->Prop}{s:Shared}{Q:Value->Shared->Prop}
theorem XY{l b:Addr}{items items2:Array Value}{e:Nat->Bool}(hl:s.heap.IsTuple l items)(hb:s.heap.IsTuple b items2)(hu:A.units<cLine)
 (he:∀j (h1:j<items.size) (h2:j<items2.size),EqAt A.in1 s items[j] items2[j] (e j)) (h:Q (.bool (!((List.range (min items.size items2.size)).all e&&items.size==items2.size))) s):wpAny (model prog w) A (compareOp .NotEq (.ref l) (.ref b)) Q E s:=by
 obtain⟨⟨cls,dd,data,sl⟩,ho,hc,n,hd⟩:=id hl;obtain⟨⟨cls2,dd2,data2,sl2⟩,ho2,hc2,n2,hd2⟩:=id hb;simp only at hc hd hc2 hd2;subst hc hd hc2 hd2;exact richCompare_meets_room (op:=.NotEq) ⟨_,ho,rfl⟩ ⟨_,ho2,rfl⟩ F.slot_tuple_ne F.entry_tuple_ne (F.args_tuple_ne_2 _ _) (jY l b items items2 n n2 dd dd2 sl sl2 e) ⟨ho,ho2,he,⟨(fun x=>nomatch x),h⟩⟩ hu
theorem XZ{l b:Addr}{items items2:Array Value}{e:Nat->Bool}(hl:s.heap.IsList l items)(hb:s.heap.IsList b items2)(hsz:items.size=items2.size)(hu:A.units<cLine)
 (he:∀j (h1:j<items.size) (h2:j<items2.size),EqAt A.in1 s items[j] items2[j] (e j)) (h:Q (.bool (!((List.range items.size).all e))) s):wpAny (model prog w) A (compareOp .NotEq (.ref l) (.ref b)) Q E s:=by
 obtain⟨⟨cls,dd,data,sl⟩,ho,hc,n,hd⟩:=id hl;obtain⟨⟨cls2,dd2,data2,sl2⟩,ho2,hc2,n2,hd2⟩:=id hb;simp only at hc hd hc2 hd2;subst hc hd hc2 hd2;exact richCompare_meets_room (op:=.NotEq) ⟨_,ho,rfl⟩ ⟨_,ho2,rfl⟩ F.slot_list_ne F.entry_list_ne (F.args_list_ne_2 _ _) (IX l b items items2 n n2 dd dd2 sl sl2 hsz e) ⟨ho,ho2,he,⟨(fun x=>nomatch x),h⟩⟩ hu
theorem LW{l b:Addr}{items items2:Array Value}(hl:s.heap.IsList l items)(hb:s.heap.IsList b items2)(hsz:(items.size !=items2.size)=true)(hu:A.units<cLine)
 (h:Q (.bool true) s):wpAny (model prog w) A (compareOp .NotEq (.ref l) (.ref b)) Q E s:=by
 obtain⟨⟨cls,dd,data,sl⟩,ho,hc,n,hd⟩:=id hl;obtain⟨⟨cls2,dd2,data2,sl2⟩,ho2,hc2,n2,hd2⟩:=id hb;simp only at hc hd hc2 hd2;subst hc hd hc2 hd2;exact richCompare_meets_room (op:=.NotEq) ⟨_,ho,rfl⟩ ⟨_,ho2,rfl⟩ F.slot_list_ne F.entry_list_ne (F.args_list_ne_2 _ _) (cW l b items items2 n n2 dd dd2 sl sl2 hsz) ⟨ho,ho2,⟨(fun x=>nomatch x),h⟩⟩ hu
end
noncomputable abbrev yG(C t0:Addr)(dx:Option Addr):Obj:={ cls:=.ref C,dict:=dx,data:=.fields #[.ref t0,.none,.none,.none,.bool false,.none] }
abbrev XO(a C t0:Addr)(dx:Option Addr):HO:=.ext fun h=>h.get? a=some (yG C t0 dx)
noncomputable abbrev XL(e:Addr)(cls:Value)(dx:Option Addr):HO:=.ext fun h=>∃oe vs,h.get? e=some oe/\(oe.cls=cls/\oe.dict=dx)/\oe.data=.fields vs
noncomputable def xV:Sum Int Str->V
 | .inl i=>.int i
 | .inr z=>.str z
end L2
namespace SM
inductive Dt where
 | non | bl (b:Bool) | int (i:Int) | str (x:Str) | tup (xs:List Dt) | lst (xs:List Dt) | ref (n:Nat) | qx (xs:List Int) | err (x f:Str) (i:Sum Int Str) | thr (x f:Str) (i:Sum Int Str)
inductive Ob where
 | lst (xs:List Dt)
 | ins (x:Str) (fs:List (Str×Dt))
 | dk (kvs:List (FA×Dt))
 | dt (kvs:List (List Int×Dt))
 | df (kvs:List (List Int×Dt))
 | Qx (kvs:List (FA×Dt))
noncomputable abbrev HI:=List Ob
noncomputable abbrev LI:=List (Option Dt)
structure Rg where
 v:List Addr
 z:List Addr
noncomputable def Rg.no(ρ:Rg)(a:Addr):Prop:=a∉ρ.v/\a∉ρ.z
noncomputable def Rg.add(ρ:Rg)(p:Addr):Rg:=⟨ρ.v++[p],ρ.z⟩
noncomputable def Rg.hide(ρ:Rg)(p:Addr):Rg:=⟨ρ.v,p::ρ.z⟩
noncomputable def Rg.nil:Rg:=⟨[],[]⟩
def TupAt(K:Frag)(H:Hp)(ρ:Rg)(a:Addr)(vs:List V):Prop:=
 (ρ.no a/\Rd H a (.tup vs))\/
  ∃(o:Obj) (its:Array Value) (n:Nat),K.lookup a=some o/\o.cls=.type "tuple" /\ o.data=.seq its n/\its.size<=sizeLine/\Vals vs its.toList
def LstAt(K:Frag)(H:Hp)(ρ:Rg)(a:Addr)(vs:List V):Prop:=
 (ρ.no a/\Rd H a (.lst vs))\/
  ∃(o:Obj) (its:Array Value) (n:Nat),K.lookup a=some o/\o.cls=.type "list" /\ o.dict=none/\o.data=.seq its n/\its.size<=sizeLine/\Vals vs its.toList
theorem TupAt.sq{K:Frag}{H:Hp}{ρ:Rg}{a:Addr}{vs:List V}(h:TupAt K H ρ a vs):xI K H a vs:=by
 rcases h with⟨_,h⟩ | h
 · exact .inl h
 · exact .inr h
theorem LstAt.sq{K:Frag}{H:Hp}{ρ:Rg}{a:Addr}{vs:List V}(h:LstAt K H ρ a vs):Wj K H a vs:=by
 rcases h with⟨_,h⟩ | h
 · exact .inl h
 · exact .inr h
mutual
noncomputable def cj(K:Frag)(H:Hp)(ρ:Rg):Dt->V->Prop
 | .non,v=>v=.non
 | .bl b,v=>v=.bl b
 | .int i,v=>v=.int i
 | .str x,v=>v=.str x
 | .tup xs,v=>∃a vs,v=.ref a/\TupAt K H ρ a vs/\aj K H ρ xs vs
 | .lst xs,v=>∃a vs,v=.ref a/\LstAt K H ρ a vs/\aj K H ρ xs vs
 | .ref n,v=>∃a,v=.ref a/\ρ.v[n]?=some a
 | .qx xs,v=>∃a,v=.ref a/\ρ.no a/\H a=some (.tup (xs.map V.int))
 | .err x f i,v=>∃a C dx,v=.ref a/\nsIn K mainGlobals x=some (some (.ref C))/\ρ.no a/\H a=some (XL a (.ref C) dx)/\((f = "" /\ dx=none)\/∃b,dx=some b/\ρ.no b/\H b=some (.xd [(f,xV i)]))
 | .thr _ _ _,_=>False
noncomputable def aj(K:Frag)(H:Hp)(ρ:Rg):List Dt->List V->Prop
 | [],vs=>vs=[]
 | x::xs,vs=>∃v r,vs=v::r/\cj K H ρ x v/\aj K H ρ xs r
end
structure Ext(ρ ρ':Rg)(H H':Hp):Prop where
 pre:∃e,ρ'.v=ρ.v++e/\∀a∈e,H a=none
 hid:ρ'.z=ρ.z
 keep:∀a o,H a=some o->a∉ρ.v->H' a=some o
 live:∀a,H' a=none->H a=none
 fz:∀a o u,H a=some (.Qq o u)->H' a=some (.Qq o u)
theorem Ext.refl(ρ:Rg)(H:Hp):Ext ρ ρ H H:=⟨⟨[],by simp,by simp⟩,rfl,fun _ _ h _=>h,fun _ h=>h,fun _ _ _ h=>h⟩
theorem Ext.Ow{ρ ρ':Rg}{H H':Hp}(x:Ext ρ ρ' H H'){a:Addr}{o:HO}(h:H a=some o)(n:a∉ρ.v):a∉ρ'.v:=by
 obtain⟨e,e',hn⟩:=x.pre;rw[e'];intro hm;rcases mem_append.mp hm with hm | hm
 · exact n hm
 · have:=hn a hm;rw[h]at this;cases this
theorem Ext.Vq{ρ ρ':Rg}{H H':Hp}(x:Ext ρ ρ' H H'){a:Addr}{o:HO}(h:H a=some o)(n:ρ.no a):ρ'.no a:=⟨x.Ow h n.1,by rw[x.hid];exact n.2⟩
theorem Ext.trans{ρ ρ1 ρ2:Rg}{H H1 H2:Hp}(x:Ext ρ ρ1 H H1)(y:Ext ρ1 ρ2 H1 H2):Ext ρ ρ2 H H2:=by
 refine⟨?_,y.hid.trans x.hid,fun a o h n=>y.keep a o (x.keep a o h n) (x.Ow h n),fun a h=>x.live a (y.live a h),fun a o u h=>y.fz a o u (x.fz a o u h)⟩;obtain⟨e,q1,h1⟩:=x.pre;obtain⟨e',q2,h2⟩:=y.pre;refine⟨e++e',by rw[q2,q1,append_assoc],fun a ha=>?_⟩;rcases mem_append.mp ha with ha | ha
 · exact h1 a ha
 · exact x.live a (h2 a ha)
theorem Ext.get{ρ ρ':Rg}{H H':Hp}(x:Ext ρ ρ' H H'){n:Nat}{a:Addr}(h:ρ.v[n]?=some a):ρ'.v[n]?=some a:=by obtain⟨e,e',_⟩:=x.pre;have:=(Df h).1;rw[e',Ef this];exact h
theorem Ext.fresh{ρ:Rg}{H:Hp}{p:Addr}{o:HO}(h:H p=none):Ext ρ ρ H (VA H p o):=by
 refine⟨⟨[],by simp,by simp⟩,rfl,fun a u e _=>?_,fun a e=>?_,fun a o u e=>by rw[UA (BC e h)];exact e⟩
 · rw[UA (BC e h)];exact e
 · by_cases ha:a=p
   · subst ha;exact h
   · rw[UA ha]at e;exact e
theorem Ext.own{ρ:Rg}{H:Hp}{p:Addr}{o:HO}(h:H p=none):Ext ρ (ρ.add p) H (VA H p o):=by refine⟨⟨[p],rfl,fun a ha=>?_⟩,rfl,(Ext.fresh (ρ:=ρ) h).keep,(Ext.fresh (ρ:=ρ) h).live,(Ext.fresh (ρ:=ρ) h).fz⟩;rw[mem_singleton.mp ha];exact h
noncomputable def vQ(H:Hp)(a:Addr):Prop:=∀o u,H a≠some (.Qq o u)
theorem AH{H:Hp}{a:Addr}{vs:List V}(h:H a=some (.lst vs)):vQ H a:=fun _ _ e=>by rw[h]at e;cases e
theorem Ext.write{ρ:Rg}{H:Hp}{a:Addr}{o:HO}(ha:a∈ρ.v)(nf:vQ H a):Ext ρ ρ H (VA H a o):=by
 refine⟨⟨[],by simp,by simp⟩,rfl,fun b u e n=>?_,fun b e=>?_,fun b q u e=>by rw[UA (fun z:b=a=>nf q u (by rw[<- z];exact e))];exact e⟩
 · rw[UA (fun z=>n (by rw[z];exact ha))];exact e
 · by_cases hb:b=a
   · subst hb;rw[KB]at e;cases e
   · rw[UA hb]at e;exact e
structure Tj(ρ ρ':Rg)(H H':Hp):Prop where
 no:∀a u,H a=some u->ρ.no a->ρ'.no a
 eq:∀a u,H a=some u->ρ.no a->H' a=some u
 ix:∀(n:Nat) a,ρ.v[n]?=some a->ρ'.v[n]?=some a
 fz:∀a o u,H a=some (.Qq o u)->H' a=some (.Qq o u)
theorem Ext.same{ρ ρ':Rg}{H H':Hp}(x:Ext ρ ρ' H H'):Tj ρ ρ' H H':=⟨fun _ _ e n=>x.Vq e n,fun _ _ e n=>x.keep _ _ e n.1,fun _ _ e=>x.get e,x.fz⟩
theorem Tj.trans{ρ ρ1 ρ2:Rg}{H H1 H2:Hp}(x:Tj ρ ρ1 H H1)(y:Tj ρ1 ρ2 H1 H2):Tj ρ ρ2 H H2:=
 ⟨fun a u e n=>y.no a u (x.eq a u e n) (x.no a u e n),fun a u e n=>y.eq a u (x.eq a u e n) (x.no a u e n),fun n a e=>y.ix n a (x.ix n a e),fun a o u e=>y.fz a o u (x.fz a o u e)⟩
theorem TupAt.same{K:Frag}{ρ ρ':Rg}{H H':Hp}(x:Tj ρ ρ' H H'){a:Addr}{vs:List V}(h:TupAt K H ρ a vs):TupAt K H' ρ' a vs:=by
 rcases h with⟨n,t | ⟨y,t⟩⟩ | t
 · exact .inl ⟨x.no _ _ t n,.inl (x.eq _ _ t n)⟩
 · exact .inl ⟨x.no _ _ t n,.inr ⟨y,x.eq _ _ t n⟩⟩
 · exact .inr t
theorem LstAt.same{K:Frag}{ρ ρ':Rg}{H H':Hp}(x:Tj ρ ρ' H H'){a:Addr}{vs:List V}(h:LstAt K H ρ a vs):LstAt K H' ρ' a vs:=by
 rcases h with⟨n,t | ⟨y,t⟩⟩ | t
 · exact .inl ⟨x.no _ _ t n,.inl (x.eq _ _ t n)⟩
 · exact .inl ⟨x.no _ _ t n,.inr ⟨y,x.eq _ _ t n⟩⟩
 · exact .inr t
mutual
theorem cj.same{K:Frag}{ρ ρ':Rg}{H H':Hp}(x:Tj ρ ρ' H H'):∀(d:Dt){v:V},cj K H ρ d v->cj K H' ρ' d v
 | .non,_,h=>by simp only[cj]at h ⊢;exact h
 | .bl _,_,h=>by simp only[cj]at h ⊢;exact h
 | .int _,_,h=>by simp only[cj]at h ⊢;exact h
 | .str _,_,h=>by simp only[cj]at h ⊢;exact h
 | .tup xs,_,h=>by simp only[cj]at h ⊢;obtain⟨a,vs,e,t,r⟩:=h;exact⟨a,vs,e,t.same x,aj.same x xs r⟩
 | .lst xs,_,h=>by simp only[cj]at h ⊢;obtain⟨a,vs,e,t,r⟩:=h;exact⟨a,vs,e,t.same x,aj.same x xs r⟩
 | .ref _,_,h=>by simp only[cj]at h ⊢;obtain⟨a,e,t⟩:=h;exact⟨a,e,x.ix _ _ t⟩
 | .qx _,_,h=>by simp only[cj]at h ⊢;obtain⟨a,e,n,t⟩:=h;exact⟨a,e,x.no _ _ t n,x.eq _ _ t n⟩
 | .err _ _ _,_,h=>by
  simp only[cj]at h ⊢;obtain⟨a,C,dx,e,c,n,t,q⟩:=h;refine⟨a,C,dx,e,c,x.no _ _ t n,x.eq _ _ t n,?_⟩;rcases q with q | ⟨b,q,n',t'⟩
  · exact .inl q
  · exact .inr ⟨b,q,x.no _ _ t' n',x.eq _ _ t' n'⟩
 | .thr _ _ _,_,h=>by simp only[cj]at h
theorem aj.same{K:Frag}{ρ ρ':Rg}{H H':Hp}(x:Tj ρ ρ' H H'):∀(ds:List Dt){vs:List V},aj K H ρ ds vs->aj K H' ρ' ds vs
 | [],_,h=>by simp only[aj]at h ⊢;exact h
 | d::ds,_,h=>by simp only[aj]at h ⊢;obtain⟨v,r,e,h1,h2⟩:=h;exact⟨v,r,e,cj.same x d h1,aj.same x ds h2⟩
end
theorem cj.ext{K:Frag}{ρ ρ':Rg}{H H':Hp}(x:Ext ρ ρ' H H')(d:Dt){v:V}(h:cj K H ρ d v):cj K H' ρ' d v:=cj.same x.same d h
theorem aj.ext{K:Frag}{ρ ρ':Rg}{H H':Hp}{ds:List Dt}{vs:List V}(h:aj K H ρ ds vs)(x:Ext ρ ρ' H H'):aj K H' ρ' ds vs:=aj.same x.same ds h
section
variable{K:Frag}{H:Hp}{ρ:Rg}
theorem aj.nil:aj K H ρ [] []:=by simp only[aj]
theorem aj.cons{d:Dt}{v:V}{ds:List Dt}{vs:List V}(h:cj K H ρ d v)(r:aj K H ρ ds vs):aj K H ρ (d::ds) (v::vs):=by simp only[aj];exact⟨v,vs,rfl,h,r⟩
theorem aj.Cj{d:Dt}{ds:List Dt}{vs:List V}(h:aj K H ρ (d::ds) vs):∃v r,vs=v::r/\cj K H ρ d v/\aj K H ρ ds r:=by simpa only[aj]using h
theorem aj.Qj{vs:List V}(h:aj K H ρ [] vs):vs=[]:=by simpa only[aj]using h
theorem aj.length:∀{ds:List Dt}{vs:List V},aj K H ρ ds vs->vs.length=ds.length
 | [],_,h=>by rw[h.Qj];rfl
 | d::ds,_,h=>by obtain⟨v,r,rfl,_,h2⟩:=h.Cj;rw[Xr,Xr,aj.length h2]
theorem aj.get:∀{ds:List Dt}{vs:List V}{i:Nat}{d:Dt},aj K H ρ ds vs->ds[i]?=some d->∃v,vs[i]?=some v/\cj K H ρ d v
 | [],_,_,_,_,e=>by simp at e
 | d::ds,_,0,_,h,e=>by obtain⟨v,r,rfl,h1,_⟩:=h.Cj;simp at e;subst e;exact⟨v,rfl,h1⟩
 | d::ds,_,i+1,d',h,e=>by obtain⟨v,r,rfl,_,h2⟩:=h.Cj;obtain⟨u,q1,q2⟩:=aj.get (i:=i) h2 (by simpa using e);exact⟨u,by simpa using q1,q2⟩
theorem aj.append:∀{ds es:List Dt}{vs us:List V},aj K H ρ ds vs->aj K H ρ es us->aj K H ρ (ds++es) (vs++us)
 | [],_,_,_,h,h'=>by rw[h.Qj];exact h'
 | d::ds,_,_,_,h,h'=>by obtain⟨v,r,rfl,h1,h2⟩:=h.Cj;exact .cons h1 (aj.append h2 h')
theorem aj.set:∀{ds:List Dt}{vs:List V}{d:Dt}{v:V}(i:Nat),aj K H ρ ds vs->cj K H ρ d v->aj K H ρ (ds.set i d) (vs.set i v)
 | [],_,_,_,_,h,_=>by rw[h.Qj];exact .nil
 | d::ds,_,_,_,0,h,q=>by obtain⟨v,r,rfl,h1,h2⟩:=h.Cj;exact .cons q h2
 | d::ds,_,_,_,i+1,h,q=>by obtain⟨v,r,rfl,h1,h2⟩:=h.Cj;exact .cons h1 (aj.set i h2 q)
theorem aj.take:∀{ds:List Dt}{vs:List V}(n:Nat),aj K H ρ ds vs->aj K H ρ (ds.take n) (vs.take n)
 | [],_,n,h=>by rw[h.Qj];simp;exact .nil
 | d::ds,_,0,h=>.nil
 | d::ds,_,n+1,h=>by obtain⟨v,r,rfl,h1,h2⟩:=h.Cj;exact .cons h1 (aj.take n h2)
theorem aj.drop:∀{ds:List Dt}{vs:List V}(n:Nat),aj K H ρ ds vs->aj K H ρ (ds.drop n) (vs.drop n)
 | [],_,n,h=>by rw[h.Qj];simp;exact .nil
 | d::ds,_,0,h=>h
 | d::ds,_,n+1,h=>by obtain⟨v,r,rfl,h1,h2⟩:=h.Cj;exact aj.drop n h2
theorem aj.ints(ns:List Int):aj K H ρ (ns.map Dt.int) (ns.map V.int):=by
 induction ns with
 | nil=>exact .nil
 | cons n ns ih=>exact .cons (by simp only[cj]) ih
theorem dj{i:Int}{v:V}:cj K H ρ (.int i) v↔v=.int i:=by simp only[cj]
theorem fj{i:Bool}{v:V}:cj K H ρ (.bl i) v↔v=.bl i:=by simp only[cj]
theorem kj{i:Str}{v:V}:cj K H ρ (.str i) v↔v=.str i:=by simp only[cj]
theorem zj{v:V}:cj K H ρ .non v↔v=.non:=by simp only[cj]
theorem Bj{xs:List Dt}{v:V}:cj K H ρ (.tup xs) v↔∃a vs,v=.ref a/\TupAt K H ρ a vs/\aj K H ρ xs vs:=by simp only[cj]
theorem mj{xs:List Dt}{v:V}:cj K H ρ (.lst xs) v↔∃a vs,v=.ref a/\LstAt K H ρ a vs/\aj K H ρ xs vs:=by simp only[cj]
theorem Xq{xs:List Int}{v:V}:cj K H ρ (.qx xs) v↔∃a,v=.ref a/\ρ.no a/\H a=some (.tup (xs.map V.int)):=by simp only[cj]
theorem Yj {x f:Str} {i:Sum Int Str} {v:V}:cj K H ρ (.err x f i) v↔∃a C dx,v=.ref a/\nsIn K mainGlobals x=some (some (.ref C))/\ρ.no a/\H a=some (XL a (.ref C) dx)/\((f = "" /\ dx=none)\/∃b,dx=some b/\ρ.no b/\H b=some (.xd [(f,xV i)])):=by simp only[cj]
theorem Gq{x f:Str}{i:Sum Int Str}{v:V}:cj K H ρ (.thr x f i) v↔False:=by simp only[cj]
theorem wj{n:Nat}{v:V}:cj K H ρ (.ref n) v↔∃a,v=.ref a/\ρ.v[n]?=some a:=by simp only[cj]
end
def ux(K:Frag)(H:Hp)(ρ:Rg)(a:Addr):Ob->Prop
 | .lst xs=>∃vs,H a=some (.lst vs)/\aj K H ρ xs vs
 | .ins x fs=>∃C dx vs,nsIn K mainGlobals x=some (some (.ref C))/\H a=some (.ins C dx vs)/\fs.map (·.1)=vs.map (·.1)/\aj K H ρ (fs.map (·.2)) (vs.map (·.2))
 | .dk kvs=>∃vs,H a=some (.dK vs)/\kvs.map (·.1)=vs.map (·.1)/\aj K H ρ (kvs.map (·.2)) (vs.map (·.2))
 | .dt kvs=>∃vs:List (List FA×V),H a=some (.dT vs)/\vs.map (·.1)=kvs.map (fun p=>p.1.map Sum.inl)/\aj K H ρ (kvs.map (·.2)) (vs.map (·.2))
 | .df kvs=>∃(o:Obj)(vs:List (List FA×V)),H a=some (.Qq o (.dT vs))/\vs.map (·.1)=kvs.map (fun p=>p.1.map Sum.inl)/\aj K H ρ (kvs.map (·.2)) (vs.map (·.2))
 | .Qx kvs=>∃(o:Obj)(vs:List (FA×V)),H a=some (.Qq o (.dK vs))/\kvs.map (·.1)=vs.map (·.1)/\aj K H ρ (kvs.map (·.2)) (vs.map (·.2))
structure gj(K:Frag)(ρ:Rg)(h:HI)(H:Hp):Prop where
 nd:ρ.v.Nodup
 len:ρ.v.length=h.length
 ob:∀(n:Nat) a o,ρ.v[n]?=some a->h[n]?=some o->ux K H ρ a o
 zt:∀a∈ρ.z,a∉ρ.v/\∃vs,H a=some (.lst vs)
theorem ux.ext{K:Frag}{H H':Hp}{ρ ρ':Rg}{a:Addr}{o:Ob}(x:Ext ρ ρ' H H')(e:H' a=H a)(h:ux K H ρ a o):ux K H' ρ' a o:=by
 cases o with
 | lst xs=>obtain⟨vs,h1,h2⟩:=h;exact⟨vs,e.trans h1,h2.ext x⟩
 | ins y fs=>obtain⟨C,dx,vs,h0,h1,h2,h3⟩:=h;exact⟨C,dx,vs,h0,e.trans h1,h2,h3.ext x⟩
 | dk kvs=>obtain⟨vs,h1,h2,h3⟩:=h;exact⟨vs,e.trans h1,h2,h3.ext x⟩
 | dt kvs=>obtain⟨vs,h1,h2,h3⟩:=h;exact⟨vs,e.trans h1,h2,h3.ext x⟩
 | df kvs=>obtain⟨o,vs,h1,h2,h3⟩:=h;exact⟨o,vs,e.trans h1,h2,h3.ext x⟩
 | Qx kvs=>obtain⟨o,vs,h1,h2,h3⟩:=h;exact⟨o,vs,e.trans h1,h2,h3.ext x⟩
theorem ux.some{K:Frag}{H:Hp}{ρ:Rg}{a:Addr}{o:Ob}(h:ux K H ρ a o):∃u,H a=some u:=by
 cases o with
 | lst xs=>obtain⟨vs,h1,_⟩:=h;exact⟨_,h1⟩
 | ins y fs=>obtain⟨C,dx,vs,_,h1,_⟩:=h;exact⟨_,h1⟩
 | dk kvs=>obtain⟨vs,h1,_⟩:=h;exact⟨_,h1⟩
 | dt kvs=>obtain⟨vs,h1,_⟩:=h;exact⟨_,h1⟩
 | df kvs=>obtain⟨o,vs,h1,_⟩:=h;exact⟨_,h1⟩
 | Qx kvs=>obtain⟨o,vs,h1,_⟩:=h;exact⟨_,h1⟩
section
variable{K:Frag}{H H':Hp}{ρ:Rg}{h:HI}
theorem gj.nil:gj K .nil [] H:=⟨nodup_nil,rfl,fun _ _ _ e=>by simp[Rg.nil]at e,fun _ h=>nomatch h⟩
theorem gj.tracked(S:gj K ρ h H){a:Addr}(ha:a∈ρ.v):∃u,H a=some u:=by
 obtain⟨n,hn⟩:=mem_iff_getElem?.mp ha;have hl:n<h.length:=by rw[<- S.len];exact(Df hn).1
 exact(S.ob n a _ hn (getElem?_eq_getElem hl)).some
theorem gj.out(S:gj K ρ h H){p:Addr}(hp:H p=none):ρ.no p:=by
 refine⟨fun ha=>?_,fun ha=>?_⟩
 · obtain⟨u,e⟩:=S.tracked ha;rw[hp]at e;cases e
 · obtain⟨_,u,e⟩:=S.zt p ha;rw[hp]at e;cases e
theorem gj.fresh(S:gj K ρ h H){p:Addr}{o:HO}(hp:H p=none):gj K ρ h (VA H p o):=
 ⟨S.nd,S.len,fun n a u e1 e2=>(S.ob n a u e1 e2).ext (Ext.fresh hp) (UA (fun z=>(S.out hp).1 (z ▸ mem_of_getElem? e1))),fun a ha=>by
  obtain⟨n,u,e⟩:=S.zt a ha;exact⟨n,u,by rw[UA (BC e hp)];exact e⟩⟩
theorem gj.own(S:gj K ρ h H){p:Addr}{o:HO}{u:Ob}(hp:H p=none)(hu:ux K (VA H p o) (ρ.add p) p u):gj K (ρ.add p) (h++[u]) (VA H p o):=by
 refine⟨?_,by simp only[Rg.add];rw[length_append,length_append,S.len];rfl,fun n a ob e1 e2=>?_,fun a ha=>?_⟩
 · simp only[Rg.add];rw[nodup_append];refine⟨S.nd,nodup_cons.mpr ⟨by simp,nodup_nil⟩,fun a ha b hb=>?_⟩;rw[mem_singleton.mp hb];intro z;exact(S.out hp).1 (z ▸ ha)
 · simp only[Rg.add]at e1;by_cases hn:n<h.length
   · rw[Ef hn]at e2;rw[Ef (by rw[S.len];exact hn)]at e1;exact(S.ob n a ob e1 e2).ext (Ext.own hp) (UA (fun z=>(S.out hp).1 (z ▸ mem_of_getElem? e1)))
   · have hn':h.length<=n:=Nat.not_lt.mp hn;rw[Jf hn']at e2;rw[Jf (by rw[S.len];exact hn'),S.len]at e1;cases hk:n-h.length with
     | zero=>rw[hk]at e1 e2;simp at e1 e2;subst e1 e2;exact hu
     | succ k=>rw[hk]at e2;simp at e2
 · obtain⟨n,u,e⟩:=S.zt a ha;refine⟨fun hm=>?_,u,by rw[UA (BC e hp)];exact e⟩;simp only[Rg.add]at hm;rcases mem_append.mp hm with hm | hm
   · exact n hm
   · rw[mem_singleton.mp hm,hp]at e;cases e
theorem gj.write(S:gj K ρ h H){n:Nat}{p:Addr}{o:HO}{u:Ob}(hn:ρ.v[n]?=some p)(nf:vQ H p)(hu:ux K (VA H p o) ρ p u):gj K ρ (h.set n u) (VA H p o):=by
 refine⟨S.nd,by rw[length_set];exact S.len,fun m a ob e1 e2=>?_,fun a ha=>?_⟩
 · by_cases hm:m=n
   · subst hm;rw[hn]at e1;cases e1;have hl:m<h.length:=by rw[<- S.len];exact(Df hn).1
     rw[getElem?_set_self hl]at e2;cases e2;exact hu
   · rw[getElem?_set_ne (Ne.symm hm)]at e2;refine(S.ob m a ob e1 e2).ext (Ext.write (mem_of_getElem? hn) nf) (UA fun z=>hm ?_);subst z;obtain⟨h1,q1⟩:=Df e1;obtain⟨h2,q2⟩:=Df hn;exact(getElem_inj S.nd).mp (q1.trans q2.symm)
 · obtain⟨m,w,e⟩:=S.zt a ha;exact⟨m,w,by rw[UA (fun z=>m (by rw[z];exact mem_of_getElem? hn))];exact e⟩
theorem gj.lst(S:gj K ρ h H){n:Nat}{a:Addr}{xs:List Dt}(hn:ρ.v[n]?=some a)(e:h[n]?=some (.lst xs)):∃vs,H a=some (.lst vs)/\aj K H ρ xs vs:=S.ob n a _ hn e
end
structure Jj(K:Frag)(H:Hp)(ρ:Rg)(l:LI)(σ:L2.St):Prop where
 len:l.length=σ.length
 val:∀(i:Nat) d,l[i]?=some (some d)->∃v,σ[i]?=some (some v)/\cj K H ρ d v
theorem Jj.ext{K:Frag}{H H':Hp}{ρ ρ':Rg}{l:LI}{σ:L2.St}(L:Jj K H ρ l σ)(x:Ext ρ ρ' H H'):Jj K H' ρ' l σ:=
 ⟨L.len,fun i d e=>let ⟨v,e1,r⟩:=L.val i d e;⟨v,e1,cj.ext x d r⟩⟩
theorem Jj.set{K:Frag}{H:Hp}{ρ:Rg}{l:LI}{σ:L2.St}(L:Jj K H ρ l σ){d:Dt}{v:V}(i:Nat)(r:cj K H ρ d v):Jj K H ρ (l.set i (some d)) (σ.set i (some v)):=by
 refine⟨by rw[length_set,length_set];exact L.len,fun j d' e=>?_⟩;by_cases hj:j=i
 · subst hj;have hl:j<l.length:=by have:=(Df e).1;rwa[length_set]at this
   rw[getElem?_set_self hl]at e;cases e;exact⟨v,getElem?_set_self (by rw[<- L.len];exact hl),r⟩
 · rw[getElem?_set_ne (Ne.symm hj)]at e;rw[getElem?_set_ne (Ne.symm hj)];exact L.val j d' e
abbrev RE:=LI->HI->Option (Dt×HI)
abbrev RT:=LI->HI->Option (Bool×HI)
abbrev RA:=LI->HI->Option (List Dt×HI)
inductive Rs where
 | nx (l:LI) (h:HI) | rt (d:Dt) (h:HI) | bk (l:LI) (h:HI) | ct (l:LI) (h:HI)
abbrev RS:=LI->HI->Option Rs
abbrev RC:=Dt->Dt->HI->Option (Dt×HI)
abbrev kB:=List Dt->HI->Option (Dt×HI)
noncomputable def oB:Expr->Bool
 | .Starred _ _=>false
 | _=>true
theorem pB{e:Expr}(h:oB e=true)(es:List Expr)(env:Env):starEach (e::es) env=(false,eval e env)::starEach es env:=by cases e<;>first | rfl | (exact absurd h Gf)
theorem SH{pos:Pos}{env:Env}:∀{es:List Expr},es.all oB=true->(backTo pos (starEach es env)).any (·.1)=false
 | [],_=>rfl
 | e::es,h=>by rw[all_cons,Bool.and_eq_true]at h;have ih:=SH (pos:=pos) (env:=env) h.2;rw[pB h.1];unfold backTo at ih ⊢;simp only[Zr,any_cons,Bool.false_or];exact ih
theorem pJ{pos:Pos}{env:Env}{b:Expr}(h:oB b=true):((backTo pos (starEach [b] env)).all (fun x=>!x.1)&&(backToKw pos (keywordEach [] env)).all (fun x=>x.1.isSome)
 && decide ([b].length+([]:List Keyword).length+(if([]:List Keyword).isEmpty then 0 else 1)<30))=true:=by
 rw[pB h];rfl
def Out(K:Frag)(ρ:Rg)(H:Hp)(d:Dt)(h':HI)(Q:VK):Prop:=
 ∀ρ' v H',cj K H' ρ' d v->gj K ρ' h' H'->Ext ρ ρ' H H'->Q v H'
noncomputable def Hz(K:Frag)(ρ:Rg)(H:Hp)(h':HI)(Q:Hp->Prop):Prop:=
 ∀ρ' H',gj K ρ' h' H'->Ext ρ ρ' H H'->Q H'
def tM(K:Frag)(f:RE):TE:=fun σ H Q=>∃ρ l h d h',gj K ρ h H/\Jj K H ρ l σ/\f l h=some (d,h')/\Out K ρ H d h' Q
def ML(K:Frag)(f:RT):TT:=fun σ H Q=>∃ρ l h b h',gj K ρ h H/\Jj K H ρ l σ/\f l h=some (b,h')/\Hz K ρ H h' (Q b)
def IV(K:Frag)(f:RA):TA:=fun σ H Q=>∃ρ l h ds h',gj K ρ h H/\Jj K H ρ l σ/\f l h=some (ds,h')/\∀ρ' vs H',aj K H' ρ' ds vs->gj K ρ' h' H'->Ext ρ ρ' H H'->Q vs H'
def rM(K:Frag)(op:RC):R2:=fun x y H Q=>∃ρ h d1 d2 d h',gj K ρ h H/\cj K H ρ d1 x/\cj K H ρ d2 y/\op d1 d2 h=some (d,h')/\Out K ρ H d h' Q
def Jx(K:Frag)(ρ:Rg)(H:Hp)(D:oF):Rs->Prop
 | .nx l h=>∀ρ' σ' H',gj K ρ' h H'->Jj K H' ρ' l σ'->Ext ρ ρ' H H'->D.nx σ' H'
 | .bk l h=>∀ρ' σ' H',gj K ρ' h H'->Jj K H' ρ' l σ'->Ext ρ ρ' H H'->D.bk σ' H'
 | .ct l h=>∀ρ' σ' H',gj K ρ' h H'->Jj K H' ρ' l σ'->Ext ρ ρ' H H'->D.ct σ' H'
 | .rt d h=>Out K ρ H d h D.rt
def sM(K:Frag)(f:RS):TS:=fun D σ H=>∃ρ l h r,gj K ρ h H/\Jj K H ρ l σ/\f l h=some r/\Jx K ρ H D r
theorem Out.ext{K:Frag}{ρ ρ1:Rg}{H H1:Hp}{d:Dt}{h':HI}{Q:VK}(k:Out K ρ H d h' Q)(x:Ext ρ ρ1 H H1):Out K ρ1 H1 d h' Q:=fun ρ' v H' r s e=>k ρ' v H' r s (x.trans e)
theorem Hz.ext{K:Frag}{ρ ρ1:Rg}{H H1:Hp}{h':HI}{Q:Hp->Prop}(k:Hz K ρ H h' Q)(x:Ext ρ ρ1 H H1):Hz K ρ1 H1 h' Q:=fun ρ' H' s e=>k ρ' H' s (x.trans e)
theorem Jx.ext{K:Frag}{ρ ρ1:Rg}{H H1:Hp}{D:oF}{r:Rs}(k:Jx K ρ H D r)(x:Ext ρ ρ1 H H1):Jx K ρ1 H1 D r:=by
 cases r with
 | nx l h=>exact fun ρ' σ' H' s l e=>k ρ' σ' H' s l (x.trans e)
 | bk l h=>exact fun ρ' σ' H' s l e=>k ρ' σ' H' s l (x.trans e)
 | ct l h=>exact fun ρ' σ' H' s l e=>k ρ' σ' H' s l (x.trans e)
 | rt d h=>exact Out.ext k x
@[irreducible] def EM(X:Cx)(e:Expr)(f:RE):Prop:=PE X e (tM X.K f)
@[irreducible] def TM(X:Cx)(e:Expr)(f:RT):Prop:=PT X e (ML X.K f)
@[irreducible] def WM(X:Cx)(e:Expr)(f:RT):Prop:=PW X e (ML X.K f)
@[irreducible] def AM(X:Cx)(es:List Expr)(f:RA):Prop:=PA X es (IV X.K f)
@[irreducible] def OM(X:Cx)(f:Value->Value->Sem Value)(op:RC):Prop:=xq X f (rM X.K op)
@[irreducible] def ZM(X:Cx)(st:Stmt)(f:RS):Prop:=PS X st (sM X.K f)
@[irreducible] def sH(X:Cx)(st:List Stmt)(f:RS):Prop:=Ax X st (sM X.K f)
theorem PE.imp{X:Cx}{e:Expr}{t t':TE}(h:PE X e t)(i:∀σ H Q,t' σ H Q->t σ H Q):PE X e t':=fun pins s σ H Q I q=>h pins s σ H Q I (i σ H Q q)
theorem PT.imp{X:Cx}{e:Expr}{t t':TT}(h:PT X e t)(i:∀σ H Q,t' σ H Q->t σ H Q):PT X e t':=fun pins s σ H Q I q=>h pins s σ H Q I (i σ H Q q)
theorem PW.imp{X:Cx}{e:Expr}{t t':TT}(h:PW X e t)(i:∀σ H Q,t' σ H Q->t σ H Q):PW X e t':=fun wh pins s σ H Q I q=>h wh pins s σ H Q I (i σ H Q q)
theorem PA.imp{X:Cx}{e:List Expr}{t t':TA}(h:PA X e t)(i:∀σ H Q,t' σ H Q->t σ H Q):PA X e t':=fun pos pins s σ H Q I q=>h pos pins s σ H Q I (i σ H Q q)
theorem PS.imp{X:Cx}{e:Stmt}{t t':TS}(h:PS X e t)(i:∀D σ H,t' D σ H->t D σ H):PS X e t':=fun pins s σ H D I q=>h pins s σ H D I (i D σ H q)
theorem Ax.imp{X:Cx}{e:List Stmt}{t t':TS}(h:Ax X e t)(i:∀D σ H,t' D σ H->t D σ H):Ax X e t':=fun pins s σ H D I q=>h pins s σ H D I (i D σ H q)
theorem xq.imp{X:Cx}{f:Value->Value->Sem Value}{t t':R2}(h:xq X f t)(i:∀x y H Q,t' x y H Q->t x y H Q):xq X f t':=fun pins s σ H x y v u Q I r1 r2 q=>h pins s σ H x y v u Q I r1 r2 (i x y H Q q)
noncomputable def eC(d:Dt):RE:=fun _ h=>some (d,h)
noncomputable def eV(i:Nat):RE:=fun l h=>match l[i]? with | some (some d)=>some (d,h) | _=>none
noncomputable def e2(op:RC)(fa fb:RE):RE:=fun l h=>(fa l h).bind fun r=>(fb l r.2).bind fun q=>op r.1 q.1 q.2
noncomputable def jA:RA:=fun _ h=>some ([],h)
noncomputable def bA(f:RE)(g:RA):RA:=fun l h=>(f l h).bind fun r=>(g l r.2).bind fun q=>some (r.1::q.1,q.2)
section
variable{X:Cx}{a b c:Expr}{fa fb fc:RE}{pos:Pos}
theorem dA{i j pos}:EM X (.Constant (.int i) j pos) (eC (.int i)):=by with_unfolding_all exact PE.imp Z5 fun σ H Q zz=>by obtain⟨ρ,l,h,d,h',S,L,e,k⟩:=zz;cases e;exact k ρ _ H (dj.mpr rfl) S (Ext.refl _ _)
theorem QC{i j pos}:EM X (.Constant (.bool i) j pos) (eC (.bl i)):=by with_unfolding_all exact PE.imp T7 fun σ H Q zz=>by obtain⟨ρ,l,h,d,h',S,L,e,k⟩:=zz;cases e;exact k ρ _ H (fj.mpr rfl) S (Ext.refl _ _)
theorem MA{i j pos}:EM X (.Constant (.str i) j pos) (eC (.str i)):=by with_unfolding_all exact PE.imp k6 fun σ H Q zz=>by obtain⟨ρ,l,h,d,h',S,L,e,k⟩:=zz;cases e;exact k ρ _ H (kj.mpr rfl) S (Ext.refl _ _)
theorem ZH{j pos}:EM X (.Constant .none j pos) (eC .non):=by with_unfolding_all exact PE.imp b6 fun σ H Q zz=>by obtain⟨ρ,l,h,d,h',S,L,e,k⟩:=zz;cases e;exact k ρ _ H (zj.mpr rfl) S (Ext.refl _ _)
theorem aA (i:Nat) {x:Str} {pos:Pos} (hN:X.N[i]?=some x:=by rfl) (hv:IL X.env.scope x:=by first | exact Or.inl rfl | exact Or.inr (Or.inl rfl) | exact Or.inr (Or.inr rfl)) (hd:(x==("__debug__" :Str))=false:=by decide)
 (hcd:(x==("__classdict__" :Str))=false:=by decide):EM X (.Name x pos) (eV i):=by
 with_unfolding_all
  exact PE.imp (qL hN hv hd hcd) fun σ H Q zz=>by
   obtain⟨ρ,l,h,d,h',S,L,e,k⟩:=zz;unfold eV at e;split at e
   · rename_i d' q;cases e;obtain⟨v,e1,r⟩:=L.val i _ q;exact⟨v,e1,k ρ v H r S (Ext.refl _ _)⟩
   · cases e
theorem S0 {x:Str} {v:V} {u:Value} {d:Dt} {pos:Pos} (hg:Gl X x) (hm:X.mg x=some u) (r:RelV v u) (rd:∀H ρ,cj X.K H ρ d v) (hd:(x==("__debug__" :Str))=false:=by decide):EM X (.Name x pos) (eC d):=by with_unfolding_all exact PE.imp (N4 hg hm r hd) fun σ H Q zz=>by obtain⟨ρ,l,h,d',h',S,L,e,k⟩:=zz;cases e;exact k ρ v H (rd H ρ) S (Ext.refl _ _)
theorem kA{α β:Type}{o:Option α}{f:α->Option β}{b:β}(h:o.bind f=some b):∃a,o=some a/\f a=some b:=by
 cases o with
 | none=>cases h
 | some a=>exact⟨a,rfl,h⟩
theorem AA{op:Operator}{o:RC}(ho:OM X (binaryOp op) o)(ha:EM X a fa)(hb:EM X b fb):EM X (.BinOp a op b pos) (e2 o fa fb):=by
 with_unfolding_all
  exact PE.imp (V7 ho ha hb) fun σ H Q zz=>by
   obtain⟨ρ,l,h,d,h',S,L,e,k⟩:=zz;obtain⟨⟨d1,h1⟩,e1,e⟩:=kA e;obtain⟨⟨d2,h2⟩,e2,e⟩:=kA e;exact⟨ρ,l,h,d1,h1,S,L,e1,fun ρ1 x H1 R1 S1 E1=>⟨ρ1,l,h1,d2,h2,S1,L.ext E1,e2,fun ρ2 y H2 R2 S2 E2=>
    ⟨ρ2,h2,d1,d2,d,h',S2,cj.ext E2 _ R1,R2,e,k.ext (E1.trans E2)⟩⟩⟩
theorem EF{op:CmpOp}{o:RC}(ho:OM X (compareOp op) o)(ha:EM X a fa)(hb:EM X b fb)(hm:behindInMarks op b=false:=by first | exact hU _ | with_unfolding_all rfl):EM X (.Compare a [op] [b] pos) (e2 o fa fb):=by
 with_unfolding_all
  exact PE.imp (K4 ho ha hb hm) fun σ H Q zz=>by
   obtain⟨ρ,l,h,d,h',S,L,e,k⟩:=zz;obtain⟨⟨d1,h1⟩,e1,e⟩:=kA e;obtain⟨⟨d2,h2⟩,e2,e⟩:=kA e;exact⟨ρ,l,h,d1,h1,S,L,e1,fun ρ1 x H1 R1 S1 E1=>⟨ρ1,l,h1,d2,h2,S1,L.ext E1,e2,fun ρ2 y H2 R2 S2 E2=>
    ⟨ρ2,h2,d1,d2,d,h',S2,cj.ext E2 _ R1,R2,e,k.ext (E1.trans E2)⟩⟩⟩
noncomputable def Gj(f:RE):RT:=fun l h=>(f l h).bind fun r=>match r.1 with | .bl b=>some (b,r.2) | _=>none
theorem iB{op:CmpOp}{o:RC}(ho:OM X (compareOp op) o)(ha:EM X a fa)(hb:EM X b fb)(hm:behindInMarks op b=false:=by first | exact hU _ | with_unfolding_all rfl):TM X (.Compare a [op] [b] pos) (Gj (e2 o fa fb)):=by
 with_unfolding_all
  exact PT.imp (l5 ho ha hb hm) fun σ H Q zz=>by
   obtain⟨ρ,l,h,bb,h',S,L,e,k⟩:=zz;obtain⟨⟨d,h3⟩,e0,e⟩:=kA e;obtain⟨⟨d1,h1⟩,e1,e0⟩:=kA e0;obtain⟨⟨d2,h2⟩,e2,e0⟩:=kA e0;refine⟨ρ,l,h,d1,h1,S,L,e1,fun ρ1 x H1 R1 S1 E1=>⟨ρ1,l,h1,d2,h2,S1,L.ext E1,e2,fun ρ2 y H2 R2 S2 E2=>
    ⟨ρ2,h2,d1,d2,d,h3,S2,cj.ext E2 _ R1,R2,e0,fun ρ3 v H3 R3 S3 E3=>?_⟩⟩⟩
   cases d with
   | bl q=>cases e;exact⟨bb,fj.mp R3,k ρ3 H3 S3 (E1.trans (E2.trans E3))⟩
   | _=>cases e
theorem KC{e:Expr}{f:RE}(h:EM X e f)(he:∀whole,isTrue e X.env whole=(do let v <- whole;standAt e.pos;holding [v] (truthy v)):=by intro _;rfl):TM X e (Gj f):=by
 with_unfolding_all
  exact PT.imp (F6 h he) fun σ H Q zz=>by
   obtain⟨ρ,l,h,bb,h',S,L,e,k⟩:=zz;obtain⟨⟨d,h3⟩,e0,e⟩:=kA e;refine⟨ρ,l,h,d,h3,S,L,e0,fun ρ3 v H3 R3 S3 E3=>?_⟩;cases d with
   | bl q=>cases e;exact⟨bb,fj.mp R3,k ρ3 H3 S3 E3⟩
   | _=>cases e
noncomputable def iG(o o':RC)(fa fb fc:RE):RE:=fun l h=>(fa l h).bind fun r=>(fb l r.2).bind fun q=>(o r.1 q.1 q.2).bind fun z=>match z.1 with
 | .bl true=>(fc l z.2).bind fun y=>o' q.1 y.1 y.2
 | .bl false=>some (.bl false,z.2)
 | _=>none
theorem nX{r r':RC}{σ:L2.St}{H:Hp}{Q:VK}(h:tM X.K (iG r r' fa fb fc) σ H Q):eU (rM X.K r) (rM X.K r') (tM X.K fa) (tM X.K fb) (tM X.K fc) σ H Q:=by
 obtain⟨ρ,l,h,d,h',S,L,e,k⟩:=h;obtain⟨⟨d1,h1⟩,e1,e⟩:=kA e;obtain⟨⟨d2,h2⟩,e2,e⟩:=kA e;obtain⟨⟨d3,h3⟩,e3,e⟩:=kA e;refine⟨ρ,l,h,d1,h1,S,L,e1,fun ρ1 x H1 R1 S1 E1=>⟨ρ1,l,h1,d2,h2,S1,L.ext E1,e2,fun ρ2 y H2 R2 S2 E2=>
  ⟨ρ2,h2,d1,d2,d3,h3,S2,cj.ext E2 _ R1,R2,e3,fun ρ3 v H3 R3 S3 E3=>?_⟩⟩⟩
 cases d3 with
 | bl q=>
  refine⟨q,fj.mp R3,?_⟩;cases q with
  | true=>dsimp only at e;obtain⟨⟨d4,h4⟩,e4,e⟩:=kA e;refine yE ⟨ρ3,l,h3,d4,h4,S3,(L.ext (E1.trans (E2.trans E3))),e4,fun ρ4 u H4 R4 S4 E4=>⟨ρ4,h4,d2,d4,d,h',S4,cj.ext (E3.trans E4) _ R2,R4,e,k.ext (E1.trans (E2.trans (E3.trans E4)))⟩⟩
  | false=>cases e;exact xE (k ρ3 _ H3 (fj.mpr rfl) S3 (E1.trans (E2.trans E3)))
 | _=>cases e
theorem OK{op op':CmpOp}{r r':RC}(ho:OM X (compareOp op) r)(ho':OM X (compareOp op') r')(ha:EM X a fa)(hb:EM X b fb)(hc:EM X c fc)
 (hm:lastMarks [op,op'] [b,c]=false:=by with_unfolding_all rfl):EM X (.Compare a [op,op'] [b,c] pos) (iG r r' fa fb fc):=by
 with_unfolding_all exact PE.imp (nZ ho ho' ha hb hc hm) fun _ _ _ h=>nX h
noncomputable def jI(t u:RT):RT:=fun l h=>(t l h).bind fun r=>if r.1=true then u l r.2 else some (false,r.2)
noncomputable def JD(t u:RT):RT:=fun l h=>(t l h).bind fun r=>if r.1=true then some (true,r.2)else u l r.2
noncomputable def EC(t:RT):RT:=fun l h=>(t l h).bind fun r=>some (!r.1,r.2)
variable{tA wg:RT}{rest:List Expr}
theorem WM.tm{e:Expr}{f:RT}(h:WM X e f):TM X e f:=by with_unfolding_all exact PW.pt h
theorem qP(ha:TM X a tA):WM X (.BoolOp .And [a] pos) tA:=by with_unfolding_all exact t5 ha
theorem dH(ha:TM X a tA):WM X (.BoolOp .Or [a] pos) tA:=by with_unfolding_all exact J6 ha
theorem KP(ha:TM X a tA)(hb:WM X (.BoolOp .And (b::rest) pos) wg):WM X (.BoolOp .And (a::b::rest) pos) (jI tA wg):=by
 with_unfolding_all
  exact PW.imp (G6 ha hb) fun σ H Q zz=>by
   obtain⟨ρ,l,h,bb,h',S,L,e,k⟩:=zz;obtain⟨⟨b1,h1⟩,e1,e⟩:=kA e;refine⟨ρ,l,h,b1,h1,S,L,e1,fun ρ1 H1 S1 E1=>?_⟩;cases b1 with
   | true=>rw[if_pos rfl]at e;exact yE ⟨ρ1,l,h1,bb,h',S1,L.ext E1,e,k.ext E1⟩
   | false=>rw[if_neg Gf]at e;cases e;exact xE (k ρ1 H1 S1 E1)
theorem IE(ha:TM X a tA)(hb:WM X (.BoolOp .Or (b::rest) pos) wg):WM X (.BoolOp .Or (a::b::rest) pos) (JD tA wg):=by
 with_unfolding_all
  exact PW.imp (Y7 ha hb) fun σ H Q zz=>by
   obtain⟨ρ,l,h,bb,h',S,L,e,k⟩:=zz;obtain⟨⟨b1,h1⟩,e1,e⟩:=kA e;refine⟨ρ,l,h,b1,h1,S,L,e1,fun ρ1 H1 S1 E1=>?_⟩;cases b1 with
   | true=>rw[if_pos rfl]at e;cases e;exact yE (k ρ1 H1 S1 E1)
   | false=>rw[if_neg Gf]at e;exact xE ⟨ρ1,l,h1,bb,h',S1,L.ext E1,e,k.ext E1⟩
theorem HD(ha:TM X a tA):TM X (.UnaryOp .Not a pos) (EC tA):=by with_unfolding_all exact PT.imp (D6 ha) fun σ H Q zz=>by obtain⟨ρ,l,h,bb,h',S,L,e,k⟩:=zz;obtain⟨⟨b1,h1⟩,e1,e⟩:=kA e;cases e;exact⟨ρ,l,h,b1,h1,S,L,e1,fun ρ1 H1 S1 E1=>k ρ1 H1 S1 E1⟩
noncomputable def DH(t u:RE):RE:=fun l h=>(t l h).bind fun r=>match r.1 with | .bl true=>u l r.2 | .bl false=>some (.bl false,r.2) | _=>none
noncomputable def OL(t u:RE):RE:=fun l h=>(t l h).bind fun r=>match r.1 with | .bl true=>some (.bl true,r.2) | .bl false=>u l r.2 | _=>none
noncomputable def xG(t:RE):RE:=fun l h=>(t l h).bind fun r=>match r.1 with | .bl b=>some (.bl (!b),r.2) | _=>none
theorem VG{op}(h:EM X a fa):EM X (.BoolOp op [a] pos) fa:=by with_unfolding_all exact i6 h
theorem xP(ha:EM X a fa)(hb:EM X (.BoolOp .And (b::rest) pos) fb):EM X (.BoolOp .And (a::b::rest) pos) (DH fa fb):=by
 with_unfolding_all
  exact PE.imp (X5 ha hb) fun σ H Q zz=>by
   obtain⟨ρ,l,h,d,h',S,L,e,k⟩:=zz;obtain⟨⟨d1,h1⟩,e1,e⟩:=kA e;refine⟨ρ,l,h,d1,h1,S,L,e1,fun ρ1 v H1 R1 S1 E1=>?_⟩;cases d1 with
   | bl q=>
    refine⟨q,fj.mp R1,?_⟩;cases q with
    | true=>exact yE ⟨ρ1,l,h1,d,h',S1,L.ext E1,e,k.ext E1⟩
    | false=>cases e;exact xE (k ρ1 _ H1 (fj.mpr rfl) S1 E1)
   | _=>cases e
theorem uL(ha:EM X a fa)(hb:EM X (.BoolOp .Or (b::rest) pos) fb):EM X (.BoolOp .Or (a::b::rest) pos) (OL fa fb):=by
 with_unfolding_all
  exact PE.imp (W7 ha hb) fun σ H Q zz=>by
   obtain⟨ρ,l,h,d,h',S,L,e,k⟩:=zz;obtain⟨⟨d1,h1⟩,e1,e⟩:=kA e;refine⟨ρ,l,h,d1,h1,S,L,e1,fun ρ1 v H1 R1 S1 E1=>?_⟩;cases d1 with
   | bl q=>
    refine⟨q,fj.mp R1,?_⟩;cases q with
    | true=>cases e;exact yE (k ρ1 _ H1 (fj.mpr rfl) S1 E1)
    | false=>exact xE ⟨ρ1,l,h1,d,h',S1,L.ext E1,e,k.ext E1⟩
   | _=>cases e
theorem jL(ha:EM X a fa):EM X (.UnaryOp .Not a pos) (xG fa):=by
 with_unfolding_all
  exact PE.imp (f6 ha) fun σ H Q zz=>by
   obtain⟨ρ,l,h,d,h',S,L,e,k⟩:=zz;obtain⟨⟨d1,h1⟩,e1,e⟩:=kA e;refine⟨ρ,l,h,d1,h1,S,L,e1,fun ρ1 v H1 R1 S1 E1=>?_⟩;cases d1 with
   | bl q=>cases e;exact⟨q,fj.mp R1,k ρ1 _ H1 (fj.mpr rfl) S1 E1⟩
   | _=>cases e
noncomputable def RV(t:RT)(f g:RE):RE:=fun l h=>(t l h).bind fun r=>if r.1=true then f l r.2 else g l r.2
theorem M8{c:Expr}(hc:TM X c tA)(ha:EM X a fa)(hb:EM X b fb):EM X (.IfExp c a b pos) (RV tA fa fb):=by
 with_unfolding_all
  exact PE.imp (sZ hc ha hb) fun σ H Q zz=>by
   obtain⟨ρ,l,h,d,h',S,L,e,k⟩:=zz;obtain⟨⟨b1,h1⟩,e1,e⟩:=kA e;refine⟨ρ,l,h,b1,h1,S,L,e1,fun ρ1 H1 S1 E1=>?_⟩;cases b1 with
   | true=>rw[if_pos rfl]at e;exact yE ⟨ρ1,l,h1,d,h',S1,L.ext E1,e,k.ext E1⟩
   | false=>rw[if_neg Gf]at e;exact xE ⟨ρ1,l,h1,d,h',S1,L.ext E1,e,k.ext E1⟩
theorem rA:AM X [] jA:=by with_unfolding_all exact PA.imp tD fun σ H Q zz=>by obtain⟨ρ,l,h,ds,h',S,L,e,k⟩:=zz;cases e;exact k ρ [] H .nil S (Ext.refl _ _)
theorem cA{e:Expr}{es:List Expr}{f:RE}{g:RA}(ha:EM X e f)(hr:AM X es g)(hs:oB e=true:=by rfl):AM X (e::es) (bA f g):=by with_unfolding_all exact PA.imp (FC ha hr (pB hs es X.env)) fun σ H Q zz=>by obtain⟨ρ,l,h,ds,h',S,L,e,k⟩:=zz;obtain⟨⟨d1,h1⟩,e1,e⟩:=kA e;obtain⟨⟨Zh,h2⟩,e2,e⟩:=kA e;cases e;exact⟨ρ,l,h,d1,h1,S,L,e1,fun ρ1 x H1 R1 S1 E1=>⟨ρ1,l,h1,Zh,h2,S1,L.ext E1,e2,fun ρ2 xs H2 R2 S2 E2=>k ρ2 _ H2 (.cons (cj.ext E2 _ R1) R2) S2 (E1.trans E2)⟩⟩
noncomputable def mB(g:RA):RE:=fun l h=>(g l h).bind fun r=>if r.1.length<=sizeLine then some (.tup r.1,r.2)else none
noncomputable def eD(g:RA):RE:=fun l h=>(g l h).bind fun r=>if r.1.length<=sizeLine then some (.lst r.1,r.2)else none
noncomputable def vH(g:RA):RE:=fun l h=>(g l h).bind fun r=>if r.1.length<=sizeLine then some (.ref r.2.length,r.2++[.lst r.1])else none
theorem tP{K:Frag}{H:Hp}{ρ:Rg}{h:HI}{ds:List Dt}{vs:List V}{p:Addr}(S:gj K ρ h H)(R:aj K H ρ ds vs)(hp:H p=none):cj K (VA H p (.tup vs)) ρ (.tup ds) (.ref p):=
 Bj.mpr ⟨p,vs,rfl,.inl ⟨S.out hp,.inl KB⟩,R.ext (Ext.fresh hp)⟩
theorem DJ{K:Frag}{H:Hp}{ρ:Rg}{h:HI}{ds:List Dt}{vs:List V}{p:Addr}(S:gj K ρ h H)(R:aj K H ρ ds vs)(hp:H p=none):cj K (VA H p (.lst vs)) ρ (.lst ds) (.ref p):=
 mj.mpr ⟨p,vs,rfl,.inl ⟨S.out hp,.inl KB⟩,R.ext (Ext.fresh hp)⟩
theorem gI{K:Frag}{H:Hp}{ρ:Rg}{h:HI}{ds:List Dt}{vs:List V}{p:Addr}(S:gj K ρ h H)(R:aj K H ρ ds vs)(hp:H p=none) :
 cj K (VA H p (.lst vs)) (ρ.add p) (.ref h.length) (.ref p)/\gj K (ρ.add p) (h++[.lst ds]) (VA H p (.lst vs)):=by
 refine⟨wj.mpr ⟨p,rfl,?_⟩,S.own hp ⟨vs,KB,R.ext (Ext.own hp)⟩⟩;simp only[Rg.add];rw[<- S.len,Jf (Hf _),Nat.sub_self];rfl
theorem ME{α:Type}{c:Prop}[Decidable c]{a b:α}(h:(if c then some a else none)=some b):c/\a=b:=by
 by_cases hc:c
 · rw[if_pos hc]at h;exact⟨hc,Option.some.inj h⟩
 · rw[if_neg hc]at h;cases h
theorem TB{es:List Expr}{g:RA}{x1}(h:AM X es g):EM X (.Tuple es x1 pos) (mB g):=by with_unfolding_all exact PE.imp (m6 h) fun σ H Q zz=>by obtain⟨ρ,l,h,d,h',S,L,e,k⟩:=zz;obtain⟨⟨ds,h1⟩,e1,e⟩:=kA e;obtain⟨hz,e⟩:=ME e;cases e;exact⟨ρ,l,h,ds,h1,S,L,e1,fun ρ1 vs H1 R1 S1 E1=>⟨by rw[R1.length];exact hz,fun p hp=>k ρ1 _ _ (tP S1 R1 hp) (S1.fresh hp) (E1.trans (Ext.fresh hp))⟩⟩
theorem FE{es:List Expr}{g:RA}(h:AM X es g):EM X (.List es pos) (eD g):=by with_unfolding_all exact PE.imp (jU h) fun σ H Q zz=>by obtain⟨ρ,l,h,d,h',S,L,e,k⟩:=zz;obtain⟨⟨ds,h1⟩,e1,e⟩:=kA e;obtain⟨hz,e⟩:=ME e;cases e;exact⟨ρ,l,h,ds,h1,S,L,e1,fun ρ1 vs H1 R1 S1 E1=>⟨by rw[R1.length];exact hz,fun p hp=>k ρ1 _ _ (DJ S1 R1 hp) (S1.fresh hp) (E1.trans (Ext.fresh hp))⟩⟩
theorem iL{es:List Expr}{g:RA}(h:AM X es g):EM X (.List es pos) (vH g):=by with_unfolding_all exact PE.imp (jU h) fun σ H Q zz=>by obtain⟨ρ,l,h,d,h',S,L,e,k⟩:=zz;obtain⟨⟨ds,h1⟩,e1,e⟩:=kA e;obtain⟨hz,e⟩:=ME e;cases e;exact⟨ρ,l,h,ds,h1,S,L,e1,fun ρ1 vs H1 R1 S1 E1=>⟨by rw[R1.length];exact hz,fun p hp=>k _ _ _ (gI S1 R1 hp).1 (gI S1 R1 hp).2 (E1.trans (Ext.own hp))⟩⟩
end
noncomputable def oI(C:Int->Int->Prop)[∀i j,Decidable (C i j)](g:Int->Int->Dt):RC:=fun a b h=>match a,b with
 | .int i,.int j=>if C i j then some (g i j,h)else none
 | _,_=>none
noncomputable def jM(g:Int->Int->Dt):RC:=fun a b h=>match a,b with
 | .int i,.int j=>some (g i j,h)
 | _,_=>none
instance:∀i j,Decidable (zI i j):=fun i j=>by unfold zI;infer_instance
instance:∀i j,Decidable (Vx i j):=fun i j=>by unfold Vx;infer_instance
instance:∀i j,Decidable (AI i j):=fun i j=>by unfold AI;infer_instance
noncomputable def TC:Dt->Option V
 | .non=>some .non
 | .bl b=>some (.bl b)
 | .int i=>some (.int i)
 | .str x=>some (.str x)
 | _=>none
theorem mS{K:Frag}{H:Hp}{ρ:Rg}{d:Dt}{v:V}(e:TC d=some v):cj K H ρ d v:=by cases d<;>simp only[TC]at e<;>first | (cases e;simp only[cj]) | cases e
theorem RH{K:Frag}{H:Hp}{ρ:Rg}{d:Dt}{v u:V}(e:TC d=some v)(r:cj K H ρ d u):u=v:=by cases d<;>simp only[TC]at e<;>first | (cases e;simpa only[cj]using r) | cases e
section
variable{X:Cx}
theorem jK{f:Value->Value->Sem Value}{C:Int->Int->Prop}[∀i j,Decidable (C i j)]{g:Int->Int->Dt}{g':Int->Int->V}(ho:xq X f (rI C g'))(hg:∀i j,TC (g i j)=some (g' i j)):OM X f (oI C g):=by
 with_unfolding_all
  exact xq.imp ho fun x y H Q zz=>by
   obtain⟨ρ,h,d1,d2,d,h',S,R1,R2,e,k⟩:=zz;unfold oI at e;split at e
   · rename_i i j;obtain⟨hc,e⟩:=ME e;cases e;exact⟨i,j,dj.mp R1,dj.mp R2,hc,k ρ _ H (mS (hg i j)) S (Ext.refl _ _)⟩
   · cases e
theorem PJ{f:Value->Value->Sem Value}{g:Int->Int->Dt}{g':Int->Int->V}(ho:xq X f (LL g'))(hg:∀i j,TC (g i j)=some (g' i j)):OM X f (jM g):=by
 with_unfolding_all
  exact xq.imp ho fun x y H Q zz=>by
   obtain⟨ρ,h,d1,d2,d,h',S,R1,R2,e,k⟩:=zz;unfold jM at e;split at e
   · rename_i i j;cases e;exact⟨i,j,dj.mp R1,dj.mp R2,k ρ _ H (mS (hg i j)) S (Ext.refl _ _)⟩
   · cases e
def AD:RC:=jM fun i j=>.int (i+j)
def iK:RC:=jM fun i j=>.int (i-j)
def iE:RC:=oI Vx fun i j=>.int (i*j)
def yC:RC:=oI zI fun i j=>.int (i/j)
def nB:RC:=oI (fun _ j=>0<j) fun i j=>.int (i%j)
def fD:RC:=oI AI fun i j=>.int (i^j.toNat)
def JQ:RC:=jM fun i j=>.bl (decide (i<j))
def JE:RC:=jM fun i j=>.bl (decide (i<=j))
def IQ:RC:=jM fun i j=>.bl (decide (j<=i))
theorem ZD:OM X (binaryOp .Add) AD:=by with_unfolding_all exact PJ j7 fun _ _=>rfl
theorem iU:OM X (binaryOp .Sub) iK:=by with_unfolding_all exact PJ V5 fun _ _=>rfl
theorem GF:OM X (binaryOp .Mult) iE:=by with_unfolding_all exact jK o7 fun _ _=>rfl
theorem iD:OM X (binaryOp .FloorDiv) yC:=by with_unfolding_all exact jK P0 fun _ _=>rfl
theorem BB:OM X (binaryOp .Mod) nB:=by with_unfolding_all exact jK l7 fun _ _=>rfl
theorem cH:OM X (binaryOp .Pow) fD:=by with_unfolding_all exact jK t7 fun _ _=>rfl
theorem WP:OM X (compareOp .Lt) JQ:=by with_unfolding_all exact PJ R7 fun _ _=>rfl
theorem TD:OM X (compareOp .LtE) JE:=by with_unfolding_all exact PJ Q7 fun _ _=>rfl
theorem yU:OM X (compareOp .GtE) IQ:=by with_unfolding_all exact PJ P7 fun _ _=>rfl
def rV:RC:=fun a b h=>match TC a,TC b with
 | some x,some y=>if KI x y=true then some (.bl (decide (x=y)),h)else none
 | _,_=>none
def NU:RC:=fun a b h=>match TC a,TC b with
 | some x,some y=>if KI x y=true then some (.bl (!decide (x=y)),h)else none
 | _,_=>none
theorem M7:OM X (compareOp .Eq) rV:=by
 with_unfolding_all
  exact xq.imp O7 fun x y H Q zz=>by
   obtain⟨ρ,h,d1,d2,d,h',S,R1,R2,e,k⟩:=zz;unfold rV at e;split at e
   · rename_i u v e1 e2;obtain⟨hc,e⟩:=ME e;cases e;rw[RH e1 R1,RH e2 R2];exact⟨hc,k ρ _ H (fj.mpr rfl) S (Ext.refl _ _)⟩
   · cases e
theorem N7:OM X (compareOp .NotEq) NU:=by
 with_unfolding_all
  exact xq.imp S7 fun x y H Q zz=>by
   obtain⟨ρ,h,d1,d2,d,h',S,R1,R2,e,k⟩:=zz;unfold NU at e;split at e
   · rename_i u v e1 e2;obtain⟨hc,e⟩:=ME e;cases e;rw[RH e1 R1,RH e2 R2];exact⟨hc,k ρ _ H (fj.mpr rfl) S (Ext.refl _ _)⟩
   · cases e
noncomputable def jQ:Dt->Bool
 | .non=>true
 | _=>false
def CH:RC:=fun a b h=>match b with
 | .non=>some (.bl (jQ a),h)
 | _=>none
def OJ:RC:=fun a b h=>match b with
 | .non=>some (.bl (!jQ a),h)
 | _=>none
theorem yR{K:Frag}{H:Hp}{ρ:Rg}{d:Dt}{v:V}(r:cj K H ρ d v):decide (v=.non)=jQ d:=by
 cases d with
 | non=>have e:=zj.mp r;subst e;rfl
 | bl b=>have e:=fj.mp r;subst e;rfl
 | int i=>have e:=dj.mp r;subst e;rfl
 | str x=>have e:=kj.mp r;subst e;rfl
 | tup xs=>obtain⟨a,vs,e,_⟩:=Bj.mp r;subst e;rfl
 | lst xs=>obtain⟨a,vs,e,_⟩:=mj.mp r;subst e;rfl
 | ref n=>obtain⟨a,e,_⟩:=wj.mp r;subst e;rfl
 | qx n=>obtain⟨a,e,_⟩:=Xq.mp r;subst e;rfl
 | err n m k=>obtain⟨a,_,_,e,_⟩:=Yj.mp r;subst e;rfl
 | thr n m k=>exact(Gq.mp r).elim
theorem i7:OM X (compareOp .Is) CH:=by
 with_unfolding_all
  exact xq.imp k7 fun x y H Q zz=>by
   obtain⟨ρ,h,d1,d2,d,h',S,R1,R2,e,k⟩:=zz;unfold CH at e;split at e
   · cases e;exact⟨zj.mp R2,k ρ _ H (fj.mpr (by rw[yR R1])) S (Ext.refl _ _)⟩
   · cases e
theorem M0:OM X (compareOp .IsNot) OJ:=by
 with_unfolding_all
  exact xq.imp G4 fun x y H Q zz=>by
   obtain⟨ρ,h,d1,d2,d,h',S,R1,R2,e,k⟩:=zz;unfold OJ at e;split at e
   · cases e;exact⟨zj.mp R2,k ρ _ H (fj.mpr (by rw[yR R1])) S (Ext.refl _ _)⟩
   · cases e
noncomputable def OI(f:RE):RE:=fun l h=>(f l h).bind fun r=>match r.1 with | .int i=>some (.int (-i),r.2) | _=>none
theorem OT{a:Expr}{fa:RE}{pos:Pos}(ha:EM X a fa):EM X (.UnaryOp .USub a pos) (OI fa):=by
 with_unfolding_all
  exact PE.imp (X7 w8 ha) fun σ H Q zz=>by
   obtain⟨ρ,l,h,d,h',S,L,e,k⟩:=zz;obtain⟨⟨d1,h1⟩,e1,e⟩:=kA e;refine⟨ρ,l,h,d1,h1,S,L,e1,fun ρ1 x H1 R1 S1 E1=>?_⟩;cases d1 with
   | int i=>cases e;exact⟨i,dj.mp R1,k ρ1 _ H1 (dj.mpr rfl) S1 E1⟩
   | _=>cases e
end
noncomputable def lB(h:HI):Dt->Option (List Dt)
 | .lst xs=>some xs
 | .ref n=>match h[n]? with | some (.lst xs)=>some xs | _=>none
 | _=>none
def SE(h:HI):Dt->Option (List Dt)
 | .tup xs=>some xs
 | d=>lB h d
theorem dF{K:Frag}{H:Hp}{ρ:Rg}{h:HI}{d:Dt}{v:V}{xs:List Dt}(S:gj K ρ h H)(R:cj K H ρ d v)(e:lB h d=some xs):∃a vs,v=.ref a/\Wj K H a vs/\aj K H ρ xs vs:=by
 cases d with
 | lst ys=>cases e;obtain⟨a,vs,e,q,r⟩:=mj.mp R;exact⟨a,vs,e,q.sq,r⟩
 | ref n=>
  simp only[lB]at e;split at e
  · rename_i ys q;cases e;obtain⟨a,rfl,ha⟩:=wj.mp R;obtain⟨vs,h1,h2⟩:=S.lst ha q;exact⟨a,vs,rfl,Wj.of h1,h2⟩
  · cases e
 | _=>simp only[lB]at e<;>cases e
theorem gL{K:Frag}{H:Hp}{ρ:Rg}{h:HI}{d:Dt}{v:V}{xs:List Dt}(S:gj K ρ h H)(R:cj K H ρ d v)(e:SE h d=some xs):∃a vs,v=.ref a/\(Wj K H a vs\/xI K H a vs)/\aj K H ρ xs vs:=by
 cases d with
 | tup ys=>cases e;obtain⟨a,vs,e,q,r⟩:=Bj.mp R;exact⟨a,vs,e,.inr q.sq,r⟩
 | lst ys=>obtain⟨a,vs,e,q,r⟩:=dF S R (show lB h (.lst ys)=some xs from e);exact⟨a,vs,e,.inl q,r⟩
 | ref n=>obtain⟨a,vs,e,q,r⟩:=dF S R (show lB h (.ref n)=some xs from e);exact⟨a,vs,e,.inl q,r⟩
 | _=>cases e
theorem aj.Rq{K:Frag}{H:Hp}{ρ:Rg}{ds:List Dt}{vs:List V}{i:Int}{d:Dt}(r:aj K H ρ ds vs)(e:L2.Rq ds i=some d):∃v,L2.Rq vs i=some v/\cj K H ρ d v:=by
 unfold L2.Rq at e ⊢;rw[r.length];cases q:zH ds.length i with
 | none=>rw[q]at e;cases e
 | some j=>rw[q]at e;exact r.get e
def pA:RC:=fun a b h=>match b with
 | .int i=>match a with
  | .str z=>if z.length<=sizeLine then(L2.Rq z.cps.toList i).map fun c=>(.str ⟨#[c]⟩,h)else none
  | _=>(SE h a).bind fun xs=>(L2.Rq xs i).map fun d=>(d,h)
 | _=>none
section
variable{X:Cx}{a b c:Expr}{fa fb fc:RE}{pos:Pos}
theorem Z1{x y:V}{H:Hp}{Q:VK}(h:rM X.K pA x y H Q):i9 X.K x y H Q:=by
 obtain⟨ρ,h,d1,d2,d,h',S,R1,R2,e,k⟩:=h;unfold pA at e;split at e
 · rename_i i;have ei:=dj.mp R2;split at e
   · rename_i z;split at e
     · rename_i hz;cases q:L2.Rq z.cps.toList i with
       | none=>rw[q]at e;cases e
       | some c=>rw[q]at e;cases e;exact .inr (.inr ⟨z,i,c,kj.mp R1,ei,hz,q,k ρ _ H (kj.mpr rfl) S (Ext.refl _ _)⟩)
     · cases e
   · obtain⟨xs,e1,e⟩:=kA e;cases q:L2.Rq xs i with
     | none=>rw[q]at e;cases e
     | some u=>
      rw[q]at e;cases e;obtain⟨p,vs,e2,sq,r⟩:=gL S R1 e1;obtain⟨v,q1,q2⟩:=r.Rq q;rcases sq with sq | sq
      · exact .inl ⟨p,vs,i,v,e2,ei,sq,q1,k ρ _ H q2 S (Ext.refl _ _)⟩
      · exact .inr (.inl ⟨p,vs,i,v,e2,ei,sq,q1,k ρ _ H q2 S (Ext.refl _ _)⟩)
 · cases e
theorem oA(ha:EM X a fa)(hb:EM X b fb)(hs:VS b:=by intro _ _;rfl):EM X (.Subscript a b pos) (e2 pA fa fb):=by
 with_unfolding_all
  exact PE.imp (U7 N6 ha hb hs) fun σ H Q zz=>by
   obtain⟨ρ,l,h,d,h',S,L,e,k⟩:=zz;obtain⟨⟨d1,h1⟩,e1,e⟩:=kA e;obtain⟨⟨d2,h2⟩,e2,e⟩:=kA e;exact⟨ρ,l,h,d1,h1,S,L,e1,fun ρ1 x H1 R1 S1 E1=>⟨ρ1,l,h1,d2,h2,S1,L.ext E1,e2,fun ρ2 y H2 R2 S2 E2=>
    Z1 ⟨ρ2,h2,d1,d2,d,h',S2,cj.ext E2 _ R1,R2,e,k.ext (E1.trans E2)⟩⟩⟩
end
noncomputable def NA:RS:=fun l h=>some (.nx l h)
noncomputable def lA(f g:RS):RS:=fun l h=>(f l h).bind fun r=>match r with | .nx l' h'=>g l' h' | r=>some r
noncomputable def SA(i:Nat)(f:RE):RS:=fun l h=>(f l h).bind fun r=>some (.nx (l.set i (some r.1)) r.2)
noncomputable def rD(f:RE):RS:=fun l h=>(f l h).bind fun r=>some (.nx l r.2)
noncomputable def BA(f:RE):RS:=fun l h=>(f l h).bind fun r=>some (.rt r.1 r.2)
noncomputable def zB(t:RT)(f g:RS):RS:=fun l h=>(t l h).bind fun r=>if r.1=true then f l r.2 else g l r.2
section
variable{X:Cx}{st:Stmt}{rest:List Stmt}{e:Expr}{f:RE}{t u:RS}{c:RT}{pos:Pos}
theorem ZA:sH X [] NA:=by with_unfolding_all exact Ax.imp b5 fun D σ H zz=>by obtain⟨ρ,l,h,r,S,L,e,k⟩:=zz;cases e;exact k ρ σ H S L (Ext.refl _ _)
theorem uA(h1:ZM X st t)(h2:sH X rest u):sH X (st::rest) (lA t u):=by
 with_unfolding_all
  exact Ax.imp (CO h1 h2) fun D σ H zz=>by
   obtain⟨ρ,l,h,r,S,L,e,k⟩:=zz;obtain⟨r1,e1,e⟩:=kA e;refine⟨ρ,l,h,r1,S,L,e1,?_⟩;cases r1 with
   | nx l' h'=>exact fun ρ' σ' H' S' L' E'=>⟨ρ',l',h',r,S',L',e,k.ext E'⟩
   | rt d h'=>cases e;exact k
   | bk l' h'=>cases e;exact k
   | ct l' h'=>cases e;exact k
theorem wA(h1:ZM X st t):sH X [st] t:=by with_unfolding_all exact cL h1
theorem CF(he:EM X e f)(hs:swapsWith e none pos.line X.env=pure false:=by rfl):ZM X (.Expr e pos) (rD f):=by with_unfolding_all exact PS.imp (zT he hs) fun D σ H zz=>by obtain⟨ρ,l,h,r,S,L,e,k⟩:=zz;obtain⟨⟨d1,h1⟩,e1,e⟩:=kA e;cases e;exact⟨ρ,l,h,d1,h1,S,L,e1,fun ρ1 v H1 R1 S1 E1=>k ρ1 σ H1 S1 (L.ext E1) E1⟩
theorem IA(he:EM X e f):ZM X (.Return (some e) pos) (BA f):=by with_unfolding_all exact PS.imp (B6 he) fun D σ H zz=>by obtain⟨ρ,l,h,r,S,L,e,k⟩:=zz;obtain⟨⟨d1,h1⟩,e1,e⟩:=kA e;cases e;exact⟨ρ,l,h,d1,h1,S,L,e1,k⟩
theorem cB{b:Expr}{ss ss':List Stmt}(hc:TM X b c)(ha:sH X ss t)(hb:sH X ss' u):ZM X (.If b ss ss' pos) (zB c t u):=by
 with_unfolding_all
  exact PS.imp (zU hc ha hb) fun D σ H zz=>by
   obtain⟨ρ,l,h,r,S,L,e,k⟩:=zz;obtain⟨⟨b1,h1⟩,e1,e⟩:=kA e;refine⟨ρ,l,h,b1,h1,S,L,e1,fun ρ1 H1 S1 E1=>?_⟩;cases b1 with
   | true=>rw[if_pos rfl]at e;exact yE ⟨ρ1,l,h1,r,S1,L.ext E1,e,k.ext E1⟩
   | false=>rw[if_neg Gf]at e;exact xE ⟨ρ1,l,h1,r,S1,L.ext E1,e,k.ext E1⟩
theorem vB(i:Nat){x:Str}{pos':Pos}(hN:X.N.Nodup)(he:EM X e f)(hi:X.N[i]?=some x:=by rfl)(hx:aK X.env.scope x:=by first | exact Or.inl rfl | exact Or.inr rfl)
 (hs:swapsWith e (some (.Name x pos')) pos.line X.env=pure false:=by rfl) (hf:X.fn x=true\/X.env.scope.names.lookup x=some .local:=by first | exact .inl rfl | exact .inr rfl | assumption) :
 ZM X (.Assign [.Name x pos'] e pos) (SA i f):=by
 with_unfolding_all exact PS.imp (LP hN hi hx he hs hf) fun D σ H zz=>by obtain⟨ρ,l,h,r,S,L,e,k⟩:=zz;obtain⟨⟨d1,h1⟩,e1,e⟩:=kA e;cases e;exact⟨ρ,l,h,d1,h1,S,L,e1,fun ρ1 v H1 R1 S1 E1=>k ρ1 _ H1 S1 ((L.ext E1).set i R1) E1⟩
end
inductive Src where
 | vals (xs:List Dt)
 | rf (n:Nat)
 | zp (a b:Dt)
 | it (n:Nat)
 | en (n:Nat)
def Src.at(s:Src)(h:HI)(i:Nat):Option (Option Dt):=match s with
 | .vals xs=>some xs[i]?
 | .rf n=>match h[n]? with | some (.lst xs)=>some xs[i]? | _=>none
 | .zp a b=>match lB h a,lB h b with
  | some xs,some ys=>some (match xs[i]?,ys[i]? with | some x,some y=>some (.tup [x,y]) | _,_=>none)
  | _,_=>none
 | .it n=>match h[n]? with | some (.df kvs)=>some (kvs[i]?.map fun p=>.tup [.tup (p.1.map Dt.int),p.2]) | _=>none
 | .en n=>match h[n]? with | some (.lst xs)=>some (xs[i]?.map fun x=>.tup [.int (i:Int),x]) | _=>none
def Src.fuel(s:Src)(h:HI):Nat:=match s with
 | .vals xs=>xs.length+1
 | .rf n=>match h[n]? with | some (.lst xs)=>xs.length+1 | _=>0
 | .zp a _=>match lB h a with | some xs=>xs.length+1 | _=>0
 | .it n=>match h[n]? with | some (.df kvs)=>kvs.length+1 | _=>0
 | .en n=>match h[n]? with | some (.lst xs)=>xs.length+1 | _=>0
abbrev RI:=LI->HI->Option (Src×HI)
def mU(K:Frag)(H:Hp)(ρ:Rg)(s:Src)(J:It):Prop:=
 ∀H2 ρ2 h2,Tj ρ ρ2 H H2->gj K ρ2 h2 H2->∀i:Nat,match s.at h2 i with
  | none=>True
  | some none=>J.stop i H2
  | some (some d)=>J.go i H2/\∀v H3,J.Tw i H2 v H3->cj K H3 ρ2 d v/\Ext ρ2 ρ2 H2 H3/\gj K ρ2 h2 H3
def iM(K:Frag)(g:RI):TI:=fun σ H R=>∃ρ l h s h',gj K ρ h H/\Jj K H ρ l σ/\g l h=some (s,h')/\∀ρ' J H',mU K H' ρ' s J->gj K ρ' h' H'->Ext ρ ρ' H H'->R J H'
@[irreducible] def IM(X:Cx)(tg iter:Expr)(g:RI):Prop:=PI X tg iter (iM X.K g)
theorem PI.imp{X:Cx}{tg e:Expr}{t t':TI}(h:PI X tg e t)(i:∀σ H Q,t' σ H Q->t σ H Q):PI X tg e t':=fun pins s σ H Q I q=>h pins s σ H Q I (i σ H Q q)
abbrev RG:=Dt->LI->Option LI
def gM(K:Frag)(g:RG):TG:=fun v σ H Q=>∃ρ l h d l',gj K ρ h H/\Jj K H ρ l σ/\cj K H ρ d v/\g d l=some l'/\∀σ',Jj K H ρ l' σ'->Q σ' H
@[irreducible] def GM(X:Cx)(tg:Expr)(g:RG):Prop:=PG X tg (gM X.K g)
theorem PG.imp{X:Cx}{e:Expr}{t t':TG}(h:PG X e t)(i:∀v σ H Q,t' v σ H Q->t v σ H Q):PG X e t':=fun pins s σ H v u Q I r q=>h pins s σ H v u Q I r (i v σ H Q q)
noncomputable def bB(i:Nat):RG:=fun d l=>some (l.set i (some d))
def xC(bd:RG)(body:RS)(s:Src):Nat->Nat->RS
 | 0,_,_,_=>none
 | k+1,i,l,h=>match s.at h i with
  | none=>none
  | some none=>some (.nx l h)
  | some (some d)=>(bd d l).bind fun l1=>(body l1 h).bind fun r=>match r with
   | .nx l' h'=>xC bd body s k (i+1) l' h'
   | .ct l' h'=>xC bd body s k (i+1) l' h'
   | .bk l' h'=>some (.nx l' h')
   | .rt d h'=>some (.rt d h')
def gD(g:RI)(bd:RG)(body:RS):RS:=fun l h=>(g l h).bind fun r=>xC bd body r.1 (r.1.fuel r.2) 0 l r.2
section
variable{X:Cx}{tg iter:Expr}{pos:Pos}
theorem JC(i:Nat){x:Str}{pos:Pos}(hN:X.N.Nodup)(hi:X.N[i]?=some x:=by rfl)(hx:aK X.env.scope x:=by first | exact Or.inl rfl | exact Or.inr rfl)
 (hf:X.fn x=true\/X.env.scope.names.lookup x=some .local:=by first | exact .inl rfl | exact .inr rfl | assumption):GM X (.Name x pos) (bB i):=by
 with_unfolding_all exact PG.imp (aP hN hi hx hf) fun v σ H Q zz=>by obtain⟨ρ,l,h,d,l',S,L,R,e,k⟩:=zz;cases e;exact k _ (L.set i R)
noncomputable def JL(f:RE):RI:=fun l h=>(f l h).bind fun r=>match r.1 with | .int j=>if -(2^62)<=j/\j<2^62 then some (.vals ((List.range j.toNat).map fun(k:Nat)=>Dt.int (k:Int)),r.2)else none | _=>none
noncomputable def KU(f g:RE):RI:=fun l h=>(f l h).bind fun r=>(g l r.2).bind fun q=>match r.1,q.1 with
 | .int i,.int j=>if -(2^62)<=i/\i<2^62/\-(2^62)<=j/\j<2^62 then some (.vals ((List.range (j-i).toNat).map fun(k:Nat)=>Dt.int (i+(k:Int))),q.2)else none | _,_=>none
theorem gJ {a:Expr} {f:RE} {p pos:Pos} (hg:Gl X "range") (hm:X.mg "range" =none) (ha:EM X a f) (hs:oB a=true:=by rfl) :
 IM X tg (.Call (.Name "range" p) [a] [] pos) (JL f):=by
 with_unfolding_all
  exact PI.imp (eZ hg hm (FC ha tD (pB hs _ _)) (pB hs _ _)) fun σ H R zz=>by
   obtain⟨ρ,l,h,s,h',S,L,e,k⟩:=zz;obtain⟨⟨d1,h1⟩,e1,e⟩:=kA e;refine⟨ρ,l,h,d1,h1,S,L,e1,fun ρ1 v H1 R1 S1 E1=>?_⟩;cases d1 with
   | int j=>
    obtain⟨⟨c1,c2⟩,e⟩:=ME e;cases e;refine⟨j,by rw[dj.mp R1],c1,c2,k ρ1 _ H1 (fun H2 ρ2 h2 E2 S2 i=>?_) S1 E1⟩;simp only[Src.at,getElem?_map];by_cases hi:i<j.toNat
    · rw[getElem?_range hi];refine⟨hi,fun v H3 q=>?_⟩;obtain⟨rfl,rfl⟩:=q;exact⟨dj.mpr (by simp),Ext.refl _ _,S2⟩
    · rw[getElem?_eq_none (by simpa using Nat.not_lt.mp hi)];exact Nat.not_lt.mp hi
   | _=>cases e
theorem aY {a b:Expr} {f g:RE} {p pos:Pos} (hg:Gl X "range") (hm:X.mg "range" =none) (ha:EM X a f) (hb:EM X b g) (hs:oB a=true:=by rfl) (hs2:oB b=true:=by rfl) :
 IM X tg (.Call (.Name "range" p) [a,b] [] pos) (KU f g):=by
 with_unfolding_all
  exact PI.imp (fZ hg hm (FC ha (FC hb tD (pB hs2 _ _)) (pB hs _ _)) (by rw[pB hs,pB hs2];rfl) (pB hs2 _ _)) fun σ H R zz=>by
   obtain⟨ρ,l,h,s,h',S,L,e,k⟩:=zz;obtain⟨⟨d1,h1⟩,e1,e⟩:=kA e;obtain⟨⟨d2,h2⟩,e2,e⟩:=kA e;refine⟨ρ,l,h,d1,h1,S,L,e1,fun ρ1 v H1 R1 S1 E1=>⟨ρ1,l,h1,d2,h2,S1,L.ext E1,e2,fun ρ2 u H2 R2 S2 E2=>?_⟩⟩;cases d1 with
   | int i=>
    cases d2 with
    | int j=>
     obtain⟨c,e⟩:=ME e;cases e;refine⟨i,j,by rw[dj.mp R1,dj.mp R2],c,k ρ2 _ H2 (fun H3 ρ3 h3 E3 S3 n=>?_) S2 (E1.trans E2)⟩;simp only[Src.at,getElem?_map];by_cases hi:n<(j-i).toNat
     · rw[getElem?_range hi];refine⟨hi,fun v H4 q=>?_⟩;obtain⟨rfl,rfl⟩:=q;exact⟨dj.mpr rfl,Ext.refl _ _,S3⟩
     · rw[getElem?_eq_none (by simpa using Nat.not_lt.mp hi)];exact Nat.not_lt.mp hi
    | _=>cases e
   | _=>cases e
noncomputable def EQ(f:RE):RI:=fun l h=>(f l h).bind fun r=>match r.1 with | .lst xs=>some (.vals xs,r.2) | .ref n=>some (.rf n,r.2) | _=>none
def UC(f:RE):RI:=fun l h=>(EQ f l h).bind fun r=>if 0<r.1.fuel r.2 then some r else none
theorem mE{a:Expr}{f:RE}(ha:EM X a f):IM X tg a (UC f):=by
 with_unfolding_all
  exact PI.imp (W4 ha) fun σ H R zz=>by
   obtain⟨ρ,l,h,s,h',S,L,e,k⟩:=zz;obtain⟨⟨s1,h1⟩,e,ez⟩:=kA e;obtain⟨hz,ez⟩:=ME ez;cases ez;obtain⟨⟨d1,h2⟩,e1,e⟩:=kA e;refine⟨ρ,l,h,d1,h2,S,L,e1,fun ρ1 v H1 R1 S1 E1=>?_⟩;cases d1 with
   | lst xs=>
    cases e;obtain⟨a,vs,rfl,q,r⟩:=mj.mp R1;refine⟨a,rfl,⟨vs,q.sq⟩,k ρ1 _ H1 (fun H2 ρ2 h2 E2 S2 i=>?_) S1 E1⟩;have q2:=q.same E2;have r2:=aj.same E2 _ r;simp only[Src.at];cases ei:xs[i]? with
    | none=>refine⟨vs,q2.sq,?_⟩;rw[r.length];exact getElem?_eq_none_iff.mp ei
    | some d=>obtain⟨v,g1,g2⟩:=r2.get ei;refine⟨⟨vs,v,q2.sq,g1⟩,fun u H3 y=>?_⟩;obtain⟨rfl,y⟩:=y;have y2:=y vs q2.sq;rw[g1]at y2;cases y2;exact⟨g2,Ext.refl _ _,S2⟩
   | ref n=>
    cases e;obtain⟨a,rfl,ha⟩:=wj.mp R1;simp only[Src.fuel]at hz;split at hz
    · rename_i xs q0;obtain⟨Fz,g0,_⟩:=S1.lst ha q0;refine⟨a,rfl,⟨Fz,Wj.of g0⟩,k ρ1 _ H1 (fun H2 ρ2 h2 E2 S2 i=>?_) S1 E1⟩;have ha2:=E2.ix _ _ ha;simp only[Src.at];split
      · trivial
      · rename_i y;split at y
        · rename_i ys q2;obtain⟨vs,g1,r⟩:=S2.lst ha2 q2;refine⟨vs,Wj.of g1,?_⟩;rw[r.length];exact getElem?_eq_none_iff.mp (Option.some.inj y)
        · cases y
      · rename_i d y;split at y
        · rename_i ys q2;obtain⟨vs,g1,r⟩:=S2.lst ha2 q2;obtain⟨v,z1,z2⟩:=r.get (Option.some.inj y);refine⟨⟨vs,v,Wj.of g1,z1⟩,fun u H3 y=>?_⟩;obtain⟨rfl,y⟩:=y;have y2:=y vs (Wj.of g1);rw[z1]at y2;cases y2;exact⟨z2,Ext.refl _ _,S2⟩
        · cases y
    · exact absurd hz (by omega)
   | _=>cases e
theorem LF{body:List Stmt}{g:RI}{bd:RG}{f:RS}(hp:PassesOwn (model X.prog X.w) X.A X.env X.xe)(hc:X.calm=true)(hi:IM X tg iter g)(hg:GM X tg bd)(hb:sH X body f)
 (hs:∀x,foldedSetIterable iter X.env x=pure x:=by intro _;rfl):ZM X (.For tg iter body [] pos) (gD g bd f):=by
 with_unfolding_all
  exact PS.imp (kU hp hc hi hg hb hs) fun D σ H zz=>by
   obtain⟨ρ,l,h,r,S,L,e,k⟩:=zz;obtain⟨⟨s,h1⟩,e1,e⟩:=kA e;refine⟨ρ,l,h,s,h1,S,L,e1,fun ρ1 J H1 ok S1 E1=>?_⟩;refine⟨fun i m σ' H'=>∃ρ' l' h',gj X.K ρ' h' H'/\Jj X.K H' ρ' l' σ'/\Ext ρ1 ρ' H1 H'/\xC bd f s m i l' h'=some r,⟨_,ρ1,l,h1,S1,L.ext E1,Ext.refl _ _,e⟩,?_⟩;rintro i m σ' H' ⟨ρ',l',h',S',L',E',e'⟩;cases m with
   | zero=>simp only[xC]at e';cases e'
   | succ m=>
    simp only[xC]at e';have ok':=ok H' ρ' h' E'.same S' i;cases q:s.at h' i with
    | none=>rw[q]at e';cases e'
    | some o=>
     rw[q]at e' ok';cases o with
     | none=>cases e';exact .inl ⟨ok',k ρ' σ' H' S' L' (E1.trans E')⟩
     | some d=>
      dsimp only at e';obtain⟨l1,b1,e'⟩:=kA e';obtain⟨r1,b2,e'⟩:=kA e';refine .inr ⟨ok'.1,fun σ2 H2=>∃m',m'<m+1/\∃ρ' l' h',gj X.K ρ' h' H2/\Jj X.K H2 ρ' l' σ2/\Ext ρ1 ρ' H1 H2/\xC bd f s m' (i+1) l' h'=some r,fun σ2 H2 q=>q,fun v H3 y=>?_⟩;obtain⟨R3,E3,S3⟩:=ok'.2 v H3 y;refine⟨ρ',l',h',d,l1,S3,L'.ext E3,R3,b1,fun σ4 L4=>⟨ρ',l1,h',r1,S3,L4,b2,?_⟩⟩;cases r1 with
      | nx l2 h2=>exact fun ρ5 σ5 H5 S5 L5 E5=>⟨m,Nat.lt_succ_self _,ρ5,l2,h2,S5,L5,E'.trans (E3.trans E5),e'⟩
      | ct l2 h2=>exact fun ρ5 σ5 H5 S5 L5 E5=>⟨m,Nat.lt_succ_self _,ρ5,l2,h2,S5,L5,E'.trans (E3.trans E5),e'⟩
      | bk l2 h2=>cases e';exact fun ρ5 σ5 H5 S5 L5 E5=>k ρ5 σ5 H5 S5 L5 (E1.trans (E'.trans (E3.trans E5)))
      | rt d2 h2=>cases e';exact fun ρ5 v5 H5 R5 S5 E5=>k ρ5 v5 H5 R5 S5 (E1.trans (E'.trans (E3.trans E5)))
end
noncomputable def FB(n N:Nat)(body:RS):kB:=fun ds h=>if ds.length=n then match body (ds.map some++List.replicate (N-n) none) h with
 | some (.rt d h')=>some (d,h')
 | some (.nx _ h')=>some (.non,h')
 | _=>none
 else none
def NI(K:Frag)(n:Nat)(F:kB):Sp:=fun vs H Q _=>∃ρ ds h d h',gj K ρ h H/\aj K H ρ ds vs/\ds.length=n/\F ds h=some (d,h')/\Out K ρ H d h' Q
section
variable{P:Program}{w:World}{K:Frag}{mg:Str->Option Value}{base:Heap}
theorem TH{H:Hp}{ρ:Rg}{N:List Str}{ds:List Dt}{vs:List V}(R:aj K H ρ ds vs):Jj K H ρ (ds.map some++List.replicate (N.length-ds.length) none) (L2.HE N vs):=by
 have hl:=R.length;refine⟨by simp[L2.HE,hl],fun i d e=>?_⟩;by_cases hi:i<ds.length
 · rw[Ef (by simpa using hi),getElem?_map]at e;cases q:ds[i]? with
   | none=>rw[q]at e;cases e
   | some d'=>rw[q]at e;cases e;obtain⟨v,g1,g2⟩:=R.get q;refine⟨v,?_,g2⟩;unfold L2.HE;rw[Ef (by simpa[hl]using hi),getElem?_map,g1];rfl
 · rw[Jf (by simpa using Nat.not_lt.mp hi),getElem?_replicate]at e;split at e<;>cases e
theorem vL{x qual:Str}{st:Stmt}{f:Addr}{fd:FuncData}{N ps:List Str}{k:Nat}{body:RS}(F:iz K x qual st f fd)(S:YA N ps (sA st))
 (hb:∀(cdv:Value)(A:Around)(outer:List Env)(s:Shared)(H:Hp)(E:XK),Hj k (A.deeper (envOfC qual (sA st) s.heap.objs.size f cdv))->
  sH (mC sE P w K mg base N qual (sA st) f cdv A outer s H E).Yx (LB st) body):Oj P w K mg base sE (k+1) f fd ps (NI K ps.length (FB ps.length N.length body)):=by
 with_unfolding_all
  refine F.ok S (fun vs H Q E h=>?_) (fun cdv A outer s H vs Q E hr h=>?_)
  · obtain⟨ρ,ds,h,d,h',S,R,hl,_⟩:=h;rw[R.length,hl]
  · obtain⟨ρ,ds,h,d,h',S,R,hl,e,k⟩:=h;refine⟨_,hb cdv A outer s H E hr,?_⟩;unfold FB at e;rw[if_pos hl]at e;rw[<- hl]at e;split at e
    · rename_i d1 h1 q;cases e;exact⟨ρ,_,h,_,S,TH R,q,k⟩
    · rename_i l1 h1 q;cases e;exact⟨ρ,_,h,_,S,TH R,q,fun ρ' σ' H' S' L' E'=>k ρ' _ H' (zj.mpr rfl) S' E'⟩
    · cases e
end
noncomputable def KA(F:kB)(Fv:List Dt)(g:RA):RE:=fun l h=>(g l h).bind fun r=>F (r.1++Fv) r.2
section
variable{X:Cx}{k n:Nat}{f:Addr}{fd:FuncData}{ps:List Str}{F:kB}{x:Str}{p pos:Pos}{e:Expr}{es:List Expr}{g:RA}{Pq:List V}{ds:List Value}{Fv:List Dt}
theorem wY(hF:Oj X.prog X.w X.K X.mg X.base sE k f fd ps (NI X.K n F))(hr:Hj k X.A)(hg:Gl X x)(hm:X.mg x=some (.ref f))(hk:keepIn X.K (.ref f)=true)(hb:Binds X.K fd ps ds)(hd:Vals Pq ds)(hdd:∀H ρ,aj X.K H ρ Fv Pq)
 (ha:AM X (e::es) g) (hn:∀(F':List Dt->HI->Option (Dt×HI)),F'=F->∀ds h r,F' ds h=some r->ds.length=n) (hdb:(x==("__debug__" :Str))=false:=by decide) (he:oB e=true:=by rfl) (hpl:es.all oB=true:=by rfl) :
 EM X (.Call (.Name x p) (e::es) [] pos) (KA F Fv g):=by
 with_unfolding_all exact PE.imp (J4 hF hr hg hm hk hb hd (E:=E0) zL ha hdb (pB he _ _) (SH hpl)) fun σ H Q zz=>by obtain⟨ρ,l,h,d,h',S,L,e,k⟩:=zz;obtain⟨⟨dg,h1⟩,e1,e⟩:=kA e;exact⟨ρ,l,h,dg,h1,S,L,e1,fun ρ1 vs H1 R1 S1 E1=>⟨ρ1,_,h1,d,h',S1,R1.append (hdd H1 ρ1),hn F rfl _ _ _ e,e,k.ext E1⟩⟩
theorem tJ{n N:Nat}{body:RS}{ds:List Dt}{h:HI}{r:Dt×HI}(e:FB n N body ds h=some r):ds.length=n:=by
 unfold FB at e;split at e
 · assumption
 · cases e
end
end SM
namespace L2
noncomputable def qD(cells:List (Str×Addr)):List (Str×NameKind)->List (Str×Addr)->Option (List (Str×Addr))
 | [],cs=>some cs
 | (n,k)::r,cs=>if k==.free then match cells.lookup n with
  | some a=>qD cells r ((n,a)::cs)
  | none=>none
  else qD cells r cs
theorem NO{env:Env}:∀{l:List (Str×NameKind)}{cs cl:List (Str×Addr)},qD env.cells l cs=some cl->
 (forIn l cs fun(x:Str×NameKind) (r:List (Str×Addr))=>if(x.2==NameKind.free)=true then(do let a <- cellOf env x.1;pure (ForInStep.yield ((x.1,a)::r)):Sem _)else pure (ForInStep.yield r))=pure cl
 | [],cs,cl,h=>by simp only[qD]at h;cases h;rfl
 | (n,k)::r,cs,cl,h=>by
  simp only[qD]at h;rw[forIn_cons];cases hk:k==NameKind.free with
  | true=>
   rw[hk,if_pos rfl]at h;cases hc:env.cells.lookup n with
   | none=>rw[hc]at h;cases h
   | some a=>
    rw[hc]at h;have ih:=NO (env:=env) h;simp only[hk,if_true];have e:cellOf env n=pure a:=by unfold cellOf;rw[hc]
    rw[e];simp only[pure_bind];exact ih
  | false=>rw[hk,if_neg (by decide)]at h;have ih:=NO (env:=env) h;simp only[hk,Lf,if_false,pure_bind];exact ih
theorem oR{scope:Scope}{env:Env}{cl:List (Str×Addr)}(h:qD env.cells scope.names []=some cl):closureFor scope env=pure cl:=by have e:=NO (env:=env) h;unfold closureFor;simp only[bind_pure];exact e
theorem SN{cells:List (Str×Addr)}:∀{l:List (Str×NameKind)}{cs cl:List (Str×Addr)},qD cells l cs=some cl->(∀x c,cs.lookup x=some c->cells.lookup x=some c)->
 (∀x c,cl.lookup x=some c->cells.lookup x=some c)/\(∀x c,cs.lookup x=some c->∃c',cl.lookup x=some c')/\∀n,(n,NameKind.free)∈l->∃c,cl.lookup n=some c
 | [],cs,cl,h,i=>by simp only[qD]at h;cases h;exact⟨i,fun x c e=>⟨c,e⟩,fun n hn=>nomatch hn⟩
 | (n,k)::r,cs,cl,h,i=>by
  simp only[qD]at h;cases hk:k==NameKind.free with
  | true=>
   rw[hk,if_pos rfl]at h;cases hc:cells.lookup n with
   | none=>rw[hc]at h;cases h
   | some a=>
    rw[hc]at h;have i':∀x c,((n,a)::cs).lookup x=some c->cells.lookup x=some c:=fun x c e=>by
     rw[lookup_cons]at e;cases hx:x==n with
     | true=>rw[hx]at e;cases e;rw[eq_of_beq hx];exact hc
     | false=>rw[hx]at e;exact i x c e
    obtain⟨h1,h2,h3⟩:=SN h i';refine⟨h1,fun x c e=>?_,fun m hm=>?_⟩
    · cases hx:x==n with
      | true=>exact h2 x a (by rw[lookup_cons,hx])
      | false=>exact h2 x c (by rw[lookup_cons,hx];exact e)
    · rcases mem_cons.mp hm with z | z
      · cases z;exact h2 _ a (by rw[lookup_cons,beq_self_eq_true])
      · exact h3 m z
  | false=>
   rw[hk,if_neg (by decide)]at h;obtain⟨h1,h2,h3⟩:=SN h i;refine⟨h1,h2,fun m hm=>?_⟩;rcases mem_cons.mp hm with z | z
   · cases z;cases hk
   · exact h3 m z
noncomputable def CB(X:Cx)(Nc:List Str)(scope:Scope)(cl:List (Str×Addr))(C:Addr)(s0:Shared)(H0:Hp)(fp:List Addr):Cx:=
 { X with N:=Nc,s₀:=s0,H₀:=H0,env:=compEnvC scope cl C X.env,outer:=X.stack,stack:=X.stack,ex:=fp,fn:=fun _=>false,pn:=[],xe:=fun _ _=>False }
theorem kR{env:Env}:∀{names:List (Str×NameKind)}{x:Str},(∀y∈names,y.2≠.cell)->
 ((names.map fun(n,k)=>if(k==NameKind.free&&env.scope.kind==.function&&env.kindOf n==some .cell)then(n,NameKind.cell)else(n,k)).lookup x=some .cell\/
  (names.map fun(n,k)=>if(k==NameKind.free&&env.scope.kind==.function&&env.kindOf n==some .cell)then(n,NameKind.cell)else(n,k)).lookup x=some .free)->(x,NameKind.free)∈names
 | [],_,_,h=>by simp at h
 | (n,k)::r,x,hc,h=>by
  have ih:=@kR env r x (fun y hy=>hc y (mem_cons_of_mem _ hy));have hk:k≠.cell:=hc (n,k) mem_cons_self;rw[Zr]at h;cases hx:x==n with
  | true=>
   have ex:=eq_of_beq hx;subst ex;by_cases hf:k=.free
   · subst hf;exact mem_cons_self
   · have hb:(k==NameKind.free)=false:=by simpa using hf
     simp only[hb,Bool.false_and,Lf,if_false,lookup_cons,beq_self_eq_true]at h;rcases h with h | h
     · exact absurd (Option.some.inj h) hk
     · exact absurd (Option.some.inj h) hf
  | false=>
   refine mem_cons_of_mem _ (ih ?_);by_cases hq:(k==NameKind.free&&env.scope.kind==.function&&env.kindOf n==some .cell)=true
   · simp only[hq,if_true,lookup_cons,hx]at h;exact h
   · rw[Bool.not_eq_true]at hq;simp only[hq,Lf,if_false,lookup_cons,hx]at h;exact h
noncomputable def Rj(X:Cx)(scope:Scope)(cl:List (Str×Addr)):List Str->List (Option Nat)->Prop
 | [],[]=>True
 | _::N,none::cs=>Rj X scope cl N cs
 | x::N,some j::cs=>(X.N[j]?=some x/\(X.env.kindOf x=some .cell\/X.env.kindOf x=some .free)/\((relabel scope X.env).names.lookup x=some .cell\/(relabel scope X.env).names.lookup x=some .free)/\
  cl.lookup x=X.env.cells.lookup x)/\Rj X scope cl N cs
 | _,_=>False
noncomputable def gF(σ:St)(cap:List (Option Nat)):St:=cap.map fun o=>match o with | some j=>(σ[j]?).join | none=>none
theorem Rj.get{X:Cx}{scope:Scope}{cl:List (Str×Addr)}:∀{N:List Str}{cs:List (Option Nat)},Rj X scope cl N cs->∀{i j:Nat}{x:Str},N[i]?=some x->cs[i]?=some (some j)->
 X.N[j]?=some x/\(X.env.kindOf x=some .cell\/X.env.kindOf x=some .free)/\((relabel scope X.env).names.lookup x=some .cell\/(relabel scope X.env).names.lookup x=some .free)/\cl.lookup x=X.env.cells.lookup x
 | [],[],_,i,j,x,h,_=>by simp at h
 | y::N,none::cs,h,0,j,x,_,e=>by simp at e
 | y::N,none::cs,h,i+1,j,x,e1,e2=>Rj.get (N:=N) (cs:=cs) h (i:=i) (by simpa using e1) (by simpa using e2)
 | y::N,some k::cs,h,0,j,x,e1,e2=>by simp at e1 e2;subst e1 e2;exact h.1
 | y::N,some k::cs,h,i+1,j,x,e1,e2=>Rj.get (N:=N) (cs:=cs) h.2 (i:=i) (by simpa using e1) (by simpa using e2)
 | [],_::_,h,_,_,_,_,_=>h.elim
 | _::_,[],h,_,_,_,_,_=>h.elim
theorem Rj.length{X:Cx}{scope:Scope}{cl:List (Str×Addr)}:∀{N:List Str}{cs:List (Option Nat)},Rj X scope cl N cs->cs.length=N.length
 | [],[],_=>rfl
 | y::N,none::cs,h=>by rw[Xr,Xr,Rj.length (N:=N) (cs:=cs) h]
 | y::N,some k::cs,h=>by rw[Xr,Xr,Rj.length (N:=N) (cs:=cs) h.2]
 | [],_::_,h=>h.elim
 | _::_,[],h=>h.elim
def qH(X:Cx)(ifs:List Expr)(t:TT):Prop:=
 ∀(pins:List (Addr×Obj))(s:Shared)(σ:St)(H:Hp)(Q:Bool->Hp->Prop),Inv X pins σ H s->t σ H Q->
  wpAny (model X.prog X.w) X.A (forIn ifs true fun c r=>if r=true then do let ok <- isTrue c X.env (eval c X.env);pure (ForInStep.yield ok)else pure (ForInStep.yield r)) (TP X pins σ Q) X.xe s
theorem wZ{X:Cx}:qH X [] (fun _ H Q=>Q true H):=fun _ _ _ H _ I q=>wpAny_tests_nil ⟨H,I,q⟩
theorem xZ{X:Cx}{c:Expr}{t:TT}(h:PT X c t):qH X [c] t:=fun pins s σ H Q I q=>wpAny_tests_one (h pins s σ H Q I q)
def sQ(wi:TI)(g:TG)(tc:TT)(te:TE)(cap:List (Option Nat)):TE:=fun σ H Q=>wi σ H fun J H1=>∀D,H1 D=none->∃W:Nat->Nat->St->List V->Hp->Prop,
 (∃m,W 0 m (gF σ cap) [] (VA H1 D (.lst [])))/\∀i m σ' ys H',W i m σ' ys H'->
  (J.stop i H'/\Q (.ref D) H')\/(J.go i H'/\∀x H2,J.Tw i H' x H2->g x σ' H2 fun σ2 H3=>tc σ2 H3 fun b H4=>if b=true then te σ2 H4 fun y H5=>
   H5 D=some (.lst ys)/\ys.length<sizeLine/\∃m',m'<m/\W (i+1) m' σ2 (ys++[y]) (VA H5 D (.lst (ys++[y])))else ∃m',m'<m/\W (i+1) m' σ2 ys H4)
section
variable{prog:Program}{w:World}{A:Around}{R:Result->Shared->Prop}{s:Shared}
theorem SW{elt target iter:Expr}{ifs:List Expr}{scope:Scope}{pos:Pos}{it acc:Value}{env:Env}(I:Nat->Shared->Prop)
 (turn:∀n s,I n s->wpAny (model prog w) A (pyNext it) (fun r s₁=>match r with
  | none=>R (.ok .next) s₁
  | some v=>wpAny (model prog w) A (letOwnedTupleGo target it v) (fun _ s₁'=>wpAny (model prog w) A (assign target env v) (fun _ s₂=>
   wpAny (model prog w) A (forIn ifs true fun c r=>if r=true then do let ok <- isTrue c env (eval c env);pure (ForInStep.yield ok)else pure (ForInStep.yield r)) (fun ok s₃=>
    if ok=true then wpAny (model prog w) A (eval elt env) (fun x s₄=>
     wpAny (model prog w) A (call (.builtin "list.append") [acc,x]) (fun _ s₅=>∃m,m<n/\I m s₅) (fun _ _=>False) s₄) (fun _ _=>False) s₃
    else ∃m,m<n/\I m s₃) (fun _ _=>False) s₂) (fun _ _=>False) s₁') (fun _ _=>False) s₁) (fun _ _=>False) s)
 (n:Nat) (h:I n s):codeAny (model prog w) A (.compLoop (.ListComp elt [⟨target,iter,ifs,0⟩] scope pos) 0 it acc env) R s:=by
 refine codeAny_loop rfl I (fun n s hI=>?_) n h;show wpAny _ A ((compTurn (.ListComp elt [⟨target,iter,ifs,0⟩] scope pos) 0 it acc env).onRaise (fun x=>do noteFrame x env;theTreesLotGoes x)) _ _ s;refine wpAny_noted ?_;rw[compTurn_list];refine wpAny_bind (wpAny_standAt (wpAny_bind (wpAny_mono (turn n s hI) (fun r s₁ h₁=>?_) fun _ _ h'=>h'.elim)));cases r with
 | none=>exact wpAny_pure h₁
 | some v=>
  refine wpAny_bind (wpAny_mono h₁ (fun _ s₁' h₁'=>?_) fun _ _ h'=>h'.elim);refine wpAny_bind (wpAny_mono h₁' (fun _ s₂ h₂=>wpAny_bind (wpAny_mono h₂ (fun ok s₃ h₃=>?_) fun _ _ h'=>h'.elim)) fun _ _ h'=>h'.elim);cases ok with
  | false=>exact wpAny_pure ⟨rfl,h₃⟩
  | true=>exact wpAny_bind (wpAny_bind (wpAny_mono h₃ (fun x s₄ h₄=>wpAny_bind (wpAny_mono h₄ (fun _ s₅ h₅=>wpAny_pure (wpAny_pure ⟨rfl,h₅⟩)) fun _ _ h'=>h'.elim)) fun _ _ h'=>h'.elim))
end
section
variable{X:Cx}{elt iter tg:Expr}{ifs:List Expr}{scope:Scope}{cl:List (Str×Addr)}{pos:Pos}{Nc:List Str}{wi:TI}{g:TG}{tc:TT}{te:TE}{cap:List (Option Nat)}
theorem pR{pins:List (Addr×Obj)}{σ:St}{H:Hp}{s:Shared}{it:Addr}{fp:List Addr}{tn:Nat->Heap->Prop}{J:It}{Q:VK}{RR:Value->Addr->Result->Shared->Prop}{E:Value->Shared->Prop}
 (hc:X.calm=true) (hcl:qD X.env.cells scope.names []=some cl) (hcell:∀y∈scope.names,y.2≠.cell) (hkind:scope.kind=.function) (hcap:Rj X scope cl Nc cap)
 (hg:∀C s0 H0 fp,PG (CB X Nc scope cl C s0 H0 fp) tg g) (ht:∀C s0 H0 fp,qH (CB X Nc scope cl C s0 H0 fp) ifs tc) (he:∀C s0 H0 fp,PE (CB X Nc scope cl C s0 H0 fp) elt te)
 (I:Inv X pins σ H s) (T:rH X.prog X.w X.K tg J fp it tn) (st:tn 0 s.heap) (hf:∀b∈fp,eE X pins H b)
 (read:∀D,H D=none->∃W:Nat->Nat->St->List V->Hp->Prop,
  (∃m,W 0 m (gF σ cap) [] (VA H D (.lst [])))/\∀i m σ' ys H',W i m σ' ys H'->
   (J.stop i H'/\Q (.ref D) H')\/(J.go i H'/\∀x H2,J.Tw i H' x H2->g x σ' H2 fun σ2 H3=>tc σ2 H3 fun b H4=>if b=true then te σ2 H4 fun y H5=>
    H5 D=some (.lst ys)/\ys.length<sizeLine/\∃m',m'<m/\W (i+1) m' σ2 (ys++[y]) (VA H5 D (.lst (ys++[y])))else ∃m',m'<m/\W (i+1) m' σ2 ys H4))
 (hRR:∀(C D:Addr)(s':Shared)(H':Hp) m,Inv X pins σ H' s'->s'.heap.Ns C m->H' C=none->C≠X.env.locals->X.s₀.heap.objs.size<=C->(∀x c,X.env.cells.lookup x=some c->c≠C)->(∀p∈X.pn++pins,p.1≠C)->Q (.ref D) H'->RR (.ref D) C (.ok .next) s') :
 wpAny (model X.prog X.w) X.A (newList []) (fun acc s₃=>wpAny (model X.prog X.w) X.A (newFunctionEnv scope X.env.globals cl [] X.env.qual none .none (some X.env)) (fun cenv s₄=>
  codeAny (model X.prog X.w) X.A (.compStart (.ListComp elt [⟨tg,iter,ifs,0⟩] scope pos) 0 (.ref it) acc { cenv with scope:=relabel scope X.env }) (RR acc cenv.locals) s₄) E s₃) E s:=by
 obtain⟨sub,_,Gg⟩:=SN hcl (fun _ _ e=>by simp at e);refine wpAny_newObj_type (wpAny_newFunctionEnv hcell (by intro y hy;simp at hy) (fun h₁ hns₁ hsb₁=>?_) hkind);have hD:=I.fresh;have I3:Inv X pins σ (VA H s.heap.objs.size (.lst [])) { s with heap:=s.heap.push { cls:=.type "list",data:=.seq ([]:List Value).toArray } }:=I.Hw (ys:=[]) (its:=[]) (t':=s.toks) .nil (Nat.zero_le _);generalize hs3:({ s with heap:=s.heap.push { cls:=.type "list",data:=.seq ([]:List Value).toArray } }:Shared)=s3 at I3;generalize oh:VA H s.heap.objs.size (.lst [])=H3 at I3;have hh3:s3.heap=s.heap.push { cls:=.type "list",dict:=none,data:=.seq ([]:List Value).toArray }:=by rw[<- hs3]
 dsimp only at hns₁ hsb₁ ⊢;rw[<- hh3]at hns₁ hsb₁;have Tt:H3 s3.heap.objs.size=none:=I3.fresh;have hCL:s3.heap.objs.size≠X.env.locals:=fun z=>by have:=I3.lt;rw[<- z]at this;exact Nat.lt_irrefl _ this
 have Ot:X.s₀.heap.objs.size<=s3.heap.objs.size:=I3.sz;have Mv:∀x c,X.env.cells.lookup x=some c->c<s3.heap.objs.size:=fun x c e=>by obtain⟨v,o,ho,_⟩:=I3.cell x c e;exact Heap.lt_size ho
 have Rt:∀x c,X.env.cells.lookup x=some c->c≠s3.heap.objs.size:=fun x c e z=>by have:=Mv x c e;rw[z]at this;exact Nat.lt_irrefl _ this
 have Ut:∀p∈X.pn++pins,p.1≠s3.heap.objs.size:=fun p hp z=>by have:=Heap.lt_size (I3.pin p hp).1;rw[z]at this;exact Nat.lt_irrefl _ this
 have yw:∀b∈fp,b<s.heap.objs.size:=fun b hb=>by obtain⟨o,e,_⟩:=T.obj 0 _ st b hb;exact Heap.lt_size e
 have Dr:s3.heap.objs.size=s.heap.objs.size+1:=by rw[hh3,Heap.size_push]
 have old:∀b o,s3.heap.get? b=some o->h₁.get? b=some o:=fun b o e=>hsb₁.extBut b o (Nat.ne_of_lt (Heap.lt_size e)) (Heap.get?_push_of_some _ e)
 have Pg:∀b o,s.heap.get? b=some o->s3.heap.get? b=some o:=fun b o e=>by rw[hh3];exact Heap.get?_push_of_some _ e
 have Ht:∀b∈fp,H3 b=none:=fun b hb=>by rw[<- oh,UA (Nat.ne_of_lt (yw b hb))];exact(hf b hb).1
 have vg:(CB X Nc scope cl s3.heap.objs.size s3 H3 fp).Ok:=by
  refine⟨I3.ok.mod,hkind,I3.ok.glob,I3.ok.blt,Hf _,fun x y c e1 e2=>I3.ok.inj x y c (sub x c e1) (sub y c e2),fun x hx=>?_,fun x c e _=>absurd e Gf,I3.ok.hd,I3.ok.frames,.inl rfl,fun b hb=>⟨?_,fun x c e=>?_⟩,fun b o e=>I3.bs b o e,?_,fun b o e=>?_,fun b hb=>?_,I3.stack,I3.Nx⟩
  · exact Gg x (kR hcell hx)
  · intro z;have:=yw b hb;have z':b=s3.heap.objs.size:=z;rw[z',Dr]at this;exact absurd this (Nat.not_lt.mpr (Nat.le_succ _))
  · exact(hf b hb).2.2.2.2.1 x c (sub x c e)
  · exact Nat.le_trans I3.ok.Rz I3.sz
  · intro hb;have h1:=(hf b hb).2.2.2.1;have h2:=I3.ok.bs b o e;rcases h1 with z | z
    · exact I3.ok.Dz b o e z
    · exact absurd (Nat.lt_of_lt_of_le (Heap.lt_size h2.1) z) (Nat.lt_irrefl _)
  · intro z;rcases mem_cons.mp (I3.Ox b z)with z | z
    · exact(hf b hb).2.1 z
    · exact(hf b hb).2.2.1 z
 have IY:Inv (CB X Nc scope cl s3.heap.objs.size s3 H3 fp) [] (gF σ cap) H3 { s3 with heap:=h₁,toks:=s3.toks+([]:List (Str×Value)).length }:=by
  refine⟨vg,rfl,I3.bare,Un.kept old,⟨_,hns₁,fun i x v e1 e2 _=>?_⟩,fun x c e=>?_,Tt,fun x c e=>I3.Xj x c (sub x c e),fun p hp=>absurd hp (by simp[CB]),I3.hok.kept old,?_⟩
  · have e2':(gF σ cap)[i]?=some (some v):=e2;unfold gF at e2';rw[getElem?_map]at e2';cases q:cap[i]? with
    | none=>rw[q]at e2';cases e2'
    | some o=>
     rw[q]at e2';cases o with
     | none=>cases e2'
     | some j=>
      have e3:(σ[j]?).join=some v:=by simpa using e2'
      have e4:σ[j]?=some (some v):=by
       cases z:σ[j]? with
       | none=>rw[z]at e3;cases e3
       | some y=>rw[z]at e3;simpa using e3
      obtain⟨n1,n2,n3,n4⟩:=hcap.get e1 q;obtain⟨m,_,hl⟩:=I3.loc;have hv:IL X.env.scope x:=.inr n2;obtain⟨u,r,lk⟩:=hl j x v n1 e4 hv;refine⟨u,r,.inr ⟨n3,?_⟩⟩;rcases lk with⟨k,_⟩ | ⟨_,c,ec,ob,z1,z2⟩
      · rcases n2 with n2 | n2<;>rw[k]at n2<;>cases n2
      · exact⟨c,n4.trans ec,ob,old c ob z1,z2⟩
  · obtain⟨v,o,z1,z2⟩:=I3.cell x c (sub x c e);exact⟨v,o,old c o z1,z2⟩
  · show(gF σ cap).length=Nc.length;unfold gF;rw[length_map];exact hcap.length
 obtain⟨W,⟨m0,w0⟩,turn⟩:=read s.heap.objs.size hD;rw[oh]at w0;have st1:tn 0 h₁:=T.keep 0 _ _ st fun b _ o e=>old b o (Pg b o e)
 have Dg:∀{H':Hp},(∀b∈fp,H' b=none)->∀b∈fp,eE (CB X Nc scope cl s3.heap.objs.size s3 H3 fp) [] H' b:=fun hn b hb=>⟨hn b hb,(vg.uw b hb).1,vg.Az b hb,.inl hb,fun x c e=>(vg.uw b hb).2 x c e,fun p hp=>absurd hp (by simp[CB])⟩
 have loop:codeAny (model X.prog X.w) X.A (.compLoop (.ListComp elt [⟨tg,iter,ifs,0⟩] scope pos) 0 (.ref it) (.ref s.heap.objs.size) (compEnvC scope cl s3.heap.objs.size X.env)) (RR (.ref s.heap.objs.size) s3.heap.objs.size)
  { s3 with heap:=h₁,toks:=s3.toks+([]:List (Str×Value)).length }:=by
  refine SW (fun n s'=>∃i σ' ys H',Inv (CB X Nc scope cl s3.heap.objs.size s3 H3 fp) [] σ' H' s'/\tn i s'.heap/\(∀b∈fp,H' b=none)/\W i n σ' ys H') ?_ m0 ⟨0,_,[],H3,IY,st1,Ht,w0⟩;rintro n s4 ⟨i,σ4,ys,H4,I4,Lh,kh,w4⟩;rcases turn i n σ4 ys H4 w4 with⟨stop,qn⟩ | ⟨go,step⟩
  · refine WA (T.done (CB X Nc scope cl s3.heap.objs.size s3 H3 fp) rfl rfl rfl hc i [] s4 σ4 H4 _ I4 (Dg kh) Lh stop) fun r s5 zz=>?_
    obtain⟨hr,I5⟩:=zz;subst hr;have I6:Inv X pins σ H4 s5:=I3.call' (ch:=fp) I5.os I5.base I5.hok I5.bare fun b hb=>⟨(hf b hb).2.2.2.1,(hf b hb).2.1,(hf b hb).2.2.2.2.1,(hf b hb).2.2.2.2.2⟩
    obtain⟨m,hn,_⟩:=I5.loc;exact hRR _ _ s5 H4 m I6 hn I5.free hCL Ot Rt Ut qn
  · refine WA (T.item (CB X Nc scope cl s3.heap.objs.size s3 H3 fp) rfl rfl rfl hc i [] s4 σ4 H4 _ I4 (Dg kh) Lh go) fun r s5 zz=>?_
    obtain⟨u,hr,h5⟩:=zz;subst hr;refine WA h5 fun _ s6 zz=>?_
    obtain⟨x,H6,I6,r6,y6,Tg,Mt⟩:=zz;have Qh:=I6.pinned (Dg Mt) (T.obj _ _ Tg);refine WA (hg _ _ _ _ _ s6 σ4 H6 x u _ Qh r6 (step x H6 y6)) fun _ s7 zz=>?_
    obtain⟨σ7,H7,I7,q7⟩:=zz;refine WA (ht _ _ _ _ _ s7 σ7 H7 _ I7 q7) fun b s8 zz=>?_
    obtain⟨H8,I8,q8⟩:=zz;have again:∀{σ9:St}{H9:Hp}{s9:Shared}{Vg:List V},Inv (CB X Nc scope cl s3.heap.objs.size s3 H3 fp) ([]++EJ fp s6.heap) σ9 H9 s9->(∃m',m'<n/\W (i+1) m' σ9 Vg H9)->
     ∃m',m'<n/\∃i σ' ys H',Inv (CB X Nc scope cl s3.heap.objs.size s3 H3 fp) [] σ' H' s9/\tn i s9.heap/\(∀b∈fp,H' b=none)/\W i m' σ' ys H':=fun {σ9 H9 s9 Vg} I9 ⟨m',hm,w9⟩=>by
     refine⟨m',hm,i+1,σ9,Vg,H9,I9.Zq,T.keep _ _ _ Tg fun b hb o e=>(I9.pin (b,o) (mem_append_right _ (mem_append_right _ (CK hb e)))).1,fun b hb=>?_,w9⟩;obtain⟨o,e,d⟩:=T.obj _ _ Tg b hb;exact(I9.pin (b,o) (mem_append_right _ (mem_append_right _ (CK hb e)))).2.1
    cases b with
    | false=>rw[if_neg Gf]at q8 ⊢;exact again I8 q8
    | true=>
     rw[if_pos rfl]at q8 ⊢;refine WA (he _ _ _ _ _ s8 σ7 H8 _ I8 q8) fun y s9 zz=>?_
     obtain⟨v,H9,I9,r9,d9,z9,w9⟩:=zz;refine WA (aS (X:=CB X Nc scope cl s3.heap.objs.size s3 H3 fp) _ s9 σ7 H9 (.ref s.heap.objs.size) [v] (.ref s.heap.objs.size) [y] (fun _ H'=>H'=VA H9 s.heap.objs.size (.lst (ys++[v]))) I9 rfl (.cons r9 .nil) ⟨_,ys,v,rfl,rfl,d9,z9,rfl⟩) fun _ Ur zz=>?_
     obtain⟨_,Ir,Oh,_,e10⟩:=zz;subst e10;exact again Oh w9
 exact codeAny_compStart_list loop (T.self X.A 0 _ _ _ st1 loop)
theorem xT(hc:X.calm=true)(hi:PI X tg iter wi)(hcl:qD X.env.cells scope.names []=some cl)(hcell:∀y∈scope.names,y.2≠.cell)(hkind:scope.kind=.function)
 (hnames:∀y∈scope.names,y.2=.local->scope.names.lookup y.1=some .local) (hcap:Rj X scope cl Nc cap)
 (hg:∀C s0 H0 fp,PG (CB X Nc scope cl C s0 H0 fp) tg g) (ht:∀C s0 H0 fp,qH (CB X Nc scope cl C s0 H0 fp) ifs tc) (he:∀C s0 H0 fp,PE (CB X Nc scope cl C s0 H0 fp) elt te)
 (hs:∀x,foldedSetIterable iter X.env x=pure x:=by intro _;rfl):PE X (.ListComp elt [⟨tg,iter,ifs,0⟩] scope pos) (sQ wi g tc te cap):=by
 intro pins s σ H Q I h;rw[eval_ListComp];refine wpAny_comprehension_free (use:=none) rfl hs (oR hcl) hkind hnames (WA (hi pins s σ H _ I h) fun v s1 h1=>WA h1 fun itv s2 h2=>?_);obtain⟨it,fp,tn,J,H2,e,I2,T,st2,f2,read⟩:=h2;subst e;refine pR hc hcl hcell hkind hcap hg ht he I2 T st2 f2 read fun C D s' H' m I' hn n1 n2 n3 n4 n5 q=>?_
 refine⟨m,hn,fun h' hs'=>⟨.ref D,H',?_,rfl,q⟩⟩;exact I'.turned (t':=s'.toks) (fun b o hb e=>hs'.extBut b o hb e) n1 n2 (.inr n3) n4 n5
theorem uR{i:Nat}{y:Str}{py spos:Pos}(hc:X.calm=true)(hN:X.N.Nodup)(Dw:X.N[i]?=some y)(hy:X.env.scope.names.lookup y=some .local)(hi:PI X tg iter wi)(hcl:qD X.env.cells scope.names []=some cl)(hcell:∀y∈scope.names,y.2≠.cell)(hkind:scope.kind=.function)
 (hnames:∀y∈scope.names,y.2=.local->scope.names.lookup y.1=some .local) (hcap:Rj X scope cl Nc cap)
 (hg:∀C s0 H0 fp,PG (CB X Nc scope cl C s0 H0 fp) tg g) (ht:∀C s0 H0 fp,qH (CB X Nc scope cl C s0 H0 fp) ifs tc) (he:∀C s0 H0 fp,PE (CB X Nc scope cl C s0 H0 fp) elt te)
 (hsw:swapsWith (.ListComp elt [⟨tg,iter,ifs,0⟩] scope pos) (some (.Name y py)) spos.line X.env=pure true)
 (hs:∀x,foldedSetIterable iter X.env x=pure x:=by intro _;rfl):PS X (.Assign [.Name y py] (.ListComp elt [⟨tg,iter,ifs,0⟩] scope pos) spos) (kK (sQ wi g tc te cap) (LJ i)):=by
 intro pins s σ H D I h;rw[exec_Assign_Name_used _ _ _ _ hsw];refine wpAny_bind (wpAny_standAt (wpAny_bind ?_));show wpAny _ X.A (do let _ <- comprehension (.ListComp elt [⟨tg,iter,ifs,0⟩] scope pos) scope X.env _ (newList []) false (eval iter X.env) (some (assign (.Name y py) X.env))) _ _ s;refine wpAny_bind (wpAny_mono (wpAny_comprehension_free (use:=some (assign (.Name y py) X.env)) (Q:=fun _ s'=>SP X pins D .next s') rfl hs (oR hcl) hkind hnames
  (WA (hi pins s σ H _ I h) fun v s1 h1=>WA h1 fun itv s2 h2=>?_)) (fun _ s' hq=>wpAny_pure (wpAny_pure hq)) fun _ _ e=>e)
 obtain⟨it,fp,tn,J,H2,e,I2,T,st2,f2,read⟩:=h2;subst e;refine pR (Q:=fun x H1=>LJ i x σ H1 D.nx) hc hcl hcell hkind hcap hg ht he I2 T st2 f2 read fun C Dd s' H' m I' hn n1 n2 n3 n4 n5 q=>?_
 show wpAny _ X.A (assign (.Name y py) X.env (.ref Dd)) _ _ _;refine wpAny_assign_Name (DR I' hN Dw (.inl hy) (v:=.ref Dd) rfl (fun s4 I4 zz=>?_) (.inr hy));obtain⟨a,sb,ha⟩:=zz;have Qt:C≠a:=by
  rcases ha with ha | ha
  · rw[ha];exact n2
  · exact fun z=>n4 _ _ ha z.symm
 refine⟨m,hn.sameBut sb Qt,fun h' hs'=>⟨_,H',?_,q⟩⟩;exact I4.turned (t':=s4.toks) (fun b o hb e=>hs'.extBut b o hb e) n1 n2 (.inr n3) n4 n5
end
end L2
namespace SM
def BD(bd:RG)(tc:RT)(te:RE)(s:Src):Nat->Nat->LI->HI->List Dt->Option (List Dt×HI)
 | 0,_,_,_,_=>none
 | k+1,i,l,h,ys=>match s.at h i with
  | none=>none
  | some none=>some (ys,h)
  | some (some d)=>(bd d l).bind fun l1=>(tc l1 h).bind fun b=>if b.1=true then(te l1 b.2).bind fun r=>if ys.length<sizeLine then BD bd tc te s k (i+1) l1 r.2 (ys++[r.1])else none
   else BD bd tc te s k (i+1) l1 b.2 ys
noncomputable def UD(l:LI)(cap:List (Option Nat)):LI:=cap.map fun o=>match o with | some j=>(l[j]?).join | none=>none
def QD(g:RI)(bd:RG)(tc:RT)(te:RE)(cap:List (Option Nat)):RE:=fun l h=>(g l h).bind fun r=>(BD bd tc te r.1 (r.1.fuel r.2) 0 (UD l cap) r.2 []).bind fun q=>some (.lst q.1,q.2)
def UG(g:RI)(bd:RG)(tc:RT)(te:RE)(cap:List (Option Nat)):RE:=fun l h=>(g l h).bind fun r=>(BD bd tc te r.1 (r.1.fuel r.2) 0 (UD l cap) r.2 []).bind fun q=>some (.ref q.2.length,q.2++[.lst q.1])
noncomputable def dC:RT:=fun _ h=>some (true,h)
theorem M2{K:Frag}{H:Hp}{ρ:Rg}{l:LI}{σ:L2.St}(L:Jj K H ρ l σ)(cap:List (Option Nat)):Jj K H ρ (UD l cap) (gF σ cap):=by
 refine⟨by simp[UD,gF],fun i d e=>?_⟩;unfold UD at e;unfold gF;rw[getElem?_map]at e ⊢;cases q:cap[i]? with
 | none=>rw[q]at e;cases e
 | some o=>
  rw[q]at e;cases o with
  | none=>cases e
  | some j=>
   have e3:(l[j]?).join=some d:=by simpa using e
   have e4:l[j]?=some (some d):=by
    cases z:l[j]? with
    | none=>rw[z]at e3;cases e3
    | some y=>rw[z]at e3;simpa using e3
   obtain⟨v,g1,g2⟩:=L.val j d e4;refine⟨v,?_,g2⟩;simp[g1]
section
variable{X:Cx}{elt iter tg:Expr}{ifs:List Expr}{scope:Scope}{cl:List (Str×Addr)}{pos:Pos}{Nc:List Str}{g:RI}{bd:RG}{tc:RT}{te:RE}{cap:List (Option Nat)}
@[irreducible] def CM(X:Cx)(ifs:List Expr)(f:RT):Prop:=qH X ifs (ML X.K f)
theorem jG:CM X [] dC:=by with_unfolding_all exact fun pins s σ H Q I q=>by obtain⟨ρ,l,h,b,h',S,L,e,k⟩:=q;cases e;exact wZ pins s σ H Q I (k ρ H S (Ext.refl _ _))
theorem aU{c:Expr}{f:RT}(h:TM X c f):CM X [c] f:=by with_unfolding_all exact xZ h
end
section
variable{K:Frag}{H:Hp}{ρ:Rg}{p:Addr}{o:HO}{h:HI}
theorem J0{a:Addr}{u:HO}(hp:H p=none)(e:H a=some u)(n:ρ.no a):(ρ.hide p).no a:=
 ⟨n.1,fun z=>by
  rcases mem_cons.mp z with z | z
  · rw[z,hp]at e;cases e
  · exact n.2 z⟩
theorem Ext.Nz{τ:Rg}{H':Hp}(x:Ext (ρ.hide p) τ H H'):∃ρ',τ=ρ'.hide p/\Ext ρ ρ' H H':=by
 refine⟨⟨τ.v,ρ.z⟩,?_,⟨x.pre,rfl,x.keep,x.live,x.fz⟩⟩;have e:=x.hid;cases τ with
 | mk v z=>have e':z=p::ρ.z:=e;subst e';rfl
theorem Ext.Zv{ρ':Rg}{H':Hp}(x:Ext ρ ρ' H H')(hp:H p=none):Ext ρ ρ' H (VA H' p o):=
 ⟨x.pre,x.hid,fun a u e n=>by rw[UA (BC e hp)];exact x.keep a u e n,fun a e=>by
  by_cases ha:a=p
  · rw[ha];exact hp
  · rw[UA ha]at e;exact x.live a e,fun a q u e=>by rw[UA (BC e hp)];exact x.fz a q u e⟩
theorem ux.same{ρ':Rg}{H':Hp}{a:Addr}{u:Ob}(x:Tj ρ ρ' H H')(e:H' a=H a)(q:ux K H ρ a u):ux K H' ρ' a u:=by
 cases u with
 | lst xs=>obtain⟨vs,h1,h2⟩:=q;exact⟨vs,e.trans h1,aj.same x _ h2⟩
 | ins y fs=>obtain⟨C,dx,vs,h0,h1,h2,h3⟩:=q;exact⟨C,dx,vs,h0,e.trans h1,h2,aj.same x _ h3⟩
 | dk kvs=>obtain⟨vs,h1,h2,h3⟩:=q;exact⟨vs,e.trans h1,h2,aj.same x _ h3⟩
 | dt kvs=>obtain⟨vs,h1,h2,h3⟩:=q;exact⟨vs,e.trans h1,h2,aj.same x _ h3⟩
 | df kvs=>obtain⟨o,vs,h1,h2,h3⟩:=q;exact⟨o,vs,e.trans h1,h2,aj.same x _ h3⟩
 | Qx kvs=>obtain⟨o,vs,h1,h2,h3⟩:=q;exact⟨o,vs,e.trans h1,h2,aj.same x _ h3⟩
theorem Jj.same{ρ':Rg}{H':Hp}{l:LI}{σ:L2.St}(x:Tj ρ ρ' H H')(L:Jj K H ρ l σ):Jj K H' ρ' l σ:=
 ⟨L.len,fun i d e=>let ⟨v,e1,r⟩:=L.val i d e;⟨v,e1,cj.same x d r⟩⟩
theorem zR(hp:H p=none):Tj ρ (ρ.hide p) H (VA H p o):=
 ⟨fun _ _ e n=>J0 hp e n,fun a u e _=>by rw[UA (BC e hp)];exact e,fun _ _ e=>e,fun a q u e=>by rw[UA (BC e hp)];exact e⟩
theorem cO{o:HO}(nf:vQ H p):Tj (ρ.hide p) (ρ.hide p) H (VA H p o):=
 ⟨fun _ _ _ n=>n,fun a u e n=>by rw[UA (fun z=>n.2 (by rw[z];exact mem_cons_self))];exact e,fun _ _ e=>e,fun a q u e=>by rw[UA (fun z:a=p=>nf q u (by rw[<- z];exact e))];exact e⟩
theorem AR:Tj (ρ.hide p) ρ H H:=⟨fun _ _ _ n=>⟨n.1,fun z=>n.2 (mem_cons_of_mem _ z)⟩,fun _ _ e _=>e,fun _ _ e=>e,fun _ _ _ e=>e⟩
theorem gT:Tj (ρ.hide p) (ρ.add p) H H:=
 ⟨fun a _ _ n=>⟨fun z=>(mem_append.mp z).elim n.1 fun z=>n.2 (by rw[mem_singleton.mp z];exact mem_cons_self),fun z=>n.2 (mem_cons_of_mem _ z)⟩,fun _ _ e _=>e,fun n a e=>by
  have e':ρ.v[n]?=some a:=e;have:=(Df e').1;show(ρ.v++[p])[n]?=some a;rw[Ef this];exact e',fun _ _ _ e=>e⟩
theorem gj.hide{xs:List V}(S:gj K ρ h H)(hp:H p=none):gj K (ρ.hide p) h (VA H p (.lst xs)):=
 ⟨S.nd,S.len,fun n a u e1 e2=>(S.ob n a u e1 e2).same (zR hp) (UA (fun z=>(S.out hp).1 (z ▸ mem_of_getElem? e1))),fun a ha=>by
  rcases mem_cons.mp ha with z | z
  · rw[z];exact⟨(S.out hp).1,xs,KB⟩
  · obtain⟨m,u,e⟩:=S.zt a z;exact⟨m,u,by rw[UA (BC e hp)];exact e⟩⟩
theorem gj.Rv{xs:List V}(S:gj K (ρ.hide p) h H):gj K (ρ.hide p) h (VA H p (.lst xs)):=
 ⟨S.nd,S.len,fun n a u e1 e2=>(S.ob n a u e1 e2).same (cO (AH (S.zt p mem_cons_self).2.choose_spec)) (UA (fun z=>(S.zt p mem_cons_self).1 (z ▸ mem_of_getElem? e1))),fun a ha=>by
  obtain⟨m,u,e⟩:=S.zt a ha;by_cases hap:a=p
  · subst hap;exact⟨m,xs,KB⟩
  · exact⟨m,u,by rw[UA hap];exact e⟩⟩
theorem gj.show(S:gj K (ρ.hide p) h H):gj K ρ h H:=
 ⟨S.nd,S.len,fun n a u e1 e2=>(S.ob n a u e1 e2).same AR rfl,fun a ha=>S.zt a (mem_cons_of_mem _ ha)⟩
theorem gj.Lz(S:gj K (ρ.hide p) h H)(hz:p∉ρ.z){ds:List Dt}{vs:List V}(e:H p=some (.lst vs))(R:aj K H (ρ.hide p) ds vs):gj K (ρ.add p) (h++[.lst ds]) H:=by
 have nv:=(S.zt p mem_cons_self).1;refine⟨?_,by simp only[Rg.add];rw[length_append,length_append,<- S.len];rfl,fun n a ob e1 e2=>?_,fun a ha=>?_⟩
 · simp only[Rg.add];rw[nodup_append];refine⟨S.nd,nodup_cons.mpr ⟨by simp,nodup_nil⟩,fun a ha b hb=>?_⟩;rw[mem_singleton.mp hb];intro z;exact nv (z ▸ ha)
 · simp only[Rg.add]at e1;have hl:ρ.v.length=h.length:=S.len;by_cases hn:n<h.length
   · rw[Ef hn]at e2;rw[Ef (by rw[hl];exact hn)]at e1;exact(S.ob n a ob e1 e2).same gT rfl
   · have hn':h.length<=n:=Nat.not_lt.mp hn;rw[Jf hn']at e2;rw[Jf (by rw[hl];exact hn'),hl]at e1;cases hk:n-h.length with
     | zero=>rw[hk]at e1 e2;simp at e1 e2;subst e1 e2;exact⟨vs,e,aj.same gT _ R⟩
     | succ k=>rw[hk]at e2;simp at e2
 · obtain⟨n,u,e'⟩:=S.zt a (mem_cons_of_mem _ ha);refine⟨fun hm=>?_,u,e'⟩;rcases mem_append.mp hm with hm | hm
   · exact n hm
   · exact hz ((mem_singleton.mp hm) ▸ ha)
end
section
variable{X:Cx}{elt iter tg:Expr}{ifs:List Expr}{scope:Scope}{cl:List (Str×Addr)}{pos:Pos}{Nc:List Str}{g:RI}{bd:RG}{tc:RT}{te:RE}{cap:List (Option Nat)}
theorem FK{σ:L2.St}{H:Hp}{Q:VK}(own:Bool){d:Dt}{h':HI}{ρ:Rg}{l:LI}{h:HI}(S:gj X.K ρ h H)(L:Jj X.K H ρ l σ)
 (e:(if own=true then UG g bd tc te cap else QD g bd tc te cap) l h=some (d,h')) (k:Out X.K ρ H d h' Q):sQ (iM X.K g) (gM X.K bd) (ML X.K tc) (tM X.K te) cap σ H Q:=by
 have e0:∃s1 h1,g l h=some (s1,h1)/\∃ys h2,BD bd tc te s1 (s1.fuel h1) 0 (UD l cap) h1 []=some (ys,h2)/\h'=(if own=true then h2++[.lst ys]else h2)/\d=(if own=true then .ref h2.length else .lst ys):=by
  cases own with
  | true=>rw[if_pos rfl]at e;obtain⟨⟨s1,h1⟩,e1,e⟩:=kA e;obtain⟨⟨ys,h2⟩,e2,e⟩:=kA e;cases e;exact⟨s1,h1,e1,ys,h2,e2,rfl,rfl⟩
  | false=>rw[if_neg Gf]at e;obtain⟨⟨s1,h1⟩,e1,e⟩:=kA e;obtain⟨⟨ys,h2⟩,e2,e⟩:=kA e;cases e;exact⟨s1,h1,e1,ys,h2,e2,rfl,rfl⟩
 obtain⟨s1,h1,e1,zs,h2,e2,eh,ed⟩:=e0;refine⟨ρ,l,h,s1,h1,S,L,e1,fun ρ1 J H1 ok S1 E1 D hD=>?_⟩;have Vt:D∉ρ1.z:=(S1.out hD).2;refine⟨fun i m σ' ys H'=>∃ρ' l' h' ds,gj X.K (ρ'.hide D) h' H'/\Jj X.K H' (ρ'.hide D) l' σ'/\Ext ρ1 ρ' H1 H'/\H' D=some (.lst ys)/\aj X.K H' (ρ'.hide D) ds ys/\BD bd tc te s1 m i l' h' ds=some (zs,h2),?_,?_⟩
 · exact⟨_,ρ1,_,h1,[],S1.hide hD,M2 (Jj.same (zR hD) (L.ext E1)) cap,Ext.fresh hD,KB,.nil,e2⟩
 · rintro i m σ' ys H' ⟨ρ',l',h3,ds,S',L',E',hD',R',e'⟩;cases m with
   | zero=>simp only[BD]at e';cases e'
   | succ m=>
    simp only[BD]at e';have sm:Tj ρ1 (ρ'.hide D) H1 H':=⟨fun a u z n=>⟨(E'.Vq z n).1,fun w=>by
     rcases mem_cons.mp w with w | w
     · rw[w,hD]at z;cases z
     · exact(E'.Vq z n).2 w⟩,fun a u z n=>E'.keep a u z n.1,fun n a z=>E'.get z,E'.fz⟩
    have ok':=ok H' (ρ'.hide D) h3 sm S' i;cases q:s1.at h3 i with
    | none=>rw[q]at e';cases e'
    | some o=>
     rw[q]at e' ok';cases o with
     | none=>
      cases e';refine .inl ⟨ok',?_⟩;have nD:ρ'.no D:=⟨(S'.zt D mem_cons_self).1,by rw[E'.hid];exact Vt⟩;cases own with
      | false=>rw[if_neg Gf]at eh ed;subst eh ed;exact k ρ' _ H' (mj.mpr ⟨D,ys,rfl,.inl ⟨nD,.inl hD'⟩,aj.same AR _ R'⟩) S'.show (E1.trans E')
      | true=>
       rw[if_pos rfl]at eh ed;subst eh ed;refine k (ρ'.add D) _ H' (wj.mpr ⟨D,rfl,?_⟩) (S'.Lz nD.2 hD' R') (E1.trans ⟨?_,E'.hid,E'.keep,E'.live,E'.fz⟩)
       · have hl:ρ'.v.length=h2.length:=S'.len;show(ρ'.v++[D])[h2.length]?=some D;rw[<- hl,Jf (Hf _),Nat.sub_self];rfl
       · obtain⟨x,q1,q2⟩:=E'.pre;refine⟨x++[D],by show ρ'.v++[D]=_;rw[q1,append_assoc],fun a ha=>?_⟩;rcases mem_append.mp ha with ha | ha
         · exact q2 a ha
         · rw[mem_singleton.mp ha];exact hD
     | some d0=>
      dsimp only at e';obtain⟨l1,b1,e'⟩:=kA e';obtain⟨⟨b,h4⟩,b2,e'⟩:=kA e';refine .inr ⟨ok'.1,fun v H3 y=>?_⟩;obtain⟨R3,E3,S3⟩:=ok'.2 v H3 y;have Gh:=(S'.zt D mem_cons_self).1;refine⟨ρ'.hide D,l',h3,d0,l1,S3,L'.ext E3,R3,b1,fun σ4 L4=>⟨ρ'.hide D,l1,h3,b,h4,S3,L4,b2,fun ρ5 H5 S5 E5=>?_⟩⟩;cases b with
      | true=>
       dsimp only at e';rw[if_pos rfl]at e';obtain⟨⟨d5,h5⟩,b3,e'⟩:=kA e';by_cases hz:ds.length<sizeLine
       · rw[if_pos hz]at e';refine yE ⟨ρ5,l1,h4,d5,h5,S5,L4.ext E5,b3,fun ρ6 v6 H6 R6 S6 E6=>⟨?_,by rw[R'.length];exact hz,m,Nat.lt_succ_self _,?_⟩⟩
         · exact(E3.trans (E5.trans E6)).keep D _ hD' Gh
         · obtain⟨ρ7,rfl,E7⟩:=(E3.trans (E5.trans E6)).Nz;refine⟨ρ7,l1,h5,ds++[d5],S6.Rv,Jj.same (cO (AH (S6.zt D mem_cons_self).2.choose_spec)) (L4.ext (E5.trans E6)),(E'.trans E7).Zv hD,KB,?_,e'⟩;exact aj.same (cO (AH (S6.zt D mem_cons_self).2.choose_spec)) _ ((R'.ext (E3.trans (E5.trans E6))).append (.cons R6 .nil))
       · rw[if_neg hz]at e';cases e'
      | false=>dsimp only at e';rw[if_neg Gf]at e';refine xE ⟨m,Nat.lt_succ_self _,?_⟩;obtain⟨ρ7,rfl,E7⟩:=(E3.trans E5).Nz;exact⟨ρ7,l1,h4,ds,S5,L4.ext E5,E'.trans E7,(E3.trans E5).keep D _ hD' Gh,R'.ext (E3.trans E5),e'⟩
theorem SG(hc:X.calm=true)(hi:IM X tg iter g)(hcell:∀y∈scope.names,y.2≠.cell)(hkind:scope.kind=.function)
 (hnames:∀y∈scope.names,y.2=.local->scope.names.lookup y.1=some .local) (hcl:qD X.env.cells scope.names []=some cl) (hcap:Rj X scope cl Nc cap)
 (hg:∀C s0 H0 fp,GM (CB X Nc scope cl C s0 H0 fp) tg bd) (ht:∀C s0 H0 fp,CM (CB X Nc scope cl C s0 H0 fp) ifs tc) (he:∀C s0 H0 fp,EM (CB X Nc scope cl C s0 H0 fp) elt te)
 (hs:∀x,foldedSetIterable iter X.env x=pure x:=by intro _;rfl):EM X (.ListComp elt [⟨tg,iter,ifs,0⟩] scope pos) (QD g bd tc te cap):=by
 with_unfolding_all exact PE.imp (xT (g:=gM X.K bd) (tc:=ML X.K tc) (te:=tM X.K te) hc hi hcl hcell hkind hnames hcap hg ht he hs) fun σ H Q ⟨ρ,l,h,d,h',S,L,e,k⟩=>FK (X:=X) false S L e k
theorem xY(hc:X.calm=true)(hi:IM X tg iter g)(hcell:∀y∈scope.names,y.2≠.cell)(hkind:scope.kind=.function)
 (hnames:∀y∈scope.names,y.2=.local->scope.names.lookup y.1=some .local) (hcl:qD X.env.cells scope.names []=some cl) (hcap:Rj X scope cl Nc cap)
 (hg:∀C s0 H0 fp,GM (CB X Nc scope cl C s0 H0 fp) tg bd) (ht:∀C s0 H0 fp,CM (CB X Nc scope cl C s0 H0 fp) ifs tc) (he:∀C s0 H0 fp,EM (CB X Nc scope cl C s0 H0 fp) elt te)
 (hs:∀x,foldedSetIterable iter X.env x=pure x:=by intro _;rfl):EM X (.ListComp elt [⟨tg,iter,ifs,0⟩] scope pos) (UG g bd tc te cap):=by
 with_unfolding_all exact PE.imp (xT (g:=gM X.K bd) (tc:=ML X.K tc) (te:=tM X.K te) hc hi hcl hcell hkind hnames hcap hg ht he hs) fun σ H Q ⟨ρ,l,h,d,h',S,L,e,k⟩=>FK (X:=X) true S L e k
theorem lY(i:Nat){y:Str}{py spos:Pos}(hc:X.calm=true)(hN:X.N.Nodup)(hi:IM X tg iter g)(hcell:∀y∈scope.names,y.2≠.cell)(hkind:scope.kind=.function)
 (hnames:∀y∈scope.names,y.2=.local->scope.names.lookup y.1=some .local) (hcl:qD X.env.cells scope.names []=some cl) (hcap:Rj X scope cl Nc cap)
 (hg:∀C s0 H0 fp,GM (CB X Nc scope cl C s0 H0 fp) tg bd) (ht:∀C s0 H0 fp,CM (CB X Nc scope cl C s0 H0 fp) ifs tc) (he:∀C s0 H0 fp,EM (CB X Nc scope cl C s0 H0 fp) elt te)
 (hsw:swapsWith (.ListComp elt [⟨tg,iter,ifs,0⟩] scope pos) (some (.Name y py)) spos.line X.env=pure true)
 (Dw:X.N[i]?=some y:=by rfl) (hy:X.env.scope.names.lookup y=some .local:=by rfl) (hs:∀x,foldedSetIterable iter X.env x=pure x:=by intro _;rfl) :
 ZM X (.Assign [.Name y py] (.ListComp elt [⟨tg,iter,ifs,0⟩] scope pos) spos) (SA i (QD g bd tc te cap)):=by
 with_unfolding_all exact PS.imp (uR (g:=gM X.K bd) (tc:=ML X.K tc) (te:=tM X.K te) hc hN Dw hy hi hcl hcell hkind hnames hcap hg ht he hsw hs) fun D σ H zz=>by obtain⟨ρ,l,h,r,S,L,e,k⟩:=zz;obtain⟨⟨d1,h1⟩,e1,e⟩:=kA e;cases e;exact FK (X:=X) false S L e1 fun ρ1 v H1 R1 S1 E1=>k ρ1 _ H1 S1 ((L.ext E1).set i R1) E1
theorem fX(i:Nat){y:Str}{py spos:Pos}(hc:X.calm=true)(hN:X.N.Nodup)(hi:IM X tg iter g)(hcell:∀y∈scope.names,y.2≠.cell)(hkind:scope.kind=.function)
 (hnames:∀y∈scope.names,y.2=.local->scope.names.lookup y.1=some .local) (hcl:qD X.env.cells scope.names []=some cl) (hcap:Rj X scope cl Nc cap)
 (hg:∀C s0 H0 fp,GM (CB X Nc scope cl C s0 H0 fp) tg bd) (ht:∀C s0 H0 fp,CM (CB X Nc scope cl C s0 H0 fp) ifs tc) (he:∀C s0 H0 fp,EM (CB X Nc scope cl C s0 H0 fp) elt te)
 (hsw:swapsWith (.ListComp elt [⟨tg,iter,ifs,0⟩] scope pos) (some (.Name y py)) spos.line X.env=pure true)
 (Dw:X.N[i]?=some y:=by rfl) (hy:X.env.scope.names.lookup y=some .local:=by rfl) (hs:∀x,foldedSetIterable iter X.env x=pure x:=by intro _;rfl) :
 ZM X (.Assign [.Name y py] (.ListComp elt [⟨tg,iter,ifs,0⟩] scope pos) spos) (SA i (UG g bd tc te cap)):=by
 with_unfolding_all exact PS.imp (uR (g:=gM X.K bd) (tc:=ML X.K tc) (te:=tM X.K te) hc hN Dw hy hi hcl hcell hkind hnames hcap hg ht he hsw hs) fun D σ H zz=>by obtain⟨ρ,l,h,r,S,L,e,k⟩:=zz;obtain⟨⟨d1,h1⟩,e1,e⟩:=kA e;cases e;exact FK (X:=X) true S L e1 fun ρ1 v H1 R1 S1 E1=>k ρ1 _ H1 S1 ((L.ext E1).set i R1) E1
end
end SM
namespace L2
section
variable{X:Cx}{elt iter tg:Expr}{ifs:List Expr}{scope:Scope}{cl:List (Str×Addr)}{pos:Pos}{Nc:List Str}{wi:TI}{g:TG}{tc:TT}{te:TE}{cap:List (Option Nat)}{x0:Str}
end
end L2
namespace SM
section
variable{X:Cx}{elt iter tg:Expr}{ifs:List Expr}{scope:Scope}{cl:List (Str×Addr)}{pos:Pos}{Nc:List Str}{g:RI}{bd:RG}{tc:RT}{te:RE}{cap:List (Option Nat)}{x0:Str}
end
mutual
noncomputable def LA:Dt->Bool
 | .tup xs=>lC xs
 | .lst xs=>lC xs
 | .ref _=>false
 | .qx _=>false
 | .err _ _ _=>false
 | .thr _ _ _=>false
 | _=>true
noncomputable def lC:List Dt->Bool
 | []=>true
 | x::xs=>LA x&&lC xs
end
mutual
noncomputable def RF:Dt->Nat
 | .tup xs=>OC xs+1
 | .lst xs=>OC xs+1
 | _=>0
noncomputable def OC:List Dt->Nat
 | []=>0
 | x::xs=>max (RF x) (OC xs)
end
mutual
noncomputable def GB:Dt->Dt->Bool
 | .non,.non=>true
 | .bl a,.bl b=>a==b
 | .bl a,.int b=>(if a then 1 else 0)==b
 | .int a,.bl b=>a==(if b then 1 else 0)
 | .int a,.int b=>a==b
 | .str a,.str b=>a==b
 | .tup xs,.tup ys=>wC xs ys
 | .lst xs,.lst ys=>wC xs ys
 | _,_=>false
noncomputable def wC:List Dt->List Dt->Bool
 | [],[]=>true
 | x::xs,y::ys=>GB x y&&wC xs ys
 | _,_=>false
end
mutual
theorem SO:∀d:Dt,LA d=true->GB d d=true
 | .non,_=>by simp only[GB]
 | .bl b,_=>by simp only[GB,beq_self_eq_true]
 | .int i,_=>by simp only[GB,beq_self_eq_true]
 | .str x,_=>by simp only[GB,beq_self_eq_true]
 | .tup xs,h=>by simp only[GB];exact oO xs (by simpa only[LA]using h)
 | .lst xs,h=>by simp only[GB];exact oO xs (by simpa only[LA]using h)
 | .ref _,h=>by simp[LA]at h
 | .qx _,h=>by simp[LA]at h
 | .err _ _ _,h=>by simp[LA]at h
 | .thr _ _ _,h=>by simp[LA]at h
theorem oO:∀ds:List Dt,lC ds=true->wC ds ds=true
 | [],_=>by simp only[wC]
 | d::ds,h=>by simp only[lC,Bool.and_eq_true]at h;simp only[wC,Bool.and_eq_true];exact⟨SO d h.1,oO ds h.2⟩
end
section
variable{X:Cx}{pins:List (Addr×Obj)}{σ:L2.St}{H:Hp}{s:Shared}{ρ:Rg}
mutual
theorem fL(I:Inv X pins σ H s):∀(d d':Dt){v:V},LA d=true->LA d'=true->cj X.K H ρ d v->cj X.K H ρ d' v->d=d'
 | .non,d',v,_,p,r,r'=>by
  have e:=zj.mp r;subst e;cases d' with
  | non=>rfl
  | bl b=>have:=fj.mp r';cases this
  | int b=>have:=dj.mp r';cases this
  | str b=>have:=kj.mp r';cases this
  | tup b=>obtain⟨_,_,z,_⟩:=Bj.mp r';cases z
  | lst b=>obtain⟨_,_,z,_⟩:=mj.mp r';cases z
  | ref b=>obtain⟨_,z,_⟩:=wj.mp r';cases z
  | qx b=>obtain⟨_,z,_⟩:=Xq.mp r';cases z
  | err b c d=>obtain⟨_,_,_,z,_⟩:=Yj.mp r';cases z
  | thr b c d=>exact(Gq.mp r').elim
 | .bl i,d',v,_,p,r,r'=>by
  have e:=fj.mp r;subst e;cases d' with
  | non=>have:=zj.mp r';cases this
  | bl b=>have:=fj.mp r';cases this;rfl
  | int b=>have:=dj.mp r';cases this
  | str b=>have:=kj.mp r';cases this
  | tup b=>obtain⟨_,_,z,_⟩:=Bj.mp r';cases z
  | lst b=>obtain⟨_,_,z,_⟩:=mj.mp r';cases z
  | ref b=>obtain⟨_,z,_⟩:=wj.mp r';cases z
  | qx b=>obtain⟨_,z,_⟩:=Xq.mp r';cases z
  | err b c d=>obtain⟨_,_,_,z,_⟩:=Yj.mp r';cases z
  | thr b c d=>exact(Gq.mp r').elim
 | .int i,d',v,_,p,r,r'=>by
  have e:=dj.mp r;subst e;cases d' with
  | non=>have:=zj.mp r';cases this
  | bl b=>have:=fj.mp r';cases this
  | int b=>have:=dj.mp r';cases this;rfl
  | str b=>have:=kj.mp r';cases this
  | tup b=>obtain⟨_,_,z,_⟩:=Bj.mp r';cases z
  | lst b=>obtain⟨_,_,z,_⟩:=mj.mp r';cases z
  | ref b=>obtain⟨_,z,_⟩:=wj.mp r';cases z
  | qx b=>obtain⟨_,z,_⟩:=Xq.mp r';cases z
  | err b c d=>obtain⟨_,_,_,z,_⟩:=Yj.mp r';cases z
  | thr b c d=>exact(Gq.mp r').elim
 | .str i,d',v,_,p,r,r'=>by
  have e:=kj.mp r;subst e;cases d' with
  | non=>have:=zj.mp r';cases this
  | bl b=>have:=fj.mp r';cases this
  | int b=>have:=dj.mp r';cases this
  | str b=>have:=kj.mp r';cases this;rfl
  | tup b=>obtain⟨_,_,z,_⟩:=Bj.mp r';cases z
  | lst b=>obtain⟨_,_,z,_⟩:=mj.mp r';cases z
  | ref b=>obtain⟨_,z,_⟩:=wj.mp r';cases z
  | qx b=>obtain⟨_,z,_⟩:=Xq.mp r';cases z
  | err b c d=>obtain⟨_,_,_,z,_⟩:=Yj.mp r';cases z
  | thr b c d=>exact(Gq.mp r').elim
 | .tup xs,d',v,p0,p,r,r'=>by
  obtain⟨a,vs,e,q,rs⟩:=Bj.mp r;subst e;cases d' with
  | non=>have:=zj.mp r';cases this
  | bl b=>have:=fj.mp r';cases this
  | int b=>have:=dj.mp r';cases this
  | str b=>have:=kj.mp r';cases this
  | tup ys=>obtain⟨b,ws,z,q',rs'⟩:=Bj.mp r';cases z;have ee:=I.Ez q.sq q'.sq;subst ee;rw[DO I xs ys (by simpa only[LA]using p0) (by simpa only[LA]using p) rs rs']
  | lst ys=>
   obtain⟨b,ws,z,q',rs'⟩:=mj.mp r';cases z;obtain⟨_,_,⟨o,e1,e2,_⟩,_⟩:=I.tuple q.sq;obtain⟨_,_,⟨o',_,e1',e2',_⟩,_⟩:=I.list q'.sq;rw[e1]at e1';cases e1';rw[e2]at e2';injection e2' with e3
   exact absurd e3 (by decide)
  | ref b=>simp[LA]at p
  | qx b=>simp[LA]at p
  | err b c d=>simp[LA]at p
  | thr b c d=>simp[LA]at p
 | .lst xs,d',v,p0,p,r,r'=>by
  obtain⟨a,vs,e,q,rs⟩:=mj.mp r;subst e;cases d' with
  | non=>have:=zj.mp r';cases this
  | bl b=>have:=fj.mp r';cases this
  | int b=>have:=dj.mp r';cases this
  | str b=>have:=kj.mp r';cases this
  | lst ys=>obtain⟨b,ws,z,q',rs'⟩:=mj.mp r';cases z;have ee:=I.yx q.sq q'.sq;subst ee;rw[DO I xs ys (by simpa only[LA]using p0) (by simpa only[LA]using p) rs rs']
  | tup ys=>
   obtain⟨b,ws,z,q',rs'⟩:=Bj.mp r';cases z;obtain⟨_,_,⟨o,e1,e2,_⟩,_⟩:=I.tuple q'.sq;obtain⟨_,_,⟨o',_,e1',e2',_⟩,_⟩:=I.list q.sq;rw[e1]at e1';cases e1';rw[e2]at e2';injection e2' with e3
   exact absurd e3 (by decide)
  | ref b=>simp[LA]at p
  | qx b=>simp[LA]at p
  | err b c d=>simp[LA]at p
  | thr b c d=>simp[LA]at p
 | .ref _,_,_,p,_,_,_=>by simp[LA]at p
 | .qx _,_,_,p,_,_,_=>by simp[LA]at p
 | .err _ _ _,_,_,p,_,_,_=>by simp[LA]at p
 | .thr _ _ _,_,_,p,_,_,_=>by simp[LA]at p
theorem DO(I:Inv X pins σ H s):∀(ds ds':List Dt){vs:List V},lC ds=true->lC ds'=true->aj X.K H ρ ds vs->aj X.K H ρ ds' vs->ds=ds'
 | [],[],_,_,_,_,_=>rfl
 | [],d'::ds',_,_,_,r,r'=>by rw[r.Qj]at r';obtain⟨_,_,z,_⟩:=r'.Cj;cases z
 | d::ds,[],_,_,_,r,r'=>by rw[r'.Qj]at r;obtain⟨_,_,z,_⟩:=r.Cj;cases z
 | d::ds,d'::ds',_,p,p',r,r'=>by simp only[lC,Bool.and_eq_true]at p p';obtain⟨v,vs,e,r1,r2⟩:=r.Cj;subst e;obtain⟨v',vs',e,r1',r2'⟩:=r'.Cj;cases e;rw[fL I d d' p.1 p'.1 r1 r1',DO I ds ds' p.2 p'.2 r2 r2']
end
def KE(xs ys:List Dt)(j:Nat):Bool:=match xs[j]?,ys[j]? with
 | some x,some y=>GB x y
 | _,_=>false
theorem LG:∀(xs ys:List Dt),xs.length=ys.length->(List.range xs.length).all (KE xs ys)=wC xs ys
 | [],[],_=>by simp[wC]
 | [],_::_,h=>by simp at h
 | _::_,[],h=>by simp at h
 | x::xs,y::ys,h=>by have ih:=LG xs ys (by simpa using h);rw[Xr,range_succ_eq_map,all_cons,all_map];simp only[wC];rw[<- ih];rfl
theorem KG:∀(xs ys:List Dt),xs.length≠ys.length->wC xs ys=false
 | [],[],h=>absurd rfl h
 | [],_::_,_=>by simp only[wC]
 | _::_,[],_=>by simp only[wC]
 | x::xs,y::ys,h=>by simp only[wC];rw[KG xs ys (fun z=>h (by simp[z])),Bool.and_false]
theorem iJ(A:Around):A.in1.units<=A.units+1:=by first | exact Hf _ | simp[Around.in1]
theorem lD{h:Heap}{a:Addr}{its:Array Value}(p:IsTup h a its):h.IsTuple a its:=by obtain⟨o,h1,h2,n,h3⟩:=p;exact⟨o,h1,h2,n,h3⟩
mutual
theorem QT(I:Inv X pins σ H s):∀(d d':Dt){v v':V}{u u':Value}(A:Around),LA d=true->LA d'=true->A.units+RF d<cLine->cj X.K H ρ d v->cj X.K H ρ d' v'->RelV v u->RelV v' u'->SeqAt.EqAt A s u u' (GB d d')
 | .tup xs,d',v,v',u,u',A,p,p',hu,r,r',q,q'=>by
  obtain⟨a,vs,e,t,rs⟩:=Bj.mp r;subst e;cases q;simp only[RF]at hu;have hu0:A.units<cLine:=by omega
  obtain⟨its,rv,tp,_⟩:=I.tuple t.sq;cases d' with
  | non=>cases zj.mp r';cases q';simpa only[GB]using SeqAt.EqAt.tuple_none (lD tp) hu0
  | bl b=>cases fj.mp r';cases q';simpa only[GB]using SeqAt.EqAt.tuple_bool b (lD tp) hu0
  | int b=>cases dj.mp r';obtain⟨t',rfl⟩:=q';simpa only[GB]using SeqAt.EqAt.tuple_int b t' (lD tp) hu0
  | str b=>cases kj.mp r';obtain⟨t',rfl⟩:=q';simpa only[GB]using SeqAt.EqAt.tuple_str b t' (lD tp) hu0
  | lst ys=>obtain⟨b,ws,e,t',rs'⟩:=mj.mp r';subst e;cases q';obtain⟨its',rv',Jq,_⟩:=I.list t'.sq;simpa only[GB]using SeqAt.EqAt.tuple_list (lD tp) Jq.isList hu0
  | tup ys=>
   obtain⟨b,ws,e,t',rs'⟩:=Bj.mp r';subst e;cases q';obtain⟨its',rv',Jq,_⟩:=I.tuple t'.sq;by_cases hab:a=b
   · subst hab;have e:=fL I (.tup xs) (.tup ys) p p' r r';rw[<- e,SO _ p];exact SeqAt.EqAt.same _
   · refine .of_refs hab ?_;have l1:its.length=xs.length:=by rw[<- rv.length,rs.length]
     have l2:its'.length=ys.length:=by rw[<- rv'.length,rs'.length]
     have ih:=aL I xs ys A.in1 (by simpa only[LA]using p) (by simpa only[LA]using p') (by have:=iJ A;omega) rs rs' rv rv';have z:=SeqAt.RcAt.tuples (e:=KE xs ys) (lD tp) (lD Jq) hu0 fun j h1 h2=>by rw[size_toArray]at h1 h2;simpa using ih j h1 h2
     rw[size_toArray,size_toArray,l1,l2]at z;simp only[GB];by_cases hl:xs.length=ys.length
     · rw[<- hl,Nat.min_self,LG xs ys hl,beq_self_eq_true,Bool.and_true]at z;exact z
     · rw[KG xs ys hl];have hb:(xs.length==ys.length)=false:=by simpa using hl
       rw[hb,Bool.and_false]at z;exact z
  | ref b=>simp[LA]at p'
  | qx b=>simp[LA]at p'
  | err b c d=>simp[LA]at p'
  | thr b c d=>simp[LA]at p'
 | .lst xs,d',v,v',u,u',A,p,p',hu,r,r',q,q'=>by
  obtain⟨a,vs,e,t,rs⟩:=mj.mp r;subst e;cases q;simp only[RF]at hu;have hu0:A.units<cLine:=by omega
  obtain⟨its,rv,tp,_⟩:=I.list t.sq;cases d' with
  | non=>cases zj.mp r';cases q';simpa only[GB]using SeqAt.EqAt.list_none tp.isList hu0
  | bl b=>cases fj.mp r';cases q';simpa only[GB]using SeqAt.EqAt.list_bool b tp.isList hu0
  | int b=>cases dj.mp r';obtain⟨t',rfl⟩:=q';simpa only[GB]using SeqAt.EqAt.list_int b t' tp.isList hu0
  | str b=>cases kj.mp r';obtain⟨t',rfl⟩:=q';simpa only[GB]using SeqAt.EqAt.list_str b t' tp.isList hu0
  | tup ys=>obtain⟨b,ws,e,t',rs'⟩:=Bj.mp r';subst e;cases q';obtain⟨its',rv',Jq,_⟩:=I.tuple t'.sq;simpa only[GB]using SeqAt.EqAt.list_tuple tp.isList (lD Jq) hu0
  | lst ys=>
   obtain⟨b,ws,e,t',rs'⟩:=mj.mp r';subst e;cases q';obtain⟨its',rv',Jq,_⟩:=I.list t'.sq;by_cases hab:a=b
   · subst hab;have e:=fL I (.lst xs) (.lst ys) p p' r r';rw[<- e,SO _ p];exact SeqAt.EqAt.same _
   · refine .of_refs hab ?_;have l1:its.length=xs.length:=by rw[<- rv.length,rs.length]
     have l2:its'.length=ys.length:=by rw[<- rv'.length,rs'.length]
     simp only[GB];by_cases hl:xs.length=ys.length
     · have ih:=aL I xs ys A.in1 (by simpa only[LA]using p) (by simpa only[LA]using p') (by have:=iJ A;omega) rs rs' rv rv';have z:=SeqAt.RcAt.lists (e:=KE xs ys) tp.isList Jq.isList (by rw[size_toArray,size_toArray,l1,l2,hl]) hu0 fun j h1 h2=>by rw[size_toArray]at h1 h2;simpa using ih j h1 h2
       rw[size_toArray,l1,LG xs ys hl]at z;exact z
     · rw[KG xs ys hl];exact SeqAt.RcAt.lists_lengths tp.isList Jq.isList (by rw[size_toArray,size_toArray,l1,l2];simpa using hl) hu0
  | ref b=>simp[LA]at p'
  | qx b=>simp[LA]at p'
  | err b c d=>simp[LA]at p'
  | thr b c d=>simp[LA]at p'
 | .ref _,_,_,_,_,_,_,p,_,_,_,_,_,_=>by simp[LA]at p
 | .qx _,_,_,_,_,_,_,p,_,_,_,_,_,_=>by simp[LA]at p
 | .err _ _ _,_,_,_,_,_,_,p,_,_,_,_,_,_=>by simp[LA]at p
 | .thr _ _ _,_,_,_,_,_,_,p,_,_,_,_,_,_=>by simp[LA]at p
 | .non,d',v,v',u,u',A,p,p',hu,r,r',q,q'=>by
  cases zj.mp r;cases q;have hu0:A.units<cLine:=by omega
  cases d' with
  | non=>cases zj.mp r';cases q';simp only[GB];exact SeqAt.EqAt.same _
  | bl b=>cases fj.mp r';cases q';simpa only[GB]using SeqAt.EqAt.none_bool b
  | int b=>cases dj.mp r';obtain⟨t',rfl⟩:=q';simpa only[GB]using SeqAt.EqAt.none_int b t'
  | str b=>cases kj.mp r';obtain⟨t',rfl⟩:=q';simpa only[GB]using SeqAt.EqAt.none_str b t'
  | tup ys=>obtain⟨b,ws,e,t',rs'⟩:=Bj.mp r';subst e;cases q';obtain⟨its',rv',Jq,_⟩:=I.tuple t'.sq;simpa only[GB]using SeqAt.EqAt.none_tuple (lD Jq) hu0
  | lst ys=>obtain⟨b,ws,e,t',rs'⟩:=mj.mp r';subst e;cases q';obtain⟨its',rv',Jq,_⟩:=I.list t'.sq;simpa only[GB]using SeqAt.EqAt.none_list Jq.isList hu0
  | ref b=>simp[LA]at p'
  | qx b=>simp[LA]at p'
  | err b c d=>simp[LA]at p'
  | thr b c d=>simp[LA]at p'
 | .bl i,d',v,v',u,u',A,p,p',hu,r,r',q,q'=>by
  cases fj.mp r;cases q;have hu0:A.units<cLine:=by omega
  cases d' with
  | non=>cases zj.mp r';cases q';simpa only[GB]using SeqAt.EqAt.bool_none i
  | bl b=>cases fj.mp r';cases q';simpa only[GB]using SeqAt.EqAt.bool_bool i b
  | int b=>cases dj.mp r';obtain⟨t',rfl⟩:=q';simpa only[GB]using SeqAt.EqAt.bool_int i b t'
  | str b=>cases kj.mp r';obtain⟨t',rfl⟩:=q';simpa only[GB]using SeqAt.EqAt.bool_str i b t'
  | tup ys=>obtain⟨b,ws,e,t',rs'⟩:=Bj.mp r';subst e;cases q';obtain⟨its',rv',Jq,_⟩:=I.tuple t'.sq;simpa only[GB]using SeqAt.EqAt.bool_tuple i (lD Jq) hu0
  | lst ys=>obtain⟨b,ws,e,t',rs'⟩:=mj.mp r';subst e;cases q';obtain⟨its',rv',Jq,_⟩:=I.list t'.sq;simpa only[GB]using SeqAt.EqAt.bool_list i Jq.isList hu0
  | ref b=>simp[LA]at p'
  | qx b=>simp[LA]at p'
  | err b c d=>simp[LA]at p'
  | thr b c d=>simp[LA]at p'
 | .int i,d',v,v',u,u',A,p,p',hu,r,r',q,q'=>by
  cases dj.mp r;obtain⟨ti,rfl⟩:=q;have hu0:A.units<cLine:=by omega
  cases d' with
  | non=>cases zj.mp r';cases q';simpa only[GB]using SeqAt.EqAt.int_none i ti
  | bl b=>cases fj.mp r';cases q';simpa only[GB]using SeqAt.EqAt.int_bool i ti b
  | int b=>cases dj.mp r';obtain⟨t',rfl⟩:=q';simpa only[GB]using SeqAt.EqAt.int_int i ti b t'
  | str b=>cases kj.mp r';obtain⟨t',rfl⟩:=q';simpa only[GB]using SeqAt.EqAt.int_str i ti b t'
  | tup ys=>obtain⟨b,ws,e,t',rs'⟩:=Bj.mp r';subst e;cases q';obtain⟨its',rv',Jq,_⟩:=I.tuple t'.sq;simpa only[GB]using SeqAt.EqAt.int_tuple i ti (lD Jq) hu0
  | lst ys=>obtain⟨b,ws,e,t',rs'⟩:=mj.mp r';subst e;cases q';obtain⟨its',rv',Jq,_⟩:=I.list t'.sq;simpa only[GB]using SeqAt.EqAt.int_list i ti Jq.isList hu0
  | ref b=>simp[LA]at p'
  | qx b=>simp[LA]at p'
  | err b c d=>simp[LA]at p'
  | thr b c d=>simp[LA]at p'
 | .str i,d',v,v',u,u',A,p,p',hu,r,r',q,q'=>by
  cases kj.mp r;obtain⟨ti,rfl⟩:=q;have hu0:A.units<cLine:=by omega
  cases d' with
  | non=>cases zj.mp r';cases q';simpa only[GB]using SeqAt.EqAt.str_none i ti
  | bl b=>cases fj.mp r';cases q';simpa only[GB]using SeqAt.EqAt.str_bool i ti b
  | int b=>cases dj.mp r';obtain⟨t',rfl⟩:=q';simpa only[GB]using SeqAt.EqAt.str_int i ti b t'
  | str b=>cases kj.mp r';obtain⟨t',rfl⟩:=q';simpa only[GB]using SeqAt.EqAt.str_str i ti b t'
  | tup ys=>obtain⟨b,ws,e,t',rs'⟩:=Bj.mp r';subst e;cases q';obtain⟨its',rv',Jq,_⟩:=I.tuple t'.sq;simpa only[GB]using SeqAt.EqAt.str_tuple i ti (lD Jq) hu0
  | lst ys=>obtain⟨b,ws,e,t',rs'⟩:=mj.mp r';subst e;cases q';obtain⟨its',rv',Jq,_⟩:=I.list t'.sq;simpa only[GB]using SeqAt.EqAt.str_list i ti Jq.isList hu0
  | ref b=>simp[LA]at p'
  | qx b=>simp[LA]at p'
  | err b c d=>simp[LA]at p'
  | thr b c d=>simp[LA]at p'
theorem aL(I:Inv X pins σ H s):∀(xs ys:List Dt){vs vs':List V}{us us':List Value}(A:Around),lC xs=true->lC ys=true->A.units+OC xs<cLine->aj X.K H ρ xs vs->aj X.K H ρ ys vs'->Vals vs us->Vals vs' us'->
 ∀(j:Nat)(h1:j<us.length)(h2:j<us'.length),SeqAt.EqAt A s us[j] us'[j] (KE xs ys j)
 | [],_,_,_,_,_,_,_,_,_,r,_,q,_,_,h1,_=>by rw[r.Qj]at q;cases q;exact absurd h1 (by simp)
 | _::_,[],_,_,_,_,_,_,_,_,_,r',_,q',_,_,h2=>by rw[r'.Qj]at q';cases q';exact absurd h2 (by simp)
 | x::xs,y::ys,vs,vs',us,us',A,p,p',hu,r,r',q,q',j,h1,h2=>by
  simp only[lC,Bool.and_eq_true]at p p';simp only[OC]at hu;obtain⟨v,r0,e,a1,a2⟩:=r.Cj;subst e;obtain⟨v',Tr,e,b1,b2⟩:=r'.Cj;subst e;cases q with
  | cons q1 q2=>
   cases q' with
   | cons Ar Br=>
    cases j with
    | zero=>exact QT I x y A p.1 p'.1 (by omega) a1 b1 q1 Ar
    | succ j=>have ih:=aL I xs ys A p.2 p'.2 (by omega) a2 b2 q2 Br j (by simpa using h1) (by simpa using h2);simpa[KE]using ih
end
end
section
variable{X:Cx}{a b c e:Expr}{es:List Expr}{fa fb fc f:RE}{g:RA}{p p2 pos:Pos}
def DF(xs ys:List Dt):Bool:=lC xs&&lC ys&&decide (OC xs<=50)
def XA:RC:=fun a b h=>match a,b with
 | .tup xs,.tup ys=>if DF xs ys=true then some (.bl (wC xs ys),h)else none
 | .lst xs,.lst ys=>if DF xs ys=true then some (.bl (wC xs ys),h)else none
 | a,b=>rV a b h
def VC:RC:=fun a b h=>match a,b with
 | .tup xs,.tup ys=>if DF xs ys=true then some (.bl (!wC xs ys),h)else none
 | .lst xs,.lst ys=>if DF xs ys=true then some (.bl (!wC xs ys),h)else none
 | a,b=>NU a b h
theorem HK{pins:List (Addr×Obj)}{σ:L2.St}{H:Hp}{s:Shared}{ρ:Rg}{xs ys:List Dt}{vs ws:List V}{its its':List Value}(I:Inv X pins σ H s)(hu:X.A.units+64<cLine)(ok:DF xs ys=true)(rs:aj X.K H ρ xs vs)(rs':aj X.K H ρ ys ws)(rv:Vals vs its)(rv':Vals ws its') :
 ∀(j:Nat)(h1:j<its.toArray.size)(h2:j<its'.toArray.size),SeqAt.EqAt X.A.in1 s its.toArray[j] its'.toArray[j] (KE xs ys j):=fun j h1 h2=>by
 simp only[DF,Bool.and_eq_true,decide_eq_true_eq]at ok;rw[size_toArray]at h1 h2;have:=aL I xs ys X.A.in1 ok.1.1 ok.1.2 (by have:=iJ X.A;omega) rs rs' rv rv' j h1 h2;simpa using this
theorem xB(hu:X.A.units+64<cLine):OM X (compareOp .Eq) XA:=by
 with_unfolding_all
  intro pins s σ H x y v u Q I rx ry h;obtain⟨ρ,h,d1,d2,d,h',S,R1,R2,e,k⟩:=h;unfold XA at e;split at e
  · rename_i xs ys;obtain⟨ok,e⟩:=ME e;cases e;obtain⟨a,vs,z,t,rs⟩:=Bj.mp R1;obtain⟨b,ws,z',t',rs'⟩:=Bj.mp R2;subst z z';cases rx;cases ry;obtain⟨its,rv,tp,_⟩:=I.tuple t.sq;obtain⟨its',rv',Jq,_⟩:=I.tuple t'.sq;have l1:its.length=xs.length:=by rw[<- rv.length,rs.length]
    have l2:its'.length=ys.length:=by rw[<- rv'.length,rs'.length]
    refine SeqAt.eq_tupleAt (e:=KE xs ys) (lD tp) (lD Jq) (by omega) (HK I hu ok rs rs' rv rv') ?_;refine⟨.bl _,H,I,rfl,k ρ _ H (fj.mpr (congrArg V.bl ?_)) S (Ext.refl _ _)⟩;rw[size_toArray,size_toArray,l1,l2];by_cases hl:xs.length=ys.length
    · rw[<- hl,Nat.min_self,LG xs ys hl,beq_self_eq_true,Bool.and_true]
    · have hb:(xs.length==ys.length)=false:=by simpa using hl
      rw[KG xs ys hl,hb,Bool.and_false]
  · rename_i xs ys;obtain⟨ok,e⟩:=ME e;cases e;obtain⟨a,vs,z,t,rs⟩:=mj.mp R1;obtain⟨b,ws,z',t',rs'⟩:=mj.mp R2;subst z z';cases rx;cases ry;obtain⟨its,rv,tp,_⟩:=I.list t.sq;obtain⟨its',rv',Jq,_⟩:=I.list t'.sq;have l1:its.length=xs.length:=by rw[<- rv.length,rs.length]
    have l2:its'.length=ys.length:=by rw[<- rv'.length,rs'.length]
    by_cases hl:xs.length=ys.length
    · refine SeqAt.eq_listAt (e:=KE xs ys) tp.isList Jq.isList (by rw[size_toArray,size_toArray,l1,l2,hl]) (by omega) (HK I hu ok rs rs' rv rv') ?_;refine⟨.bl _,H,I,rfl,k ρ _ H (fj.mpr (congrArg V.bl ?_)) S (Ext.refl _ _)⟩;rw[size_toArray,l1,LG xs ys hl]
    · refine SeqAt.eq_list_lengthsAt tp.isList Jq.isList (by rw[size_toArray,size_toArray,l1,l2];simpa using hl) (by omega) ?_;exact⟨.bl _,H,I,rfl,k ρ _ H (fj.mpr (by rw[KG xs ys hl])) S (Ext.refl _ _)⟩
  · exact M7 pins s σ H x y v u Q I rx ry ⟨ρ,h,d1,d2,d,h',S,R1,R2,e,k⟩
theorem HF(hu:X.A.units+64<cLine):OM X (compareOp .NotEq) VC:=by
 with_unfolding_all
  intro pins s σ H x y v u Q I rx ry h;obtain⟨ρ,h,d1,d2,d,h',S,R1,R2,e,k⟩:=h;unfold VC at e;split at e
  · rename_i xs ys;obtain⟨ok,e⟩:=ME e;cases e;obtain⟨a,vs,z,t,rs⟩:=Bj.mp R1;obtain⟨b,ws,z',t',rs'⟩:=Bj.mp R2;subst z z';cases rx;cases ry;obtain⟨its,rv,tp,_⟩:=I.tuple t.sq;obtain⟨its',rv',Jq,_⟩:=I.tuple t'.sq;have l1:its.length=xs.length:=by rw[<- rv.length,rs.length]
    have l2:its'.length=ys.length:=by rw[<- rv'.length,rs'.length]
    refine XY (e:=KE xs ys) (lD tp) (lD Jq) (by omega) (HK I hu ok rs rs' rv rv') ?_;refine⟨.bl _,H,I,rfl,k ρ _ H (fj.mpr (congrArg V.bl ?_)) S (Ext.refl _ _)⟩;rw[size_toArray,size_toArray,l1,l2];by_cases hl:xs.length=ys.length
    · rw[<- hl,Nat.min_self,LG xs ys hl,beq_self_eq_true,Bool.and_true]
    · have hb:(xs.length==ys.length)=false:=by simpa using hl
      rw[KG xs ys hl,hb,Bool.and_false]
  · rename_i xs ys;obtain⟨ok,e⟩:=ME e;cases e;obtain⟨a,vs,z,t,rs⟩:=mj.mp R1;obtain⟨b,ws,z',t',rs'⟩:=mj.mp R2;subst z z';cases rx;cases ry;obtain⟨its,rv,tp,_⟩:=I.list t.sq;obtain⟨its',rv',Jq,_⟩:=I.list t'.sq;have l1:its.length=xs.length:=by rw[<- rv.length,rs.length]
    have l2:its'.length=ys.length:=by rw[<- rv'.length,rs'.length]
    by_cases hl:xs.length=ys.length
    · refine XZ (e:=KE xs ys) tp.isList Jq.isList (by rw[size_toArray,size_toArray,l1,l2,hl]) (by omega) (HK I hu ok rs rs' rv rv') ?_;refine⟨.bl _,H,I,rfl,k ρ _ H (fj.mpr (congrArg V.bl ?_)) S (Ext.refl _ _)⟩;rw[size_toArray,l1,LG xs ys hl]
    · refine LW tp.isList Jq.isList (by rw[size_toArray,size_toArray,l1,l2];simpa using hl) (by omega) ?_;exact⟨.bl _,H,I,rfl,k ρ _ H (fj.mpr (by rw[KG xs ys hl];rfl)) S (Ext.refl _ _)⟩
  · exact N7 pins s σ H x y v u Q I rx ry ⟨ρ,h,d1,d2,d,h',S,R1,R2,e,k⟩
def oE:List Dt->Option (List V)
 | []=>some []
 | d::ds=>(TC d).bind fun v=>(oE ds).map fun vs=>v::vs
theorem UR{K:Frag}{H:Hp}{ρ:Rg}:∀{ds:List Dt}{ws vs:List V},oE ds=some ws->aj K H ρ ds vs->vs=ws
 | [],_,_,e,r=>by simp only[oE]at e;cases e;exact r.Qj
 | d::ds,_,_,e,r=>by
  simp only[oE]at e;obtain⟨v,e1,e⟩:=kA e;cases q:oE ds with
  | none=>rw[q]at e;cases e
  | some vs=>rw[q]at e;cases e;obtain⟨v',r',z,r1,r2⟩:=r.Cj;subst z;rw[RH e1 r1,UR q r2]
theorem XT{d:Dt}{v:V}(e:TC d=some v):jF v=true:=by cases d<;>simp only[TC]at e<;>first | (cases e;rfl) | cases e
theorem pT:∀{ds:List Dt}{ws:List V},oE ds=some ws->ws.all jF=true
 | [],_,e=>by simp only[oE]at e;cases e;rfl
 | d::ds,_,e=>by
  simp only[oE]at e;obtain⟨v,e1,e⟩:=kA e;cases q:oE ds with
  | none=>rw[q]at e;cases e
  | some vs=>rw[q]at e;cases e;rw[all_cons,XT e1,pT q];rfl
def kM(neg:Bool):RC:=fun a b h=>(TC a).bind fun x=>(SE h b).bind fun ys=>(oE ys).bind fun zs=>some (.bl (if neg then !wQ x zs else wQ x zs),h)
theorem U1{neg:Bool}{x y:V}{H:Hp}{Q:VK}(h:rM X.K (kM neg) x y H Q):g9 X.K neg x y H Q:=by obtain⟨ρ,h,d1,d2,d,h',S,R1,R2,e,k⟩:=h;obtain⟨x',e1,e⟩:=kA e;obtain⟨ys,e2,e⟩:=kA e;obtain⟨zs,e3,e⟩:=kA e;cases e;obtain⟨p,vs,e4,sq,r⟩:=gL S R2 e2;have e5:=UR e3 r;subst e5;have e6:=RH e1 R1;subst e6;exact⟨p,vs,e4,sq,XT e1,pT e3,k ρ _ H (fj.mpr rfl) S (Ext.refl _ _)⟩
theorem cS:OM X (compareOp .NotIn) (kM true):=by with_unfolding_all exact xq.imp GW fun _ _ _ _ h=>U1 h
def BH:RC:=fun a b h=>(lB h a).bind fun xs=>(lB h b).bind fun ys=>if xs.length+ys.length<=sizeLine then some (.lst (xs++ys),h)else none
theorem a7:OM X (binaryOp .Add) BH:=by with_unfolding_all exact xq.imp N0 fun x y H Q zz=>by obtain⟨ρ,h,d1,d2,d,h',S,R1,R2,e,k⟩:=zz;obtain⟨xs,e1,e⟩:=kA e;obtain⟨ys,e2,e⟩:=kA e;obtain⟨hz,e⟩:=ME e;cases e;obtain⟨l,vs,z1,q1,r1⟩:=dF S R1 e1;obtain⟨b,ws,z2,q2,r2⟩:=dF S R2 e2;exact⟨l,b,vs,ws,z1,z2,q1,q2,by rw[r1.length,r2.length];exact hz,fun p hp=>k ρ _ _ (DJ S (r1.append r2) hp) (S.fresh hp) (Ext.fresh hp)⟩
noncomputable def GC(F:Dt->HI->Option (Dt×HI))(f:RE):RE:=fun l h=>(f l h).bind fun r=>F r.1 r.2
theorem pU{x:Str}{id:String}{r:List V->Hp->VK->Prop}{F:Dt->HI->Option (Dt×HI)}(hc:Uj X (.builtin id) r)(hF:∀ρ h d v d' h' H Q,gj X.K ρ h H->cj X.K H ρ d v->F d h=some (d',h')->Out X.K ρ H d' h' Q->r [v] H Q)
 (hg:Gl X x) (hm:X.mg x=none) (hv:bootBuiltins x=some (.builtin id)) (ha:EM X e f) (hn:x ≠ "__name__" :=by decide) (hdb:(x==("__debug__" :Str))=false:=by decide) (hs:oB e=true:=by rfl) :
 EM X (.Call (.Name x p) [e] [] pos) (GC F f):=by
 with_unfolding_all exact PE.imp (BO hc hg hm hv (FC ha tD (pB hs _ _)) hn hdb (he:=pB hs _ _)) fun σ H Q zz=>by obtain⟨ρ,l,h,d,h',S,L,e,k⟩:=zz;obtain⟨⟨d1,h1⟩,e1,e⟩:=kA e;exact⟨ρ,l,h,d1,h1,S,L,e1,fun ρ1 v H1 R1 S1 E1=>hF ρ1 h1 d1 v d h' H1 Q S1 R1 e (k.ext E1)⟩
theorem dQ{x:Str}{T:String}{r:List V->Hp->VK->Prop}{F:Dt->HI->Option (Dt×HI)}(hc:Uj X (.type T) r)(hF:∀ρ h d v d' h' H Q,gj X.K ρ h H->cj X.K H ρ d v->F d h=some (d',h')->Out X.K ρ H d' h' Q->r [v] H Q)
 (hg:Gl X x) (hm:X.mg x=none) (hv:bootBuiltins x=some (.type T)) (ha:EM X e f) (hn:x ≠ "__name__" :=by decide) (hdb:(x==("__debug__" :Str))=false:=by decide) (hs:oB e=true:=by rfl) :
 EM X (.Call (.Name x p) [e] [] pos) (GC F f):=by
 with_unfolding_all exact PE.imp (bZ hc hg hm hv (FC ha tD (pB hs _ _)) hn hdb (he:=pB hs _ _)) fun σ H Q zz=>by obtain⟨ρ,l,h,d,h',S,L,e,k⟩:=zz;obtain⟨⟨d1,h1⟩,e1,e⟩:=kA e;exact⟨ρ,l,h,d1,h1,S,L,e1,fun ρ1 v H1 R1 S1 E1=>hF ρ1 h1 d1 v d h' H1 Q S1 R1 e (k.ext E1)⟩
def YB:Dt->HI->Option (Dt×HI):=fun d h=>match d with
 | .str z=>if z.length<=sizeLine then some (.int z.length,h)else none
 | d=>(SE h d).map fun xs=>(.int xs.length,h)
theorem DD (hg:Gl X "len") (hm:X.mg "len" =none) (ha:EM X e f) (hs:oB e=true:=by rfl):EM X (.Call (.Name "len" p) [e] [] pos) (GC YB f):=by
 with_unfolding_all
  exact pU (Uj.or OW QW) (fun ρ h d v d' h' H Q S R e k=>by
   unfold YB at e;split at e
   · rename_i z;obtain⟨hz,e⟩:=ME e;cases e;exact .inr ⟨z,by rw[kj.mp R],hz,k ρ _ H (dj.mpr rfl) S (Ext.refl _ _)⟩
   · cases q:SE h d with
     | none=>rw[q]at e;cases e
     | some xs=>
      rw[q]at e;cases e;obtain⟨a,vs,z,sq,r⟩:=gL S R q;exact .inl ⟨a,vs,by rw[z],sq,by rw[r.length];exact k ρ _ H (dj.mpr rfl) S (Ext.refl _ _)⟩) hg hm PySem.boot_len ha (hs:=hs)
def YG:Dt->HI->Option (Dt×HI):=fun d h=>(SE h d).map fun xs=>(.ref h.length,h++[.lst xs])
theorem nO (hg:Gl X "list") (hm:X.mg "list" =none) (ha:EM X e f) (hs:oB e=true:=by rfl):EM X (.Call (.Name "list" p) [e] [] pos) (GC YG f):=by
 with_unfolding_all
  exact dQ RW (fun ρ h d v d' h' H Q S R e k=>by
   unfold YG at e;cases q:SE h d with
   | none=>rw[q]at e;cases e
   | some xs=>
    rw[q]at e;cases e;obtain⟨a,vs,z,sq,r⟩:=gL S R q;exact⟨a,vs,by rw[z],sq,fun l hl=>k _ _ _ (gI S r hl).1 (gI S r hl).2 (Ext.own hl)⟩) hg hm PyProof.Rows.boot_list ha (hs:=hs)
noncomputable def M6:List Dt->Option (List Int)
 | []=>some []
 | .int i::ds=>(M6 ds).map fun ns=>i::ns
 | _::_=>none
noncomputable def tE(h:HI):Dt->Option String
 | .non=>some "NoneType"
 | .bl _=>some "bool"
 | .int _=>some "int"
 | .str _=>some "str"
 | .tup _=>some "tuple"
 | .lst _=>some "list"
 | .ref n=>match h[n]? with | some (.lst _)=>some "list" | _=>none
 | .qx _=>none
 | .err _ _ _=>none
 | .thr _ _ _=>none
noncomputable def eM (t T:String):Bool:=t==T || (t == "bool" && T == "int")
def vC(T:String)(f:RE):RE:=fun l h=>(f l h).bind fun r=>(tE r.2 r.1).map fun t=>(.bl (eM t T),r.2)
theorem C2 (K:Frag):∀t ∈ ["NoneType", "bool", "int", "str", "tuple", "list"],∀T ∈ ["bool", "int", "str", "tuple", "list"],PySem.W.kitOne K (.type t) (.type T)=some (eM t T):=by intro t ht T hT;simp only[mem_cons,mem_nil_iff,or_false]at ht hT;rcases ht with rfl | rfl | rfl | rfl | rfl | rfl<;>rcases hT with rfl | rfl | rfl | rfl | rfl<;>with_unfolding_all rfl
theorem T5 {h:HI} {d:Dt} {t:String} (e:tE h d=some t):t ∈ ["NoneType", "bool", "int", "str", "tuple", "list"]:=by
 cases d with
 | ref n=>
  simp only[tE]at e;split at e
  · cases e;decide
  · cases e
 | qx n=>simp only[tE]at e;cases e
 | err n m k=>simp only[tE]at e;cases e
 | thr n m k=>simp only[tE]at e;cases e
 | _=>simp only[tE]at e<;>cases e<;>decide
theorem J7{K:Frag}{H:Hp}{ρ:Rg}{h:HI}{d:Dt}{v:V}{t:String}(S:gj K ρ h H)(R:cj K H ρ d v)(e:tE h d=some t):a9 K H v t:=by
 cases d with
 | non=>cases zj.mp R;simp only[tE]at e;cases e;rfl
 | bl b=>cases fj.mp R;simp only[tE]at e;cases e;rfl
 | int b=>cases dj.mp R;simp only[tE]at e;cases e;rfl
 | str b=>cases kj.mp R;simp only[tE]at e;cases e;rfl
 | tup xs=>obtain⟨a,vs,z,t,rs⟩:=Bj.mp R;subst z;simp only[tE]at e;cases e;exact .inr ⟨rfl,vs,t.sq⟩
 | lst xs=>obtain⟨a,vs,z,t,rs⟩:=mj.mp R;subst z;simp only[tE]at e;cases e;exact .inl ⟨rfl,vs,t.sq⟩
 | ref n=>
  obtain⟨a,z,ha⟩:=wj.mp R;subst z;simp only[tE]at e;split at e
  · rename_i xs q;cases e;obtain⟨vs,h1,_⟩:=S.lst ha q;exact .inl ⟨rfl,vs,Wj.of h1⟩
  · cases e
 | qx n=>simp only[tE]at e;cases e
 | err n m k=>simp only[tE]at e;cases e
 | thr n m k=>simp only[tE]at e;cases e
theorem kG {T:Str} {TT:String} (hg:Gl X "isinstance") (hm:X.mg "isinstance" =none) (Qv:Gl X T) (Fw:X.mg T=none) (hv:bootBuiltins T=some (.type TT)) (hT:TT ∈ ["bool", "int", "str", "tuple", "list"]) (ha:EM X e f)
 (hnT:T ≠ "__name__" :=by decide) (hdT:(T==("__debug__" :Str))=false:=by decide)
 (hs:oB e=true:=by rfl) :
 EM X (.Call (.Name "isinstance" p) [e,.Name T p2] [] pos) (vC TT f):=by
 with_unfolding_all
  exact PE.imp (BO (MY (T:=TT)) hg hm PyProof.Rows.boot_isinstance (FC ha (FC (vT Qv Fw hv (v:=.ty TT) rfl hnT hdT) tD (pB rfl _ _)) (pB hs _ _)) (he:=pB hs _ _)) fun σ H Q zz=>by
   obtain⟨ρ,l,h,d,h',S,L,e,k⟩:=zz;obtain⟨⟨d1,h1⟩,e1,e⟩:=kA e;refine⟨ρ,l,h,d1,h1,S,L,e1,fun ρ1 v H1 R1 S1 E1=>?_⟩;cases q:tE h1 d1 with
   | none=>rw[q]at e;cases e
   | some t=>rw[q]at e;cases e;exact⟨v,t,eM t TT,rfl,J7 S1 R1 q,C2 X.K t (T5 q) TT hT,k ρ1 _ H1 (fj.mpr rfl) S1 E1⟩
abbrev RO:=LI->HI->Option (Option Int×HI)
noncomputable def MQ(f:RE):RO:=fun l h=>(f l h).bind fun r=>match r.1 with | .int i=>some (some i,r.2) | _=>none
def D9(K:Frag)(f:RO):TO:=fun σ H Q=>∃ρ l h o h',gj K ρ h H/\Jj K H ρ l σ/\f l h=some (o,h')/\Hz K ρ H h' (Q o)
@[irreducible] def YU(X:Cx)(e:Option Expr)(f:RO):Prop:=PO X e (D9 X.K f)
theorem PO.imp{X:Cx}{e:Option Expr}{t t':TO}(h:PO X e t)(i:∀σ H Q,t' σ H Q->t σ H Q):PO X e t':=fun pins s σ H Q I q=>h pins s σ H Q I (i σ H Q q)
theorem uT(ha:EM X a fa):YU X (some a) (MQ fa):=by
 with_unfolding_all
  exact PO.imp (X4 ha) fun σ H Q zz=>by
   obtain⟨ρ,l,h,o,h',S,L,e,k⟩:=zz;obtain⟨⟨d1,h1⟩,e1,e⟩:=kA e;refine⟨ρ,l,h,d1,h1,S,L,e1,fun ρ1 v H1 R1 S1 E1=>?_⟩;cases d1 with
   | int i=>cases e;exact⟨i,dj.mp R1,k ρ1 H1 S1 E1⟩
   | _=>cases e
def tH(xs:List Dt)(lo hi:Option Int):List Dt:=(xs.drop (HT.Fx xs.length 0 lo)).take (HT.Fx xs.length xs.length hi-HT.Fx xs.length 0 lo)
def iV(f:RE)(lo hi:RO):RE:=fun l h=>(f l h).bind fun r=>(lo l r.2).bind fun o=>(hi l o.2).bind fun u=>(lB u.2 r.1).map fun xs=>(.lst (tH xs o.1 u.1),u.2)
theorem N2{K:Frag}{H:Hp}{ρ:Rg}{xs:List Dt}{vs:List V}(r:aj K H ρ xs vs)(lo hi:Option Int):aj K H ρ (tH xs lo hi) (uH vs lo hi):=by unfold tH uH;rw[r.length];exact(r.drop _).take _
theorem AY{lo hi:Option Expr}{fl fh:RO}(ha:EM X a fa)(hl:YU X lo fl)(hh:YU X hi fh):EM X (.Subscript a (.Slice lo hi none p2) pos) (iV fa fl fh):=by
 with_unfolding_all
  exact PE.imp (vZ M3 ha hl hh) fun σ H Q zz=>by
   obtain⟨ρ,l,h,d,h',S,L,e,k⟩:=zz;obtain⟨⟨d1,h1⟩,e1,e⟩:=kA e;obtain⟨⟨o,h2⟩,e2,e⟩:=kA e;obtain⟨⟨u,h3⟩,e3,e⟩:=kA e;refine⟨ρ,l,h,d1,h1,S,L,e1,fun ρ1 v H1 R1 S1 E1=>⟨ρ1,l,h1,o,h2,S1,L.ext E1,e2,fun ρ2 H2 S2 E2=>⟨ρ2,l,h2,u,h3,S2,L.ext (E1.trans E2),e3,fun ρ3 H3 S3 E3=>?_⟩⟩⟩;cases q:lB h3 d1 with
   | none=>dsimp only at e;rw[q]at e;cases e
   | some xs=>dsimp only at e;rw[q]at e;cases e;obtain⟨x,vs,z,sq,r⟩:=dF S3 (cj.ext (E2.trans E3) _ R1) q;exact⟨x,vs,z,sq,fun p hp=>k ρ3 _ _ (DJ S3 (N2 r o u) hp) (S3.fresh hp) (E1.trans (E2.trans (E3.trans (Ext.fresh hp))))⟩
noncomputable def hV(fo fa:RE):RE:=fun l h=>(fo l h).bind fun r=>match r.1 with
 | .ref n=>(fa l r.2).bind fun q=>match q.2[n]? with
  | some (.lst xs)=>if xs.length<sizeLine then some (.non,q.2.set n (.lst (xs++[q.1])))else none
  | _=>none
 | _=>none
theorem NT {K:Frag} {H:Hp} {ρ:Rg} {h:HI} {n:Nat} {xs:List Dt} {v:V} (S:gj K ρ h H) (R:cj K H ρ (.ref n) v) (e:h[n]?=some (.lst xs)):QV K "list" v H:=by obtain⟨a,z,ha⟩:=wj.mp R;subst z;obtain⟨vs,h1,_⟩:=S.lst ha e;exact .inl ⟨rfl,vs,Wj.of h1⟩
def bE(fa fb:RE):RE:=fun l h=>(fa l h).bind fun r=>match r.1 with
 | .ref n=>match r.2[n]? with
  | some (.lst _)=>hV (eC (.ref n)) fb l r.2
  | _=>none
 | _=>none
theorem LH {apos cpos:Pos} (ho:EM X a fa) (hb:EM X b fb) (hbase:attributeBase a "append" X.env (eval a X.env)=eval a X.env:=by rfl)
 (hline:(apos.endLine==cpos.line)=true:=by rfl) (hs:oB b=true:=by rfl) :
 EM X (.Call (.Attribute a "append" apos) [b] [] cpos) (bE fa fb):=by
 with_unfolding_all
  exact PE.imp (QJ PySem.F.plainAttrs_list PySem.F.slot_list_append PySem.F.type_list_append aS ho (FC hb tD (pB hs _ _)) hbase (pJ hs) hline (pB hs _ _)) fun σ H Q zz=>by
   obtain⟨ρ,l,h,d,h',S,L,e,k⟩:=zz;obtain⟨⟨d1,h1⟩,e1,e⟩:=kA e;refine⟨ρ,l,h,d1,h1,S,L,e1,fun ρ1 v H1 R1 S1 E1=>?_⟩;cases d1 with
   | ref n=>
    dsimp only at e;split at e
    · rename_i xs0 q0;obtain⟨⟨d0,h0⟩,z0,e⟩:=kA e;cases z0;dsimp only at e;obtain⟨⟨d2,h2⟩,e2,e⟩:=kA e;refine⟨NT S1 R1 q0,ρ1,l,h1,d2,h2,S1,L.ext E1,e2,fun ρ2 y H2 R2 S2 E2=>?_⟩;dsimp only at e;split at e
      · rename_i xs q;obtain⟨hz,e⟩:=ME e;cases e;obtain⟨a,z,ha⟩:=wj.mp R1;subst z;have ha2:=E2.get ha;obtain⟨vs,g1,g2⟩:=S2.lst ha2 q;have hm:=mem_of_getElem? ha2;refine⟨a,vs,y,rfl,rfl,g1,by rw[g2.length];exact hz,k ρ2 _ _ (zj.mpr rfl) (S2.write ha2 (AH g1) ⟨_,KB,?_⟩) (E1.trans (E2.trans (Ext.write hm (AH g1))))⟩;exact(g2.append (.cons R2 .nil)).ext (Ext.write hm (AH g1))
      · cases e
    · cases e
   | _=>cases e
end
def hE:List Dt->Dt->Option Nat
 | [],_=>none
 | y::ys,x=>if GB y x=true then some 0 else(hE ys x).map (· + 1)
theorem WR:∀{ys:List Dt}{x:Dt}{j:Nat},hE ys x=some j->(∃y,ys[j]?=some y/\GB y x=true)/\∀(m:Nat),m<j->∃y,ys[m]?=some y/\GB y x=false
 | [],_,_,e=>by simp only[hE]at e;cases e
 | y::ys,x,j,e=>by
  simp only[hE]at e;by_cases h:GB y x=true
  · rw[if_pos h]at e;cases e;exact⟨⟨y,rfl,h⟩,fun m hm=>absurd hm (Nat.not_lt_zero _)⟩
  · rw[if_neg h]at e;cases q:hE ys x with
    | none=>rw[q]at e;cases e
    | some k=>
     rw[q]at e;cases e;obtain⟨⟨z,z1,z2⟩,no⟩:=WR q;refine⟨⟨z,by simpa using z1,z2⟩,fun m hm=>?_⟩;cases m with
     | zero=>exact⟨y,rfl,by simpa using h⟩
     | succ m=>obtain⟨u,u1,u2⟩:=no m (Nat.lt_of_succ_lt_succ hm);exact⟨u,by simpa using u1,u2⟩
section
variable{X:Cx}{pins:List (Addr×Obj)}{σ:L2.St}{H:Hp}{s:Shared}{ρ:Rg}
def yI(xs:List Dt)(d:Dt)(k:Nat):Bool:=match xs[k]? with | some z=>GB z d | none=>false
theorem DK:∀{xs:List Dt}{k:Nat}{z:Dt},lC xs=true->xs[k]?=some z->LA z=true
 | [],_,_,_,e=>by simp at e
 | x::xs,0,z,h,e=>by simp only[lC,Bool.and_eq_true]at h;simp at e;subst e;exact h.1
 | x::xs,k+1,z,h,e=>by simp only[lC,Bool.and_eq_true]at h;exact DK h.2 (by simpa using e)
theorem PR:∀{xs:List Dt}{k:Nat}{z:Dt},xs[k]?=some z->RF z<=OC xs
 | [],_,_,e=>by simp at e
 | x::xs,0,z,e=>by simp at e;subst e;simp only[OC];exact Nat.le_max_left _ _
 | x::xs,k+1,z,e=>by simp only[OC];exact Nat.le_trans (PR (xs:=xs) (k:=k) (by simpa using e)) (Nat.le_max_right _ _)
open Classical in
theorem sU(I:Inv X pins σ H s){xs:List Dt}{d:Dt}{ws:List V}{v:V}{its:List Value}{u:Value}(A:Around)(p:lC xs=true)(p':LA d=true)(hu:A.units+OC xs<cLine)(rs:aj X.K H ρ xs ws)(rd:cj X.K H ρ d v)(rv:Vals ws its)(ru:RelV v u) :
 ∃e:Value->Bool,(∀(k:Nat)(hk:k<its.length),e its[k]=yI xs d k)/\∀y∈its,SeqAt.EqAt A s y u (e y):=by
 have key:∀(k:Nat)(y:Value),its[k]?=some y->∃z w,xs[k]?=some z/\ws[k]?=some w/\cj X.K H ρ z w/\RelV w y:=fun k y e=>by
  have hl:=rv.length;have hk:k<xs.length:=by have:=(Df e).1;have h2:=rs.length;omega
  obtain⟨w,w1,w2⟩:=rs.get (getElem?_eq_getElem hk);obtain⟨y',y1,y2⟩:=rv.get w1;rw[e]at y1;cases y1;exact⟨_,w,getElem?_eq_getElem hk,w1,w2,y2⟩
 have same:∀(k m:Nat)(y:Value),its[k]?=some y->its[m]?=some y->yI xs d k=yI xs d m:=fun k m y e1 e2=>by obtain⟨z,w,a1,_,a3,a4⟩:=key k y e1;obtain⟨z',w',b1,_,b3,b4⟩:=key m y e2;have ew:=RelV.inj a4 b4;subst ew;have ez:=fL I z z' (DK p a1) (DK p b1) a3 b3;unfold yI;rw[a1,b1,ez]
 refine⟨fun y=>if h:∃k,its[k]?=some y then yI xs d h.choose else false,fun k hk=>?_,fun y hy=>?_⟩
 · have hex:∃m,its[m]?=some its[k]:=⟨k,getElem?_eq_getElem hk⟩
   dsimp only;rw[dif_pos hex];exact same _ _ _ hex.choose_spec (getElem?_eq_getElem hk)
 · obtain⟨k,hk⟩:=mem_iff_getElem?.mp hy;have hex:∃m,its[m]?=some y:=⟨k,hk⟩
   dsimp only;rw[dif_pos hex];obtain⟨z,w,a1,_,a3,a4⟩:=key _ y hex.choose_spec;have ec:yI xs d hex.choose=GB z d:=by unfold yI;rw[a1]
   rw[ec];exact QT I z d A (DK p a1) p' (by have:=PR a1;omega) a3 rd a4 ru
theorem K1{xs:List Dt}{d:Dt}{j:Nat}(h:hE xs d=some j):j<xs.length/\yI xs d j=true/\∀m,m<j->yI xs d m=false:=by obtain⟨⟨y,y1,y2⟩,no⟩:=WR h;refine⟨(Df y1).1,by unfold yI;rw[y1];exact y2,fun m hm=>?_⟩;obtain⟨z,z1,z2⟩:=no m hm;unfold yI;rw[z1];exact z2
end
def lF(xs:List Dt)(d:Dt):Bool:=lC xs&&LA d&&decide (OC xs<=50)
def uV(K:Frag)(tup:Bool):V->List V->Hp->VK->Prop:=fun x vs H Q=>∃ρ xs d y a ws j,x=.ref a/\vs=[y]/\(if tup=true then xI K H a ws else Wj K H a ws)/\aj K H ρ xs ws/\cj K H ρ d y/\lF xs d=true/\hE xs d=some j/\Q (.int (j:Nat)) H
section
variable{X:Cx}{a b:Expr}{fa fb:RE}
theorem UY (hu:X.A.units+64<cLine):IU X "list.index" (uV X.K false):=by
 intro pins s σ H x vs v us Q I rx rv h;obtain⟨ρ,xs,d,y,p,ws,j,rfl,rfl,sq,rs,rd,ok,hj,q⟩:=h;rw[if_neg Gf]at sq;cases rx;obtain⟨u,rfl,ru⟩:=kI rv;simp only[lF,Bool.and_eq_true,decide_eq_true_eq]at ok;obtain⟨its,Mx,⟨⟨c1,d1,t1,Sw⟩,n,e0,k1,k2,k3⟩,z⟩:=I.list sq;simp only at k1 k2 k3;subst k1 k2 k3;obtain⟨e,e1,e2⟩:=sU I X.A.in1 ok.1.1 ok.1.2 (by have:=iJ X.A;omega) rs rd Mx ru;obtain⟨j1,j2,j3⟩:=K1 hj;have hl:its.length=xs.length:=by rw[<- Mx.length,rs.length]
 have hz:j<its.length:=by omega
 have hn:=bH;refine call_meets PySem.F.slot_list_index ⟨_,e0,rfl⟩ PySem.F.entry_list_index (PySem.F.args_list_index_2 _ _)
  (SeqAt.list_indexAt p its.toArray n none Sw u e j (by rw[size_toArray];exact hz) (by have:=Mx.length;omega) ?_ ?_) ⟨e0,fun y hy=>e2 y (by simpa using hy),⟨.int (j:Nat),H,I.tok _,⟨_,rfl⟩,q⟩⟩
 · have:=e1 j hz;rw[j2]at this;simpa using this
 · intro m hm Wt;rw[size_toArray]at hm;have:=e1 m hm;rw[j3 m Wt]at this;simpa using this
noncomputable def nC(K:Frag):Nat->Value->Option Dt
 | _,.none=>some .non
 | _,.bool b=>some (.bl b)
 | _,.int i _=>some (.int i)
 | _,.str x _=>some (.str x)
 | 0,_=>none
 | n+1,.ref a=>match K.lookup a with
  | some ⟨.type T,dd,.seq its _,_⟩=>if its.size<=sizeLine then
   if T = "tuple" then(its.toList.mapM (nC K n)).map .tup
   else if T = "list" then match dd with | none=>(its.toList.mapM (nC K n)).map .lst | some _=>none
   else none
   else none
  | _=>none
 | _,_=>none
noncomputable def zQ:Value->V
 | .none=>.non
 | .bool b=>.bl b
 | .int i _=>.int i
 | .str x _=>.str x
 | .ref a=>.ref a
 | _=>.non
theorem wO{K:Frag}{H:Hp}{ρ:Rg}{f:Value->Option Dt}(h:∀u d,f u=some d->RelV (zQ u) u/\cj K H ρ d (zQ u)):∀{us:List Value}{ds:List Dt},us.mapM f=some ds->Vals (us.map zQ) us/\aj K H ρ ds (us.map zQ)
 | [],_,e=>by simp at e;subst e;exact⟨.nil,.nil⟩
 | u::us,ds,e=>by
  rw[mapM_cons]at e;cases q:f u with
  | none=>rw[q]at e;cases e
  | some d=>
   rw[q]at e;cases q2:us.mapM f with
   | none=>rw[q2]at e;cases e
   | some ds'=>rw[q2]at e;cases e;obtain⟨h1,h2⟩:=h u d q;obtain⟨h3,h4⟩:=wO h q2;exact⟨.cons h1 h3,.cons h2 h4⟩
theorem xR{K:Frag}{H:Hp}{ρ:Rg}:∀(n:Nat)(u:Value)(d:Dt),nC K n u=some d->RelV (zQ u) u/\cj K H ρ d (zQ u):=by
 intro n
 induction n with
 | zero=>
  intro u d e;cases u with
  | none=>simp only[nC]at e;cases e;exact⟨rfl,zj.mpr rfl⟩
  | bool b=>simp only[nC]at e;cases e;exact⟨rfl,fj.mpr rfl⟩
  | int i t=>simp only[nC]at e;cases e;exact⟨⟨_,rfl⟩,dj.mpr rfl⟩
  | str x t=>simp only[nC]at e;cases e;exact⟨⟨_,rfl⟩,kj.mpr rfl⟩
  | _=>simp only[nC]at e<;>cases e
 | succ n ih=>
  intro u d e;cases u with
  | none=>simp only[nC]at e;cases e;exact⟨rfl,zj.mpr rfl⟩
  | bool b=>simp only[nC]at e;cases e;exact⟨rfl,fj.mpr rfl⟩
  | int i t=>simp only[nC]at e;cases e;exact⟨⟨_,rfl⟩,dj.mpr rfl⟩
  | str x t=>simp only[nC]at e;cases e;exact⟨⟨_,rfl⟩,kj.mpr rfl⟩
  | ref a=>
   simp only[nC]at e;split at e
   · rename_i T dd its m sl q;by_cases hz:its.size<=sizeLine
     · rw[if_pos hz]at e;by_cases hT:T = "tuple"
       · rw[if_pos hT]at e;cases q2:its.toList.mapM (nC K n)with
         | none=>rw[q2]at e;cases e
         | some ds=>rw[q2]at e;cases e;obtain⟨h1,h2⟩:=wO (K:=K) (H:=H) (ρ:=ρ) ih q2;subst hT;exact⟨rfl,Bj.mpr ⟨a,_,rfl,.inr ⟨_,its,m,q,rfl,rfl,hz,h1⟩,h2⟩⟩
       · rw[if_neg hT]at e;by_cases hT2:T = "list"
         · rw[if_pos hT2]at e;split at e
           · cases q2:its.toList.mapM (nC K n)with
             | none=>rw[q2]at e;cases e
             | some ds=>rw[q2]at e;cases e;obtain⟨h1,h2⟩:=wO (K:=K) (H:=H) (ρ:=ρ) ih q2;subst hT2;exact⟨rfl,mj.mpr ⟨a,_,rfl,.inr ⟨_,its,m,q,rfl,rfl,rfl,hz,h1⟩,h2⟩⟩
           · cases e
         · rw[if_neg hT2]at e;cases e
     · rw[if_neg hz]at e;cases e
   · cases e
  | _=>simp only[nC]at e<;>cases e
structure nH(K:Frag)(mg:Str->Option Value)(x:Str)(d:Dt):Prop where
 ex:∃u n,mg x=some u/\nC K n u=some d
theorem xJ {x:Str} {d:Dt} {pos:Pos} (hg:Gl X x) (c:nH X.K X.mg x d) (hd:(x==("__debug__" :Str))=false:=by decide):EM X (.Name x pos) (eC d):=by with_unfolding_all obtain⟨u,n,h1,h2⟩:=c.ex;exact S0 hg h1 (xR (H:=fun _=>none) (ρ:=.nil) n u d h2).1 (fun H ρ=>(xR n u d h2).2) hd
end
theorem W6{K:Frag}{F:kB}{n:Nat}(h:∀ns:List Int,ns.length<=n->∃h',F [.lst (ns.map Dt.int)] []=some (.bl true,h'))(H:Hp)(a:Addr)(ns:List Int)(hl:ns.length<=n)(hS:Wj K H a (ns.map V.int)) :
 NI K 1 F [.ref a] H (fun v _=>v=.bl true) fun _ _ _=>False:=by
 obtain⟨h',e⟩:=h ns hl;have R:cj K H .nil (.lst (ns.map Dt.int)) (.ref a):=mj.mpr ⟨a,_,rfl,by
  rcases hS with hS | hS
  · exact .inl ⟨⟨by simp[Rg.nil],by simp[Rg.nil]⟩,hS⟩
  · exact .inr hS,aj.ints ns⟩
 exact⟨.nil,[.lst (ns.map Dt.int)],[],.bl true,h',gj.nil,.cons R .nil,rfl,e,fun ρ' v H' R' S' E'=>fj.mp R'⟩
structure pC(P:Program)(w:World)(K:Frag)(mg:Str->Option Value)(base:Heap)(k n:Nat)(x:Str)(F:kB):Prop where
 ex:∃f fd ps,Oj P w K mg base sE k f fd ps (NI K n F)/\mg x=some (.ref f)/\keepIn K (.ref f)=true/\Binds K fd ps []
 len:∀ds h r,F ds h=some r->ds.length=n
structure IB(K:Frag)(mg:Str->Option Value)(x:Str)(st:Stmt)(ps:List Str):Prop where
 ex:∃f fd,iz K x x st f fd/\mg x=some (.ref f)/\Binds K fd ps []
section
variable{P:Program}{w:World}{K:Frag}{mg:Str->Option Value}{base:Heap}
theorem C3{x qual:Str}{st:Stmt}{f:Addr}{fd:FuncData}{N ps:List Str}{k n m:Nat}{body:RS}(F:iz K x qual st f fd)(S:YA N ps (sA st))(hn:ps.length=n)(hm:N.length=m)
 (hb:∀(cdv:Value)(A:Around)(outer:List Env)(s:Shared)(H:Hp)(E:XK),Hj k (A.deeper (envOfC qual (sA st) s.heap.objs.size f cdv))->
  sH (mC sE P w K mg base N qual (sA st) f cdv A outer s H E).Yx (LB st) body):Oj P w K mg base sE (k+1) f fd ps (NI K n (FB n m body)):=by
 with_unfolding_all subst hn hm;exact vL F S hb
theorem RB{x:Str}{st:Stmt}{N ps:List Str}{k n m:Nat}{body:RS}(D:IB K mg x st ps)(S:YA N ps (sA st))(hn:ps.length=n)(hm:N.length=m)
 (hb:∀(f:Addr)(cdv:Value)(A:Around)(outer:List Env)(s:Shared)(H:Hp)(E:XK),Hj k (A.deeper (envOfC x (sA st) s.heap.objs.size f cdv))->
  sH (mC sE P w K mg base N x (sA st) f cdv A outer s H E).Yx (LB st) body):pC P w K mg base (k+1) n x (FB n m body):=by
 with_unfolding_all subst hn hm;obtain⟨f,fd,hF,hm,hB⟩:=D.ex;exact⟨⟨f,fd,ps,vL hF S fun cdv A outer s H E hr=>hb f cdv A outer s H E hr,hm,hF.kp,hB⟩,fun ds h r e=>tJ e⟩
end
section
variable{X:Cx}{k k' n:Nat}{F:kB}{x:Str}{p pos:Pos}{e:Expr}{es:List Expr}{g:RA}
theorem cF (c:pC X.prog X.w X.K X.mg X.base k n x F) (hr:Hj k' X.A) (hk:k<=k') (hg:Gl X x) (ha:AM X (e::es) g) (hdb:(x==("__debug__" :Str))=false:=by decide)
 (he:oB e=true:=by rfl) (hpl:es.all oB=true:=by rfl) :
 EM X (.Call (.Name x p) (e::es) [] pos) (KA F [] g):=by
 with_unfolding_all obtain⟨f,fd,ps,h1,h2,h3,h4⟩:=c.ex;exact wY h1 (hr.mono hk) hg h2 h3 h4 .nil (fun _ _=>.nil) ha (fun F' e ds h r q=>c.len ds h r (e ▸ q)) hdb he hpl
end
theorem QZ{l:PySem.W.OpenLaw}{q:Program}{loose:List Str}{XP:(Str->Option Value)->Heap->Prop}{YP:World->Heap->Prop}{d:DefRec}{K:Params->Frag}{F:kB}{k:Nat}{x:Str}(hn:l.most=some 63)(hdf:d.params.defaults=[])(hr:Hj k callerA)
 (hY:∀(w:World)(h:Heap),YP w h->(K w.params).In h)
 (hF:∀(w:World)(mg:Str->Option Value)(fa:Addr)(h:Heap),(K w.params).In h->h.Ns mainGlobals mg->mg d.name=some (.ref fa)->
  ∃fd:FuncData,(∀(s:Shared)(u:Value),BindsTo s fd ⟨[u],[]⟩ [(x,u)])/\∀base:Heap,(K w.params).In base->base.Ns mainGlobals mg->Oj l.prog w (K w.params) mg base sE k fa fd [x] (NI (K w.params) 1 F))
 (h:∀ns:List Int,ns.length<=63->∃h',F [.lst (ns.map Dt.int)] []=some (.bl true,h')):PySem.W.WalkO q loose XP YP l.row.toRowW d [] (fun f vs=>PySem.call f vs):=
 L2.W3 (n:=63) (k:=k) (x:=x) (CX:=fun _=>sE) (sp:=fun w=>NI (K w.params) 1 F) hn (by decide) hdf hr hY hF (fun w H a ns hl _ hS=>W6 h H a ns hl hS) fun _ _ _ _ _ z=>z
end SM
namespace L2
section
variable{X:Cx}
theorem ZT:∀{bs:List Bool}{us:List Value},Vals (bs.map V.bl) us->∀(i:Nat)(v:Value),us[i]?=some v->v=.bool (bs.getD i false)
 | [],us,r,i,v,e=>by cases r;simp at e
 | b::bs,us,r,i,v,e=>by
  cases r with
  | cons r rr=>
   cases i with
   | zero=>simp at e;subst e;exact r
   | succ i=>simpa using ZT rr i v (by simpa using e)
theorem GY(bs:List Bool):(List.range bs.length).all (fun i=>bs.getD i false)=bs.all id:=by
 induction bs with
 | nil=>rfl
 | cons b bs ih=>
  rw[Xr,range_succ_eq_map,all_cons,all_map,all_cons];have:((fun i=>(b::bs).getD i false) ∘ Nat.succ)=fun i=>bs.getD i false:=by
   funext i
   simp
  rw[this,ih];simp
theorem nY (hc:X.calm=true):Uj X (.builtin "all") (fun xs H Q=>∃(p:Addr) (bs:List Bool),xs=[.ref p]/\Wj X.K H p (bs.map V.bl)/\Q (.bl (bs.all id)) H):=by
 intro pins s σ H xs us Q I r h;obtain⟨p,bs,rfl,hq,q⟩:=h;obtain⟨u,rfl,rx⟩:=kI r;cases rx;obtain⟨its,r',pl,hz⟩:=I.list hq;have hlt:p<s.heap.objs.size:=by obtain⟨_,e,_⟩:=pl.isList;exact Heap.lt_size e
 refine call_all_walk (wpAny_pyIter_list pl.isList ?_);refine⟨_,_,_,_,_,_,fun i=>bs.getD i false,rfl,Walks.list (A:=X.A.in1) (I.ok.hd hc) s.heap.objs.size p (Nat.ne_of_lt hlt) its.toArray,⟨⟨_,Heap.get?_push_size _ rfl,rfl,rfl⟩,pl.isList.push _⟩,?_,fun h' tk k=>?_⟩
 · intro i v s2 Q2 E2 hv hQ;have e:=ZT r' i v (by simpa using hv);subst e;exact wpAny_truthy_bool hQ
 · have hl:=r'.length;have e:(List.range its.toArray.size).all (fun i=>bs.getD i false)=bs.all id:=by rw[show its.toArray.size=bs.length by simp at hl ⊢;omega,GY]
   rw[e];exact⟨.bl (bs.all id),H,I.kept (old_kept k),rfl,q⟩
end
end L2
namespace SM
noncomputable def PD:List Dt->Option (List Bool)
 | []=>some []
 | .bl b::ds=>(PD ds).map fun bs=>b::bs
 | _::_=>none
theorem MO:∀{ds:List Dt}{bs:List Bool},PD ds=some bs->ds=bs.map Dt.bl
 | [],bs,e=>by simp only[PD]at e;cases e;rfl
 | d::ds,bs,e=>by
  cases d with
  | bl b=>
   simp only[PD]at e;cases q:PD ds with
   | none=>rw[q]at e;cases e
   | some cs=>rw[q]at e;cases e;rw[MO q];rfl
  | _=>simp only[PD]at e<;>cases e
theorem aj.Mz{K:Frag}{H:Hp}{ρ:Rg}:∀{bs:List Bool}{vs:List V},aj K H ρ (bs.map Dt.bl) vs->vs=bs.map V.bl
 | [],_,h=>h.Qj
 | n::ns,_,h=>by obtain⟨v,r,rfl,h1,h2⟩:=aj.Cj h;simp only[cj]at h1;rw[h1,aj.Mz h2];rfl
def wH:Dt->HI->Option (Dt×HI):=fun d h=>(lB h d).bind fun xs=>(PD xs).map fun bs=>(.bl (bs.all id),h)
section
variable{X:Cx}{e:Expr}{f:RE}{p pos:Pos}
theorem D4 (hc:X.calm=true) (hg:Gl X "all") (hm:X.mg "all" =none) (ha:EM X e f) (hs:oB e=true:=by rfl):EM X (.Call (.Name "all" p) [e] [] pos) (GC wH f):=by
 with_unfolding_all
  exact pU (nY hc) (fun ρ h d v d' h' H Q S R e k=>by
   obtain⟨xs,e1,e⟩:=kA e;cases q:PD xs with
   | none=>rw[q]at e;cases e
   | some ns=>
    rw[q]at e;cases e;obtain⟨a,vs,z,sq,r⟩:=dF S R e1;rw[MO q]at r;rw[r.Mz]at sq;exact⟨a,ns,by rw[z],sq,k ρ _ H (fj.mpr rfl) S (Ext.refl _ _)⟩) hg hm PyProof.Rows.boot_all ha (hs:=hs)
end
noncomputable def iH:Nat->List Dt->List Dt
 | _,[]=>[]
 | k,x::xs=>.tup [.int (k:Int),x]::iH (k+1) xs
noncomputable def tI(i j:Nat):RG:=fun d l=>match d with
 | .tup [a,b]=>some ((l.set i (some a)).set j (some b))
 | _=>none
end SM
namespace L2
section
variable{X:Cx}{pins:List (Addr×Obj)}{σ:List (Option V)}{H:Hp}{s:Shared}{h':Heap}
theorem Inv.Nv{t':Nat}{e it p:Addr}{xs:List V}(I:Inv X pins σ H s)(k:∀b o,b≠e->b≠it->s.heap.get? b=some o->h'.get? b=some o)(fe:eE X pins H e)(fi:eE X pins H it)(hp:s.heap.objs.size<=p)
 (new:Dj X.prog X.w (VA H p (.tup xs)) h' p (.tup xs)):Inv X pins σ (VA H p (.tup xs)) { s with heap:=h',toks:=t' }:=by
 obtain⟨e0,e1,e2,e3,e4,e5⟩:=fe;obtain⟨i0,i1,i2,i3,i4,i5⟩:=fi;have hn:H p=none:=I.hok.fresh hp;have ne:∀b u,H b=some u->b≠e:=fun b u q z=>by rw[z,e0]at q;cases q
 have ni:∀b u,H b=some u->b≠it:=fun b u q z=>by rw[z,i0]at q;cases q
 have nc:∀{b},b ∉ [e,it]->b≠e/\b≠it:=fun hc=>⟨fun z=>hc (by simp[z]),fun z=>hc (by simp[z])⟩
 refine I.step (g':=s.gens) (d':=s.drawn) (ch:=[e,it]) (fun b hb=>?_) (fun b o _ _ hc q _=>k b o (nc hc).1 (nc hc).2 q) (fun b o _ _ hc q _=>⟨o.slots,k b o (nc hc).1 (nc hc).2 q⟩)
  (fun b o _ q n=>by rw[UA (Nat.ne_of_lt (Nat.lt_of_lt_of_le (Heap.lt_size q) hp))];exact n)
  (fun b o hc q=>⟨o,k b o (nc hc).1 (nc hc).2 q⟩) (fun b ys q=>by rw[UA (BC q hn)];exact q) (fun b o u q=>by rw[UA (BC q hn)];exact q)
  (fun b ps q=>⟨#[],by rw[UA (BC q hn),q];simp⟩) (fun m hm=>?_) (fun b u q=>?_) I.bare
 · have z:b=e\/b=it:=by simpa using hb
   rcases z with rfl | rfl
   · exact⟨e3,e1,e4,e5⟩
   · exact⟨i3,i1,i4,i5⟩
 · obtain⟨o,es,ep,ho,r⟩:=hm;exact⟨o,es,ep,k _ o (Ne.symm e1) (Ne.symm i1) ho,r⟩
 · by_cases hb:b=p
   · subst hb;rw[KB]at q;cases q;exact new
   · rw[UA hb]at q;refine(I.hok b u q).stay (fun c v hc q'=>?_) (fun c q=>by rw[UA (BC q hn)];exact q) fun c ys q=>by rw[UA (BC q hn)];exact q
     rcases hc with z | z
     · subst z;exact k c v (ne c u q) (ni c u q) q'
     · exact k c v (ne c _ z) (ni c _ z) q'
theorem Inv.Xz{t':Nat}{e it:Addr}(I:Inv X pins σ H s)(k:∀b o,b≠e->b≠it->s.heap.get? b=some o->h'.get? b=some o)(fe:eE X pins H e)(fi:eE X pins H it):Inv X pins σ H { s with heap:=h',toks:=t' }:=by
 obtain⟨e0,e1,e2,e3,e4,e5⟩:=fe;obtain⟨i0,i1,i2,i3,i4,i5⟩:=fi;have ne:∀b u,H b=some u->b≠e:=fun b u q z=>by rw[z,e0]at q;cases q
 have ni:∀b u,H b=some u->b≠it:=fun b u q z=>by rw[z,i0]at q;cases q
 have nc:∀{b},b ∉ [e,it]->b≠e/\b≠it:=fun hc=>⟨fun z=>hc (by simp[z]),fun z=>hc (by simp[z])⟩
 refine I.step (g':=s.gens) (d':=s.drawn) (ch:=[e,it]) (fun b hb=>?_) (fun b o _ _ hc q _=>k b o (nc hc).1 (nc hc).2 q) (fun b o _ _ hc q _=>⟨o.slots,k b o (nc hc).1 (nc hc).2 q⟩)
  (fun b o _ q n=>n) (fun b o hc q=>⟨o,k b o (nc hc).1 (nc hc).2 q⟩) (fun b ys q=>q) (fun b o u q=>q)
  (fun b ps q=>⟨#[],by rw[q];simp⟩) (fun m hm=>?_) (fun b u q=>?_) I.bare
 · have z:b=e\/b=it:=by simpa using hb
   rcases z with rfl | rfl
   · exact⟨e3,e1,e4,e5⟩
   · exact⟨i3,i1,i4,i5⟩
 · obtain⟨o,es,ep,ho,r⟩:=hm;exact⟨o,es,ep,k _ o (Ne.symm e1) (Ne.symm i1) ho,r⟩
 · refine(I.hok b u q).stay (fun c v hc q'=>?_) (fun c q=>q) fun c ys q=>q
   rcases hc with z | z
   · subst z;exact k c v (ne c u q) (ni c u q) q'
   · exact k c v (ne c _ z) (ni c _ z) q'
end
def W8(K:Frag)(a:Addr):It:=
 ⟨fun i H=>∃xs x,Wj K H a xs/\xs[i]?=some x,fun i H x H'=>∃p y,H p=none/\x=.ref p/\(∀xs,Wj K H a xs->xs[i]?=some y)/\H'=VA H p (.tup [.int (i:Nat),y]),fun i H=>∃xs,Wj K H a xs/\xs.length<=i⟩
theorem CY{P:Program}{w:World}{K:Frag}{elts:List Expr}{x1}{pos:Pos}(a e it:Addr)(hne:e≠it):rH P w K (.Tuple elts x1 pos) (W8 K a) [e,it] e (fun i h=>(∃old,IsEnum h e it i old)/\h.IsListIter it a i) where
 mem:=by simp
 obj:=fun i h st b hb=>by
  obtain⟨⟨old,s1⟩,s2⟩:=st;have z:b=e\/b=it:=by simpa using hb
  rcases z with rfl | rfl
  · exact⟨_,s1,fun v z=>by cases z⟩
  · obtain⟨o,e,c,d⟩:=s2;exact⟨o,e,fun v z=>by rw[d]at z;cases z⟩
 keep:=fun i h h' st k=>by obtain⟨⟨old,s1⟩,s2⟩:=st;exact⟨⟨old,k e (by simp) _ s1⟩,s2.at fun o e=>k it (by simp) o e⟩
 item:=by
  intro X hP hw hK hc i pins s σ H E I hf st hg;subst hP hw hK;obtain⟨⟨old,s1⟩,s2⟩:=st;obtain⟨xs,x,hq,hx⟩:=hg;obtain⟨its,rv,p,hz⟩:=I.list hq;obtain⟨u,hu,ru⟩:=rv.get hx;have fe:=hf e (by simp);have fi:=hf it (by simp);refine wpAny_pyNext_enum_item s1 s2 p.isList (x:=u) (by simpa using hu) hne fun h' out it' tup sz kp=>?_
  refine⟨_,rfl,wpAny_letOwnedTupleGo_enum out fun h2 he2 sb=>?_⟩;have hpe:s.heap.objs.size≠e:=(Nat.ne_of_lt (Heap.lt_size s1)).symm;have hpi:s.heap.objs.size≠it:=by obtain⟨o,q,_⟩:=s2;exact(Nat.ne_of_lt (Heap.lt_size q)).symm
  have t2:h2.get? s.heap.objs.size=some { cls:=.type "tuple",data:=.seq #[.int i s.toks,u] }:=(sb.2 _ hpe).trans tup;refine⟨.ref s.heap.objs.size,VA H s.heap.objs.size (.tup [.int (i:Nat),x]),I.Nv (fun b o h1 h3 q=>(sb.2 b h1).trans (kp b o h1 h3 q)) fe fi (Hf _) ⟨by simp only[Xr,Yr];rw[sizeLine_eq];decide,[.int i s.toks,u],.cons ⟨_,rfl⟩ (.cons ru .nil),⟨_,t2,rfl,_,rfl⟩⟩,rfl,⟨_,x,I.hok.fresh (Hf _),rfl,fun ys hy=>by rw[I.yx hy hq];exact hx,rfl⟩,⟨⟨_,he2⟩,it'.at fun o q=>(sb.2 it (Ne.symm hne)).trans q⟩,fun b hb=>?_⟩;have z:b=e\/b=it:=by simpa using hb
  rcases z with rfl | rfl
  · rw[UA (Ne.symm hpe)];exact fe.1
  · rw[UA (Ne.symm hpi)];exact fi.1
 done:=by intro X hP hw hK hc i pins s σ H E I hf st hg;subst hP hw hK;obtain⟨⟨old,s1⟩,s2⟩:=st;obtain⟨xs,hq,hx⟩:=hg;obtain⟨its,rv,p,hz⟩:=I.list hq;have hl:=rv.length;exact wpAny_pyNext_enum_end (I.ok.hd hc) s1 s2 p.isList (by simp;omega) fun h' eb=>⟨rfl,I.Xz (t':=s.toks) (fun b o _ h3 q=>eb b o h3 q) (hf e (by simp)) (hf it (by simp))⟩
 self:=fun _ _ _ _ _ st h=>by obtain⟨⟨old,s1⟩,_⟩:=st;exact wpAny_pyIter_enum s1 h
section
variable{X:Cx}
def nV(K:Frag)(ta:TA):TI:=fun σ H R=>ta σ H fun vs H1=>∃a,vs=[.ref a]/\(∃xs,Wj K H1 a xs)/\R (W8 K a) H1
theorem V4 {elts:List Expr} {x1} {tp:Pos} {a:Expr} {ta:TA} {p pos:Pos} (hg:Gl X "enumerate") (hm:X.mg "enumerate" =none) (ha:PA X [a] ta) (hs:starEach [a] X.env=[(false,eval a X.env)]:=by rfl) :
 PI X (.Tuple elts x1 tp) (.Call (.Name "enumerate" p) [a] [] pos) (nV X.K ta):=by
 intro pins s σ H R I h;refine Call_ (aH I hg hm boot_enumerate (PyProof.Rows.callWith_type1 (WA (ha pos pins s σ H _ I h) fun us s1 zz=>?_) hs rfl));obtain⟨vs,H1,I1,r1,q1⟩:=zz;obtain⟨b,e,⟨xs,hq⟩,q⟩:=q1;subst e;cases r1 with
 | cons r rr=>
  cases rr;cases r;obtain⟨its,rv,pl,hz⟩:=I1.list hq;refine call_enumerate_list pl.isList fun h' he hit hsz k=>?_
  have I2:Inv X pins σ H1 { s1 with heap:=h' }:=I1.kept (t':=s1.toks) k;refine wpAny_pyIter_enum he ?_;refine⟨s1.heap.objs.size+1,[s1.heap.objs.size+1,s1.heap.objs.size],_,_,H1,rfl,I2,CY b (s1.heap.objs.size+1) s1.heap.objs.size (Nat.succ_ne_self _),⟨⟨_,he⟩,hit⟩,fun c hc=>?_,q⟩;have z:c=s1.heap.objs.size+1\/c=s1.heap.objs.size:=by simpa using hc
  rcases z with rfl | rfl
  · exact I1.Iz (Nat.le_succ _) (I1.hok.fresh (Nat.le_succ _))
  · exact I1.Iz (Hf _) (I1.hok.fresh (Hf _))
end
end L2
namespace SM
theorem SR:∀(xs:List Dt)(k i:Nat),(iH k xs)[i]?=(xs[i]?).map fun x=>.tup [.int ((k+i:Nat):Int),x]
 | [],_,_=>by simp[iH]
 | x::xs,k,0=>by simp[iH]
 | x::xs,k,i+1=>by
  simp only[iH,Wr];rw[SR xs (k+1) i];have:k+1+i=k+(i+1):=by omega
  rw[this]
section
variable{X:Cx}
theorem F3(i j:Nat){x y:Str}{px py pos:Pos}{x1}(hc:X.calm=true)(hN:X.N.Nodup)(hi:X.N[i]?=some x:=by rfl)(hj:X.N[j]?=some y:=by rfl)
 (hx:aK X.env.scope x:=by first | exact Or.inl rfl | exact Or.inr rfl) (hy:aK X.env.scope y:=by first | exact Or.inl rfl | exact Or.inr rfl)
 (hf:X.fn x=true\/X.env.scope.names.lookup x=some .local:=by first | exact .inl rfl | exact .inr rfl | assumption)
 (hf':X.fn y=true\/X.env.scope.names.lookup y=some .local:=by first | exact .inl rfl | exact .inr rfl | assumption):GM X (.Tuple [.Name x px,.Name y py] x1 pos) (tI i j):=by
 with_unfolding_all
  refine PG.imp (w6 (n:=2) hc (dS (aP hN hi hx hf) (dS (aP hN hj hy hf') U4))) fun v σ H Q zz=>?_
  obtain⟨ρ,l,h,d,l',S,L,R,e,k⟩:=zz;unfold tI at e;split at e
  · cases e;obtain⟨a,vs,rfl,q,r⟩:=Bj.mp R;obtain⟨v1,r1,rfl,R1,r⟩:=r.Cj;obtain⟨v2,r2,rfl,R2,r⟩:=r.Cj;cases r.Qj;exact⟨a,[v1,v2],rfl,q.sq,rfl,v1,[v2],rfl,v2,[],rfl,rfl,k _ ((L.set i R1).set j R2)⟩
  · cases e
end
def HJ(fe fo fi:RE):RS:=fun l h=>(fe l h).bind fun v=>(fo l v.2).bind fun o=>(fi l o.2).bind fun i=>match o.1,i.1 with
 | .ref n,.int k=>match i.2[n]? with
  | some (.lst xs)=>(zH xs.length k).bind fun j=>some (.nx l (i.2.set n (.lst (xs.set j v.1))))
  | _=>none
 | _,_=>none
noncomputable def YK(fo fa:RE):RE:=fun l h=>(fo l h).bind fun r=>match r.1 with
 | .ref n=>match r.2[n]? with
  | some (.lst _)=>(fa l r.2).bind fun q=>match q.1 with
   | .ref m=>match q.2[n]?,q.2[m]? with
    | some (.lst xs),some (.lst ys)=>if xs.length+ys.length<=sizeLine then some (.non,q.2.set n (.lst (xs++ys)))else none
    | _,_=>none
   | _=>none
  | _=>none
 | _=>none
end SM
namespace L2
section
variable{X:Cx}
end
section
variable{X:Cx}{pins:List (Addr×Obj)}{σ:List (Option V)}{H:Hp}{s:Shared}{h':Heap}
end
section
variable{X:Cx}
end
end L2
namespace SM
section
variable{X:Cx}{e o i a b:Expr}{f g fe fo fi fa fb:RE}{p pos pos':Pos}
theorem US(he:EM X e fe)(ho:EM X o fo)(hi:EM X i fi)
 (hs:swapsWithSole [.Subscript o i pos'] e pos.line X.env=pure false:=by rfl) (hw:swappedStores [.Subscript o i pos'] e X.env=pure none:=by rfl) (h1:(assignEach [.Subscript o i pos'] X.env).map (·.2)=[assign (.Subscript o i pos') X.env]:=by rfl)
 (ha:∀v,assign (.Subscript o i pos') X.env v=(do
  let ov <- holding [v] (eval o X.env)
  let iv <- holding [v,ov] (eval i X.env)
  standAt pos'
  holding [v,ov,iv] (setItem ov iv v)
  release [v,ov,iv] []):=by intro _;rfl):ZM X (.Assign [.Subscript o i pos'] e pos) (HJ fe fo fi):=by
 with_unfolding_all
  exact PS.imp (z6 he (t6 ho hi AZ ha) hs hw h1) fun D σ H zz=>by
   obtain⟨ρ,l,h,r,S,L,e,k⟩:=zz;obtain⟨⟨v,hv⟩,e1,e⟩:=kA e;obtain⟨⟨d,hd⟩,e2,e⟩:=kA e;obtain⟨⟨j,hj⟩,e3,e⟩:=kA e;refine⟨ρ,l,h,v,hv,S,L,e1,fun ρ1 u H1 R1 S1 E1=>⟨ρ1,l,hv,d,hd,S1,L.ext E1,e2,fun ρ2 y H2 R2 S2 E2=>⟨ρ2,l,hd,j,hj,S2,L.ext (E1.trans E2),e3,fun ρ3 z H3 R3 S3 E3=>?_⟩⟩⟩;cases d with
   | ref n=>
    cases j with
    | int kk=>
     dsimp only at e;split at e
     · rename_i xs q;obtain⟨jj,e4,e⟩:=kA e;cases e;obtain⟨aa,zz,ha⟩:=wj.mp (cj.ext E3 _ R2);obtain⟨vs,g1,g2⟩:=S3.lst ha q;have hm:=mem_of_getElem? ha;refine⟨aa,vs,kk,jj,zz,dj.mp R3,g1,by rw[g2.length];exact e4,?_⟩;exact k ρ3 σ _ (S3.write ha (AH g1) ⟨_,KB,(g2.set jj (cj.ext (E2.trans E3) _ R1)).ext (Ext.write hm (AH g1))⟩) (L.ext (E1.trans (E2.trans (E3.trans (Ext.write hm (AH g1)))))) (E1.trans (E2.trans (E3.trans (Ext.write hm (AH g1)))))
     · cases e
    | _=>cases e
   | _=>cases e
end
section
variable{K:Frag}{H:Hp}{ρ:Rg}{h:HI}
theorem gj.bare(S:gj K ρ h H):gj K ⟨[],ρ.z⟩ [] H:=⟨nodup_nil,rfl,fun _ _ _ e=>by simp at e,fun a ha=>⟨by simp,(S.zt a ha).2⟩⟩
theorem TupAt.bare{a:Addr}{vs:List V}(t:TupAt K H ρ a vs):TupAt K H ⟨[],ρ.z⟩ a vs:=by
 rcases t with⟨n,t⟩ | t
 · exact .inl ⟨⟨by simp,n.2⟩,t⟩
 · exact .inr t
theorem LstAt.bare{a:Addr}{vs:List V}(t:LstAt K H ρ a vs):LstAt K H ⟨[],ρ.z⟩ a vs:=by
 rcases t with⟨n,t⟩ | t
 · exact .inl ⟨⟨by simp,n.2⟩,t⟩
 · exact .inr t
end
section
variable{X:Cx}
end
section
variable{X:Cx}{e o i a b:Expr}{f g fe fo fi fa fb:RE}{p pos pos' apos cpos:Pos}
theorem PX (ho:EM X a fa) (hb:EM X b fb) (hbase:attributeBase a "extend" X.env (eval a X.env)=eval a X.env:=by rfl)
 (hline:(apos.endLine==cpos.line)=true:=by rfl) (hs:oB b=true:=by rfl) :
 EM X (.Call (.Attribute a "extend" apos) [b] [] cpos) (YK fa fb):=by
 with_unfolding_all
  exact PE.imp (QJ PySem.F.plainAttrs_list PySem.F.slot_list_extend PySem.F.type_list_extend TY ho (FC hb tD (pB hs _ _)) hbase (pJ hs) hline (pB hs _ _)) fun σ H Q zz=>by
   obtain⟨ρ,l,h,d,h',S,L,e,k⟩:=zz;obtain⟨⟨d1,h1⟩,e1,e⟩:=kA e;refine⟨ρ,l,h,d1,h1,S,L,e1,fun ρ1 v H1 R1 S1 E1=>?_⟩;cases d1 with
   | ref n=>
    dsimp only at e;split at e
    · rename_i xs0 q0;obtain⟨⟨d2,h2⟩,e2,e⟩:=kA e;refine⟨NT S1 R1 q0,ρ1,l,h1,d2,h2,S1,L.ext E1,e2,fun ρ2 y H2 R2 S2 E2=>?_⟩;dsimp only at e;cases d2 with
      | ref m=>
       dsimp only at e;split at e
       · rename_i xs ys q1 q2;obtain⟨hz,e⟩:=ME e;cases e;obtain⟨a,z,ha⟩:=wj.mp R1;subst z;obtain⟨a2,z2,ha2'⟩:=wj.mp R2;subst z2;have ha2:=E2.get ha;obtain⟨vs,g1,g2⟩:=S2.lst ha2 q1;obtain⟨ws,g3,g4⟩:=S2.lst ha2' q2;have hm:=mem_of_getElem? ha2;refine⟨a,a2,vs,ws,rfl,rfl,g1,g3,by rw[g2.length,g4.length];exact hz,k ρ2 _ _ (zj.mpr rfl) (S2.write ha2 (AH g1) ⟨_,KB,?_⟩) (E1.trans (E2.trans (Ext.write hm (AH g1))))⟩;exact(g2.append g4).ext (Ext.write hm (AH g1))
       · cases e
      | _=>cases e
    · cases e
   | _=>cases e
end
end SM
namespace L2
section
variable{X:Cx}
end
end L2
namespace SM
section
variable{X:Cx}{e o i a b:Expr}{f g fe fo fi fa fb:RE}{p pos pos' apos cpos:Pos}
end
end SM
namespace L2
section
variable{κ:Type}[DecidableEq κ]
noncomputable def ZC(kvs:List (κ×V))(k:κ):Option V:=(kvs.find? fun kv=>decide (kv.1=k)).map (·.2)
noncomputable def WD(kvs:List (κ×V))(k:κ)(v:V):List (κ×V):=
 if(kvs.any fun kv=>decide (kv.1=k))=true then kvs.map (fun kv=>if kv.1=k then(kv.1,v)else kv)else kvs++[(k,v)]
noncomputable def MF(kvs:List (κ×V))(k:κ):List (κ×V):=kvs.filter fun kv=>decide (kv.1≠k)
theorem NK{p:κ×V}{r:List (κ×V)}{k:κ}(e:p.1=k):ZC (p::r) k=some p.2:=by simp[ZC,find?_cons,e]
theorem MK{p:κ×V}{r:List (κ×V)}{k:κ}(e:¬p.1=k):ZC (p::r) k=ZC r k:=by simp[ZC,find?_cons,e]
theorem NS(k:κ):∀kvs:List (κ×V),(kvs.any fun kv=>decide (kv.1=k))=(ZC kvs k).isSome
 | []=>rfl
 | p::r=>by
  rw[any_cons];by_cases e:p.1=k
  · simp only[NK e,decide_eq_true e,Bool.true_or,Option.isSome_some]
  · rw[MK e,decide_eq_false e,Bool.false_or];exact NS k r
theorem sR(kvs:List (κ×V))(k:κ)(v:V):(WD kvs k v).length<=kvs.length+1:=by
 unfold WD;split
 · rw[length_map];omega
 · rw[length_append,Xr,Yr];omega
theorem zq.Vj{o:Option V}{u:Option Value}(r:zq o u):o.isSome=u.isSome:=by
 cases o with
 | none=>cases u with
  | none=>rfl
  | some _=>exact(show False from r).elim
 | some _=>cases u with
  | none=>exact(show False from r).elim
  | some _=>rfl
theorem zq.getD{o:Option V}{u:Option Value}{d:V}{d':Value}(r:zq o u)(rd:RelV d d'):RelV (o.getD d) (u.getD d'):=by
 cases o with
 | none=>cases u with
  | none=>exact rd
  | some _=>exact(show False from r).elim
 | some _=>cases u with
  | none=>exact(show False from r).elim
  | some _=>exact r
theorem KV.val{kvs:List (κ×V)}{vs:List (κ×Value)}(r:KV kvs vs)(k:κ):zq (ZC kvs k) (valueAt vs k):=by
 unfold KV at r
 induction r with
 | nil=>exact True.intro
 | @cons p q ps qs h t ih=>
  obtain⟨h1,h2⟩:=h;by_cases e:p.1=k
  · have e':q.1=k:=h1.symm.trans e;have b:valueAt (q::qs) k=some q.2:=by simp[valueAt,find?_cons,e']
    rw[NK e,b];exact h2
  · have e':¬q.1=k:=fun z=>e (h1.trans z)
    have b:valueAt (q::qs) k=valueAt qs k:=by simp[valueAt,find?_cons,e']
    rw[MK e,b];exact ih
theorem KV.any{kvs:List (κ×V)}{vs:List (κ×Value)}(r:KV kvs vs)(k:κ):(kvs.any fun kv=>decide (kv.1=k))=vs.any fun kv=>decide (kv.1=k):=by
 unfold KV at r
 induction r with
 | nil=>rfl
 | cons h t ih=>rw[any_cons,any_cons,ih,h.1]
theorem KV.repl{kvs:List (κ×V)}{vs:List (κ×Value)}(r:KV kvs vs)(k:κ){y:V}{u:Value}(ry:RelV y u) :
 KV (kvs.map fun kv=>if kv.1=k then(kv.1,y)else kv) (vs.map fun kv=>if kv.1=k then(kv.1,u)else kv):=by
 unfold KV at r ⊢
 induction r with
 | nil=>exact .nil
 | @cons p q ps qs h t ih=>
  rw[Zr,Zr];refine .cons ?_ ih;obtain⟨h1,h2⟩:=h;by_cases e:p.1=k
  · rw[if_pos e,if_pos (h1.symm.trans e)];exact⟨h1,ry⟩
  · rw[if_neg e,if_neg (fun z=>e (h1.trans z))];exact⟨h1,h2⟩
theorem KV.put{kvs:List (κ×V)}{vs:List (κ×Value)}(r:KV kvs vs)(k:κ){y:V}{u:Value}(ry:RelV y u):KV (WD kvs k y) (stored vs k u):=by
 unfold WD stored;rw[r.any k];by_cases e:(vs.any fun kv=>decide (kv.1=k))=true
 · rw[if_pos e,if_pos e];exact r.repl k ry
 · rw[if_neg e,if_neg e];exact Paired.snoc r ⟨rfl,ry⟩
theorem KV.drop{kvs:List (κ×V)}{vs:List (κ×Value)}(r:KV kvs vs)(k:κ):KV (MF kvs k) (without vs k):=by
 unfold KV at r ⊢;unfold MF without
 induction r with
 | nil=>exact .nil
 | @cons p q ps qs h t ih=>
  obtain⟨h1,h2⟩:=h;rw[filter_cons,filter_cons];by_cases e:p.1=k
  · have a:¬decide (p.1≠k)=true:=by simp[e]
    have b:¬decide (q.1≠k)=true:=by simp[h1.symm.trans e]
    rw[if_neg a,if_neg b];exact ih
  · have e':¬q.1=k:=fun z=>e (h1.trans z)
    have a:decide (p.1≠k)=true:=by simp[e]
    have b:decide (q.1≠k)=true:=by simp[e']
    rw[if_pos a,if_pos b];exact .cons ⟨h1,h2⟩ ih
theorem KV.keys{kvs:List (κ×V)}{vs:List (κ×Value)}(r:KV kvs vs):kvs.map (·.1)=vs.map (·.1):=by
 unfold KV at r
 induction r with
 | nil=>rfl
 | cons h t ih=>rw[Zr,Zr,ih,h.1]
theorem KV.length{kvs:List (κ×V)}{vs:List (κ×Value)}(r:KV kvs vs):kvs.length=vs.length:=Paired.length r
theorem AS(kvs:List (κ×V))(k:κ):(MF kvs k).length<=kvs.length:=length_filter_le _ _
end
theorem kH{P:Program}{w:World}{k:FA}{u:Value}(r:RelV (kV k) u):(WB P w).is k u=true:=by
 cases k with
 | inl i=>obtain⟨t,e⟩:=(show ∃t,u=Value.int i t from r);subst e;exact ZW P w i t
 | inr x=>obtain⟨t,e⟩:=(show ∃t,u=Value.str x t from r);subst e;exact aX P w x t
theorem YR{P:Program}{w:World}:∀{ks:List FA}{us:List Value},Vals (ks.map kV) us->ItemsAre (WB P w) ks us
 | [],_,r=>by rw[bf]at r;cases r;exact .nil
 | k::ks,_,r=>by
  rw[Zr]at r;cases r with
  | cons h t=>exact .cons (kH h) (YR t)
abbrev KT(H:Hp):List (List FA×V)->List (List FA×Addr×Value)->Prop:=Paired fun p q=>p.1=q.1/\H q.2.1=some (.tup (p.1.map kV))/\RelV p.2 q.2.2
theorem KT.val{H:Hp}{kvs:List (List FA×V)}{xs:List (List FA×Addr×Value)}(r:KT H kvs xs)(k:List FA):zq (ZC kvs k) ((atKey xs k).map (·.2)):=by
 induction r with
 | nil=>exact True.intro
 | @cons p q ps qs h t ih=>
  obtain⟨h1,_,h2⟩:=h;by_cases e:p.1=k
  · have e':q.1=k:=h1.symm.trans e;have b:atKey (q::qs) k=some q.2:=by simp[atKey,find?_cons,e']
    rw[NK e,b];exact h2
  · have e':¬q.1=k:=fun z=>e (h1.trans z)
    have b:atKey (q::qs) k=atKey qs k:=by simp[atKey,find?_cons,e']
    rw[MK e,b];exact ih
theorem KT.repl{H:Hp}{kvs:List (List FA×V)}{xs:List (List FA×Addr×Value)}(r:KT H kvs xs)(k:List FA){y:V}{u:Value}(ry:RelV y u) :
 KT H (kvs.map fun kv=>if kv.1=k then(kv.1,y)else kv) (xs.map (putAt k u)):=by
 induction r with
 | nil=>exact .nil
 | @cons p q ps qs h t ih=>
  rw[Zr,Zr];refine .cons ?_ ih;obtain⟨h1,h2,h3⟩:=h;unfold putAt;by_cases e:p.1=k
  · rw[if_pos e,if_pos (h1.symm.trans e)];exact⟨h1,h2,ry⟩
  · rw[if_neg e,if_neg (fun z=>e (h1.trans z))];exact⟨h1,h2,h3⟩
theorem KT.put{H:Hp}{kvs:List (List FA×V)}{xs:List (List FA×Addr×Value)}(r:KT H kvs xs)(k:List FA){b:Addr}{y:V}{u:Value}(hb:H b=some (.tup (k.map kV)))(ry:RelV y u) :
 KT H (WD kvs k y) (storedH xs k b u):=by
 have e:(kvs.any fun kv=>decide (kv.1=k))=(atKey xs k).isSome:=by rw[NS,(r.val k).Vj,Option.isSome_map]
 unfold WD storedH;rw[e];by_cases q:(atKey xs k).isSome=true
 · rw[if_pos q,if_pos q];exact r.repl k ry
 · rw[if_neg q,if_neg q];exact Paired.snoc r ⟨rfl,hb,ry⟩
theorem KT.keeps{H H':Hp}{kvs:List (List FA×V)}{xs:List (List FA×Addr×Value)}(r:KT H kvs xs)(ht:∀b ys,H b=some (.tup ys)->H' b=some (.tup ys)):KT H' kvs xs:=
 Paired.Vv r fun _ _ z=>⟨z.1,ht _ _ z.2.1,z.2.2⟩
section
variable{P:Program}{w:World}{H:Hp}{h:Heap}{a:Addr}
theorem CU{u:HO}(ok:Oq P w H h)(e:Rd H a u):Dj P w H h a u:=e.ok ok
theorem qI{kvs:List (FA×V)}(ok:Oq P w H h)(e:Rd H a (.dK kvs)):kvs.length<=sizeLine/\(a==sysModules)=false/\∃vs,KV kvs vs/\h.DictOf (WB P w) a vs:=
 show Dj P w H h a (.dK kvs)from CU ok e
theorem cQ{kvs:List (FA×V)}(ok:Oq P w H h)(e:H a=some (.dK kvs)):kvs.length<=sizeLine/\(a==sysModules)=false/\∃vs,KV kvs vs/\h.DictOf (WB P w) a vs:=qI ok (.inl e)
theorem CJ{ks:List FA}(ok:Oq P w H h)(e:H a=some (.tup (ks.map kV))):(tupleKind (WB P w)).is h ks a:=by obtain⟨_,its,r,o,h1,h2,n,h3⟩:=(show Dj P w H h a (.tup (ks.map kV))from ok a _ e);exact⟨o,its.toArray,n,h1,h2,h3,by simpa using YR r⟩
theorem sI{kvs:List (List FA×V)}(ok:Oq P w H h)(e:Rd H a (.dT kvs)):kvs.length<=sizeLine/\(a==sysModules)=false/\
 ∃xs,KT H kvs xs/\h.DictOfH (tupleKind (WB P w)) a xs:=by
 obtain⟨z,y,xs,r,o,es,ep,h1,h2,h3,h4,h5⟩:=(show Dj P w H h a (.dT kvs)from CU ok e);refine⟨z,y,xs,r,o,es,ep,h1,h2,h3,h4,fun x hx=>?_,h5⟩;have all:∀{l:List (List FA×V)}{m:List (List FA×Addr×Value)},KT H l m->∀x∈m,(tupleKind (WB P w)).is h x.1 x.2.1:=by
  intro l m q
  induction q with
  | nil=>intro x hx;exact nomatch hx
  | @cons p q ps qs hq t ih=>
   intro x hx;rcases mem_cons.mp hx with e | hx
   · subst e;exact CJ ok (by rw[<- hq.1];exact hq.2.1)
   · exact ih x hx
 exact all r x hx
theorem F8{kvs:List (List FA×V)}(ok:Oq P w H h)(e:H a=some (.dT kvs)):kvs.length<=sizeLine/\(a==sysModules)=false/\
 ∃xs,KT H kvs xs/\h.DictOfH (tupleKind (WB P w)) a xs:=sI ok (.inl e)
end
def jx(H:Hp)(a:Addr)(y:V)(r:Option V):Prop:=
 (∃kvs k,Rd H a (.dK kvs)/\y=kV k/\r=ZC kvs k)\/∃kvs k b,Rd H a (.dT kvs)/\y=.ref b/\H b=some (.tup (k.map kV))/\r=ZC kvs k
def Gz(H:Hp)(a:Addr)(y v:V)(H':Hp):Prop:=
 (∃kvs k,H a=some (.dK kvs)/\y=kV k/\kvs.length<sizeLine/\H'=VA H a (.dK (WD kvs k v)))\/
 ∃kvs k b,H a=some (.dT kvs)/\y=.ref b/\H b=some (.tup (k.map kV))/\kvs.length<sizeLine/\H'=VA H a (.dT (WD kvs k v))
theorem jx.k{H:Hp}{a:Addr}{kvs:List (FA×V)}{k:FA}(e:H a=some (.dK kvs)):jx H a (kV k) (ZC kvs k):=.inl ⟨kvs,k,.inl e,rfl,rfl⟩
theorem Gz.k{H:Hp}{a:Addr}{kvs:List (FA×V)}{k:FA}{v:V}(e:H a=some (.dK kvs))(hl:kvs.length<sizeLine):Gz H a (kV k) v (VA H a (.dK (WD kvs k v))):=.inl ⟨kvs,k,e,rfl,hl,rfl⟩
section
variable{X:Cx}{pins:List (Addr×Obj)}{σ:St}{H:Hp}{s:Shared}{a:Addr}{y v:V}{u r:Value}{o:Option V}{A:Around}{E:Value->Shared->Prop}
theorem Inv.big(I:Inv X pins σ H s):sysModules<s.heap.objs.size:=by have h:mainGlobals<s.heap.objs.size:=(I.mod.glob.keeps I.bk).lt;exact Nat.lt_trans (by decide) h
theorem qY{Q:Value->Shared->Prop}(hu:A.units+1<cLine)(I:Inv X pins σ H s)(g:jx H a y (some v))(ry:RelV y u)(h:∀w' s',Inv X pins σ H s'->RelV v w'->Q w' s') :
 wpAny (model X.prog X.w) A (getItem (.ref a) u) Q E s:=by
 rcases g with⟨kvs,k,e,ey,l⟩ | ⟨kvs,k,b,e,ey,eb,l⟩
 · subst ey;obtain⟨z,hd,vs,rel,dd⟩:=qI I.hok e;obtain⟨w',hw,Mx⟩:=zq.some_of (v:=v) (o:=valueAt vs k) (by rw[l];exact rel.val k);exact wpAny_getItem_of (kH ry) dd.mapOf hw (h w' _ (I.tok _) Mx)
 · subst ey;cases (show u=Value.ref b from ry);obtain⟨z,hd,xs,rel,dd⟩:=sI I.hok e;obtain⟨w',hw,Mx⟩:=zq.some_of (v:=v) (o:=(atKey xs k).map (·.2)) (by rw[l];exact rel.val k);obtain⟨p,hp,hp2⟩:=Option.map_eq_some_iff.mp hw;refine wpAny_getItem_heap (tupleKind_room_in1 hu) (CJ I.hok eb) dd hp ?_;rw[hp2];exact h w' _ (I.tok _) Mx
theorem fV{Q:Value->Shared->Prop}(hu:A.units+1<cLine)(I:Inv X pins σ H s)(g:jx H a y o)(ry:RelV y u)(h:∀s',Inv X pins σ H s'->Q (.bool o.isSome) s') :
 wpAny (model X.prog X.w) A (compareOp .In u (.ref a)) Q E s:=by
 rcases g with⟨kvs,k,e,ey,l⟩ | ⟨kvs,k,b,e,ey,eb,l⟩
 · subst ey;obtain⟨z,hd,vs,rel,dd⟩:=qI I.hok e;refine wpAny_in_of (kH ry) hd dd.mapOf ?_;rw[<- (rel.val k).Vj,<- l];exact h _ (I.tok _)
 · subst ey;cases (show u=Value.ref b from ry);obtain⟨z,hd,xs,rel,dd⟩:=sI I.hok e;refine wpAny_in_heap (tupleKind_room_in1 hu) (CJ I.hok eb) hd dd ?_;have q:=(rel.val k).Vj;rw[Option.isSome_map]at q;rw[<- q,<- l];exact h _ (I.tok _)
theorem O2{Q:Value->Shared->Prop}(hu:A.units+1<cLine)(I:Inv X pins σ H s)(g:jx H a y o)(ry:RelV y u)(h:∀s',Inv X pins σ H s'->Q (.bool (!o.isSome)) s') :
 wpAny (model X.prog X.w) A (compareOp .NotIn u (.ref a)) Q E s:=by
 rcases g with⟨kvs,k,e,ey,l⟩ | ⟨kvs,k,b,e,ey,eb,l⟩
 · subst ey;obtain⟨z,hd,vs,rel,dd⟩:=qI I.hok e;refine wpAny_notIn_of (kH ry) hd dd.mapOf ?_;rw[<- (rel.val k).Vj,<- l];exact h _ (I.tok _)
 · subst ey;cases (show u=Value.ref b from ry);obtain⟨z,hd,xs,rel,dd⟩:=sI I.hok e;refine wpAny_notIn_heap (tupleKind_room_in1 hu) (CJ I.hok eb) hd dd ?_;have q:=(rel.val k).Vj;rw[Option.isSome_map]at q;rw[<- q,<- l];exact h _ (I.tok _)
theorem kJ{h':Heap}{t':Nat}{ob:HO}(I:Inv X pins σ H s)(mu:uQ (H a))(hs:Heap.SameBut a s.heap h')(he:∃q,h'.get? a=some q)(new:Dj X.prog X.w (VA H a ob) h' a ob) :
 Inv X pins σ (VA H a ob) { s with heap:=h',toks:=t' }:=
 I.write (x:=a) (e:=a) mu (.inl rfl) (fun b q hb z=>(hs.2 b hb).trans z) he new
theorem IP{P:Program}{w:World}{H':Hp}{h':Heap}{kvs:List (FA×V)}{vs:List (FA×Value)}(z:kvs.length<=sizeLine)(hd:(a==sysModules)=false)(rel:KV kvs vs)(dd:h'.DictOf (WB P w) a vs) :
 Dj P w H' h' a (.dK kvs):=⟨z,hd,vs,rel,dd⟩
theorem rY{H':Hp}{Q:Unit->Shared->Prop}(hu:A.units+1<cLine)(I:Inv X pins σ H s)(g:Gz H a y v H')(ry:RelV y u)(rv:RelV v r)(h:∀s',Inv X pins σ H' s'->Q () s') :
 wpAny (model X.prog X.w) A (setItem (.ref a) u r) Q E s:=by
 rcases g with⟨kvs,k,e,ey,l,eH⟩ | ⟨kvs,k,b,e,ey,eb,l,eH⟩
 · subst ey eH;obtain⟨z,hd,vs,rel,dd⟩:=cQ I.hok e;have hz:vs.length<=sizeLine:=by rw[<- rel.length];exact z
   have hl:(WD kvs k v).length<=sizeLine:=by have:=sR kvs k v;omega
   refine wpAny_setItem_pairs (hsz:=hz) (kH ry) dd fun h' Pz hs=>h _ ?_
   have he:∃q,h'.get? a=some q:=let ⟨q,_,_,hq,_⟩:=Pz;⟨q,hq⟩
   exact kJ I (by rw[e];exact True.intro) hs he (IP hl hd (rel.put k rv) Pz)
 · subst ey eH;cases (show u=Value.ref b from ry);obtain⟨z,hd,xs,rel,dd⟩:=F8 I.hok e;have hz:xs.length<=sizeLine:=by rw[<- Paired.length rel];exact z
   have hl:(WD kvs k v).length<=sizeLine:=by have:=sR kvs k v;omega
   refine wpAny_setItem_heap (hsz:=hz) (tupleKind_room_in1 hu) (CJ I.hok eb) dd fun h' Pz hs=>h _ ?_
   obtain⟨q,es,ep,hq,h2,h3,h4,_,h5⟩:=Pz;refine kJ I (by rw[e];exact True.intro) hs ⟨q,hq⟩ ⟨hl,hd,_,(rel.put k eb rv).keeps fun c ys ec=>?_,q,es,ep,hq,h2,h3,h4,h5⟩;rw[UA (VP ec e (fun z=>nomatch z))];exact ec
end
section
variable{X:Cx}{pins:List (Addr×Obj)}{σ:St}{H:Hp}{s:Shared}{a:Addr}{kvs:List (FA×V)}{k:FA}{u:Value}{A:Around}{E:Value->Shared->Prop}
theorem U9{Q:Unit->Shared->Prop}(I:Inv X pins σ H s)(e:H a=some (.dK kvs))(ry:RelV (kV k) u)(l:(ZC kvs k).isSome=true)(h:∀s',Inv X pins σ (VA H a (.dK (MF kvs k))) s'->Q () s') :
 wpAny (model X.prog X.w) A (delItem (.ref a) u) Q E s:=by
 obtain⟨z,hd,vs,rel,dd⟩:=cQ I.hok e;refine wpAny_delItem_slot dd.typeIs (by decide) PySem.F.slot_dict_delitem
  (call_meetsIn PySem.F.slot_dict_delitem dd.typeIs PySem.F.entry_dict_delitem (PySem.F.args_dict_delitem_2 _ _) (meets_dict_delitem_pairs (WB X.prog X.w) a (kH ry)) ⟨vs,dd,by rw[<- rel.length];exact z,by rw[<- (rel.val k).Vj];exact l,fun h' Pz hs=>h _ ?_⟩)
 have he:∃q,h'.get? a=some q:=let ⟨q,_,_,hq,_⟩:=Pz;⟨q,hq⟩
 exact kJ I (by rw[e];exact True.intro) hs he (IP (Nat.le_trans (AS kvs k) z) hd (rel.drop k) Pz)
theorem B8{v:V}{more:List Value}{Q:Value->Shared->Prop}(I:Inv X pins σ H s)(e:H a=some (.dK kvs))(ry:RelV (kV k) u)(l:ZC kvs k=some v)(hm:more=[]\/∃x,more=[x])
 (h:∀w' s',Inv X pins σ (VA H a (.dK (MF kvs k))) s'->RelV v w'->Q w' s'):wpAny (model X.prog X.w) A (call (.builtin "dict.pop") (.ref a::u::more)) Q E s:=by
 obtain⟨z,hd,vs,rel,dd⟩:=cQ I.hok e;obtain⟨w',hw,Mx⟩:=zq.some_of (v:=v) (o:=valueAt vs k) (by rw[<- l];exact rel.val k);have hp:(keyPart u).isSome=true:=by
  cases k with
  | inl i=>obtain⟨t,q⟩:=(show ∃t,u=Value.int i t from ry);subst q;rfl
  | inr x=>obtain⟨t,q⟩:=(show ∃t,u=Value.str x t from ry);subst q;rfl
 have ha:argsOk "dict.pop" ⟨.ref a::u::more,[]⟩:=by
  rcases hm with q | ⟨x,q⟩
  · subst q;exact PySem.F.args_dict_pop_2 _ _
  · subst q;exact PySem.F.args_dict_pop_3 _ _ _
 refine call_meetsIn PySem.F.slot_dict_pop dd.typeIs PySem.F.entry_dict_pop ha (meets_dict_pop_there (WB X.prog X.w) a (kH ry) more hm hp)
  ⟨vs,w',dd,by rw[<- rel.length];exact z,hw,fun h' Pz hs=>h w' _ ?_ Mx⟩
 have he:∃q,h'.get? a=some q:=let ⟨q,_,_,hq,_⟩:=Pz;⟨q,hq⟩
 exact kJ I (by rw[e];exact True.intro) hs he (IP (Nat.le_trans (AS kvs k) z) hd (rel.drop k) Pz)
end
noncomputable def SL(i:Expr):Prop:=∀ov iv,subscripted i false ov iv=operate [ov,iv] (getItem ov iv)
theorem P3{prog:Program}{w:World}{A:Around}{E:Value->Shared->Prop}{s:Shared}{env:Env}{value slice:Expr}{pos:Pos}{T id:String}{Q:Value->Shared->Prop}
 (hl:typeLookup (.type T) "__getitem__" =pure (some (.builtin id))) (hs:SL slice)
 (h:wpAny (model prog w) A (eval value env) (fun o s₁=>wpAny (model prog w) A (eval slice env) (fun i s₂=>s₂.TypeIs o T/\wpAny (model prog w) A (getItem o i) Q E s₂) E s₁) E s) :
 wpAny (model prog w) A (eval (.Subscript value slice pos) env) Q E s:=by
 refine Subscript_ (wpAny_mono h (fun o s₁ h₁=>wpAny_mono h₁ (fun i s₂ h₂=>?_) fun _ _ x=>x) fun _ _ x=>x);obtain⟨hT,h₂⟩:=h₂;unfold subscriptTail;refine wpAny_bind ?_;rw[getitemInPython_of_ne hT.not_modules];refine wpAny_bind (wpAny_specialOf hT hl ?_);have fin:wpAny (model prog w) A (subscripted slice false o i) (fun r s₃=>wpAny (model prog w) A (letTemporaryGo value o r >>=fun _=>pure r) Q E s₃) E s₂:=by rw[hs o i];exact wpAny_operating (wpAny_mono h₂ (fun r s₃ h₃=>wpAny_bind (wpAny_letTemporaryGo (wpAny_pure h₃))) fun _ _ x=>x)
 first
  | exact wpAny_pure (wpAny_bind fin)
  | exact wpAny_bind (wpAny_pure (wpAny_bind fin))
  | exact wpAny_bind fin
theorem WW {X:Cx} {pins:List (Addr×Obj)} {σ:St} {H:Hp} {s:Shared} {a:Addr} {y:V} {o:Option V} (I:Inv X pins σ H s) (g:jx H a y o):s.TypeIs (.ref a) "dict" :=by
 rcases g with⟨kvs,k,e,_,_⟩ | ⟨kvs,k,b,e,_,_,_⟩
 · obtain⟨_,_,vs,_,dd⟩:=qI I.hok e;exact dd.typeIs
 · obtain⟨_,_,xs,_,dd⟩:=sI I.hok e;exact dd.typeIs
def u7(td ty:TE):TE:=fun σ H Q=>td σ H fun x H1=>ty σ H1 fun y H2=>∃a v,x=.ref a/\jx H2 a y (some v)/\Q v H2
def CV(ty td:TE):TE:=fun σ H Q=>ty σ H fun y H1=>td σ H1 fun x H2=>∃a o,x=.ref a/\jx H2 a y o/\Q (.bl o.isSome) H2
def U3(ty td:TE):TE:=fun σ H Q=>ty σ H fun y H1=>td σ H1 fun x H2=>∃a o,x=.ref a/\jx H2 a y o/\Q (.bl (!o.isSome)) H2
def j8(td ty tv:TE):TS:=fun D σ H=>tv σ H fun v H1=>td σ H1 fun x H2=>ty σ H2 fun y H3=>∃a H4,x=.ref a/\Gz H3 a y v H4/\D.nx σ H4
section
variable{X:Cx}{o i e value:Expr}{pos pos' tpos:Pos}{td ty tv:TE}
theorem M4(hu:X.A.units+1<cLine)(ho:PE X o td)(hi:PE X i ty)(hs:SL i):PE X (.Subscript o i pos) (u7 td ty):=by intro pins s σ H Q I h;refine P3 PySem.F.slot_dict_getitem.lookup hs (WA (ho pins s σ H _ I h) fun u s1 ⟨x,H1,I1,rx,q1⟩=>WA (hi pins s1 σ H1 _ I1 q1) fun iv s2 zz=>?_);obtain⟨y,H2,I2,ry,a,v,ex,g,q2⟩:=zz;subst ex;obtain rfl:u=Value.ref a:=rx;exact⟨WW I2 g,qY hu I2 g ry fun w' s3 I3 Mx=>⟨v,H2,I3,Mx,q2⟩⟩
theorem W5(hu:X.A.units+1<cLine)(hi:PE X i ty)(ho:PE X o td):PC X .In i o (CV ty td):=by
 intro pins s σ H Q I h;refine WA (hi pins s σ H _ I h) fun iv s1 ⟨y,H1,I1,ry,q1⟩=>WA (ho pins s1 σ H1 _ I1 q1) fun u s2 zz=>?_
 obtain⟨x,H2,I2,rx,a,ov,ex,g,q2⟩:=zz;subst ex;obtain rfl:u=Value.ref a:=rx;exact fV hu I2 g ry fun s3 I3=>⟨.bl ov.isSome,H2,I3,rfl,q2⟩
theorem aZ(hu:X.A.units+1<cLine)(hi:PE X i ty)(ho:PE X o td):PC X .NotIn i o (U3 ty td):=by
 intro pins s σ H Q I h;refine WA (hi pins s σ H _ I h) fun iv s1 ⟨y,H1,I1,ry,q1⟩=>WA (ho pins s1 σ H1 _ I1 q1) fun u s2 zz=>?_
 obtain⟨x,H2,I2,rx,a,ov,ex,g,q2⟩:=zz;subst ex;obtain rfl:u=Value.ref a:=rx;exact O2 hu I2 g ry fun s3 I3=>⟨.bl (!ov.isSome),H2,I3,rfl,q2⟩
theorem Y4(hu:X.A.units+1<cLine)(ho:PE X o td)(hi:PE X i ty)(hv:PE X value tv)(hs:swapsWith value (some (.Subscript o i pos')) pos.line X.env=pure false) :
 PS X (.Assign [.Subscript o i pos'] value pos) (j8 td ty tv):=by
 intro pins s σ H D I h;refine wpAny_Assign_Subscript (WA (hv pins s σ H _ I h) fun r s1 ⟨v,H1,I1,rv,q1⟩=>WA (ho pins s1 σ H1 _ I1 q1) fun u s2 ⟨x,H2,I2,rx,q2⟩=>WA (hi pins s2 σ H2 _ I2 q2) fun iv s3 zz=>?_) hs;obtain⟨y,H3,I3,ry,a,H4,ex,g,q3⟩:=zz;subst ex;obtain rfl:u=Value.ref a:=rx;exact rY hu I3 g ry rv fun s4 I4=>⟨σ,H4,I4,q3⟩
end
theorem PY {P:Program} {w:World} {H:Hp} (h:Heap) (hb:sysModules<h.objs.size):Dj P w H (h.push { cls:=.type "dict",data:=.dict #[] }) h.objs.size (.dK []):=
 ⟨Nat.zero_le _,beq_eq_false_iff_ne.mpr (Ne.symm (Nat.ne_of_lt hb)),[],.nil,Heap.DictOf.new h⟩
def N5:TE:=fun _ H Q=>∀p,H p=none->Q (.ref p) (VA H p (.dK []))
section
variable{X:Cx}{pos:Pos}
theorem oZ:PE X (.Dict [] [] pos) N5:=fun pins s σ H Q I h=>wpAny_Dict_empty ⟨.ref s.heap.objs.size,_,I.laid (a:=s.heap.objs.size) (o:=.dK []) (t':=s.toks) (fun _ _ q=>Heap.get?_push_of_some _ q) (Hf _) (PY s.heap I.big),rfl,h _ (I.hok.fresh (Hf _))⟩
end
structure M1(X:Cx)(o:Expr)(m:Str)(apos:Pos)(e:Expr)(cpos:Pos):Prop where
 base:attributeBase o m X.env (eval o X.env)=eval o X.env
 few:((backTo cpos (starEach [e] X.env)).all (fun x=>!x.1)&&(backToKw cpos (keywordEach [] X.env)).all (fun x=>x.1.isSome)
  && decide (([e]:List Expr).length+([]:List Keyword).length+(if([]:List Keyword).isEmpty then 0 else 1)<30))=true
 line:(apos.endLine==cpos.line)=true
 trees:backTo cpos (starEach [e] X.env)=[(false,eval e X.env)]
def WU(H:Hp)(a:Addr):Prop:=(∃kvs,Rd H a (.dK kvs))\/∃kvs,Rd H a (.dT kvs)
theorem FP{X:Cx}{pins:List (Addr×Obj)}{σ:St}{H:Hp}{s:Shared}{a:Addr}(I:Inv X pins σ H s)(d:WU H a) :
 s.TypeIs (.ref a) "dict" /\ (∀b,Value.ref a=.ref b->∃ob,s.heap.get? b=some ob/\ob.dict=none)/\(a==sysModules)=false:=by
 rcases d with⟨kvs,e⟩ | ⟨kvs,e⟩
 · obtain⟨_,hd,vs,_,dd⟩:=qI I.hok e;refine⟨dd.typeIs,fun b q=>?_,hd⟩;cases q;obtain⟨ob,_,_,h1,h2,_⟩:=dd;exact⟨ob,h1,h2.2.1⟩
 · obtain⟨_,hd,xs,_,dd⟩:=sI I.hok e;refine⟨dd.typeIs,fun b q=>?_,hd⟩;cases q;obtain⟨ob,_,_,h1,h2,_⟩:=dd;exact⟨ob,h1,h2.2.1⟩
section
variable{X:Cx}{pins:List (Addr×Obj)}{σ:St}{H:Hp}{s:Shared}{a:Addr}{y d:V}{u r:Value}{o:Option V}{A:Around}{E:Value->Shared->Prop}
end
def O5(td ty:TE):TE:=fun σ H Q=>td σ H fun x H1=>∃a,x=.ref a/\WU H1 a/\ty σ H1 fun y H2=>∃kvs k v,H2 a=some (.dK kvs)/\y=kV k/\ZC kvs k=some v/\Q v (VA H2 a (.dK (MF kvs k)))
section
variable{X:Cx}{o e f:Expr}{apos cpos:Pos}{td ty tx:TE}
theorem pZ (ho:PE X o td) (he:PE X e ty) (m:M1 X o "pop" apos e cpos):PE X (.Call (.Attribute o "pop" apos) [e] [] cpos) (O5 td ty):=by intro pins s σ H Q I h;refine wpAny_Call_method m.base m.few m.line PySem.F.plainAttrs_dict PySem.F.slot_dict_pop PySem.F.type_dict_pop (WA (ho pins s σ H _ I h) fun u s1 zz=>?_);obtain⟨x,H1,I1,rx,a,ex,d,q1⟩:=zz;subst ex;obtain rfl:u=Value.ref a:=rx;obtain⟨t1,t2,_⟩:=FP I1 d;refine⟨t1,t2,?_⟩;rw[m.trees];refine Calls.callWith_builtin rfl (Calls.evalArgs_plain (Calls.spliced_cons (WA (he pins s1 σ H1 _ I1 q1) fun iv s2 ⟨y,H2,I2,ry,kvs,k,v,ea,ey,l,q2⟩=>Calls.spliced_nil ?_)));subst ey;exact B8 I2 ea ry l (.inl rfl) fun w' s3 I3 Mx=>⟨v,_,I3,Mx,q2⟩
end
section
variable{X:Cx}{pins:List (Addr×Obj)}{σ:St}{H:Hp}{s:Shared}{a:Addr}{kvs:List (FA×V)}{A:Around}{E:Value->Shared->Prop}
end
section
variable{X:Cx}{pins:List (Addr×Obj)}{σ:St}{H:Hp}{s:Shared}{a:Addr}{y:V}{u:Value}{A:Around}{E:Value->Shared->Prop}
end
section
variable{prog:Program}{w:World}{A:Around}{E:Value->Shared->Prop}{s:Shared}
end
theorem Paired.Rq{α β:Type}{F:α->β->Prop}:∀{xs:List α}{ys:List β}{i:Nat}{x:α},Paired F xs ys->xs[i]?=some x->∃y,ys[i]?=some y/\F x y
 | _,_,i,x,.nil,e=>by simp at e
 | _,_,0,x,.cons r t,e=>by simp at e;subst e;exact⟨_,rfl,r⟩
 | _,_,i+1,x,.cons r t,e=>by obtain⟨y,e1,e2⟩:=Paired.Rq t (i:=i) (x:=x) (by simpa using e);exact⟨y,by simpa using e1,e2⟩
section
variable{X:Cx}
end
end L2
namespace SM
section
variable{K:Frag}{H:Hp}{ρ:Rg}
abbrev KD(K:Frag)(H:Hp)(ρ:Rg)(kvs:List (List Int×Dt))(vs:List (List FA×V)):Prop:=vs.map (·.1)=kvs.map (fun p=>p.1.map Sum.inl)/\aj K H ρ (kvs.map (·.2)) (vs.map (·.2))
theorem jz{k k':List Int}:k.map (Sum.inl:Int->FA)=k'.map Sum.inl↔k=k':=⟨fun h=>(map_inj_right (fun _ _ z=>Sum.inl.inj z)).mp h,fun h=>by rw[h]⟩
theorem KD.Qj{vs:List (List FA×V)}(r:KD K H ρ [] vs):vs=[]:=by have:=r.1;simpa using this
theorem KD.Cj{p:List Int×Dt}{kvs:List (List Int×Dt)}{vs:List (List FA×V)}(r:KD K H ρ (p::kvs) vs):∃v rs,vs=(p.1.map Sum.inl,v)::rs/\cj K H ρ p.2 v/\KD K H ρ kvs rs:=by
 obtain⟨h1,h2⟩:=r;cases vs with
 | nil=>simp at h1
 | cons q rs=>simp only[Zr,List.cons.injEq]at h1;obtain⟨v,r',e,g1,g2⟩:=aj.Cj (by simpa only[Zr]using h2);simp only[Zr,List.cons.injEq]at e;obtain⟨q1,q2⟩:=q;have h11:q1=p.1.map Sum.inl:=h1.1;have e1:q2=v:=e.1;subst e1;exact⟨q2,rs,by rw[h11],g1,h1.2,by rw[e.2];exact g2⟩
theorem KD.cons{p:List Int×Dt}{v:V}{kvs:List (List Int×Dt)}{vs:List (List FA×V)}(g:cj K H ρ p.2 v)(r:KD K H ρ kvs vs):KD K H ρ (p::kvs) ((p.1.map Sum.inl,v)::vs):=
 ⟨by simp only[Zr];rw[r.1],.cons g r.2⟩
theorem KD.length{kvs:List (List Int×Dt)}{vs:List (List FA×V)}(r:KD K H ρ kvs vs):vs.length=kvs.length:=by have:=congrArg List.length r.1;simpa using this
theorem KD.repl(k:List Int){d:Dt}{v:V}(g:cj K H ρ d v):∀{kvs:List (List Int×Dt)}{vs:List (List FA×V)},KD K H ρ kvs vs->
 KD K H ρ (kvs.map fun p=>if p.1=k then(p.1,d)else p) (vs.map fun p=>if p.1=k.map Sum.inl then(p.1,v)else p)
 | [],_,r=>by rw[r.Qj];exact⟨rfl,.nil⟩
 | p::kvs,_,r=>by
  obtain⟨u,rs,rfl,g',r'⟩:=r.Cj;rw[Zr,Zr];by_cases c:p.1=k
  · rw[if_pos c,if_pos (jz.mpr c)];exact KD.cons (p:=(p.1,d)) g (KD.repl k g r')
  · rw[if_neg c,if_neg (fun z=>c (jz.mp z))];exact KD.cons g' (KD.repl k g r')
end
section
variable{X:Cx}{e o i d a b f:Expr}{fe fo fi fa fb fy fx:RE}{pos pos' apos cpos:Pos}
end
end SM
namespace L2
section
variable{prog:Program}{w:World}{A:Around}{R:Result->Shared->Prop}{I:Addr}{fp wr:List Addr}{n:Nat}{P:Nat->Value->Prop}{St:Nat->Heap->Prop}
end
section
variable{prog:Program}{w:World}{A:Around}{E:Value->Shared->Prop}{s:Shared}
end
section
variable{X:Cx}{e d:Expr}{ta:TA}{td:TE}{p pos kp:Pos}
end
end L2
namespace SM
section
variable{X:Cx}{e d:Expr}{fa fd:RE}{p pos kp:Pos}
end
end SM
namespace L2
section
variable{X:Cx}
end
end L2
namespace SM
section
variable{X:Cx}{e:Expr}{f:RE}{p p' pos pos':Pos}
end
end SM
namespace L2
section
variable{X:Cx}{tg:Expr}
end
end L2
namespace SM
noncomputable def QE(f:Str)(v:Dt):List (Str×Dt)->List (Str×Dt)
 | []=>[(f,v)]
 | (g,x)::r=>if g=f then(g,v)::r else(g,x)::QE f v r
noncomputable def uC(f:Str):List (Str×Dt)->Option Dt
 | []=>none
 | (g,x)::r=>if f=g then some x else uC f r
def fE(x f:Str)(fo:RE):RE:=fun l h=>(fo l h).bind fun r=>match r.1 with
 | .ref n=>(match r.2[n]? with
  | some (.ins y fs)=>if y=x then(uC f fs).bind fun d=>some (d,r.2)else none
  | _=>none)
 | _=>none
def TJ(x f:Str)(fo fe:RE):RS:=fun l h=>(fe l h).bind fun r=>(fo l r.2).bind fun q=>match q.1 with
 | .ref n=>(match q.2[n]? with
  | some (.ins y fs)=>if y=x/\fs.length<1000 then some (.nx l (q.2.set n (.ins y (QE f r.1 fs))))else none
  | _=>none)
 | _=>none
noncomputable def sL(x:Str)(F:kB)(g:RA):RE:=fun l h=>(g l h).bind fun r=>(F (.ref r.2.length::r.1) (r.2++[.ins x []])).bind fun q=>match q.1 with
 | .non=>some (.ref r.2.length,q.2)
 | _=>none
def nE(x m:Str)(F:kB)(fo:RE)(g:RA):RE:=fun l h=>(fo l h).bind fun r=>match r.1 with
 | .ref n=>(match r.2[n]? with
  | some (.ins y fs)=>if y=x/\uC m fs=none then(g l r.2).bind fun q=>F (.ref n::q.1) q.2 else none
  | _=>none)
 | _=>none
section
variable{X:Cx}{tg:Expr}
end
def wL(f:RE):RI:=fun l h=>(f l h).bind fun r=>match r.1 with
 | .lst xs=>some (.vals (iH 0 xs),r.2)
 | .ref n=>(match r.2[n]? with
  | some (.lst _)=>some (.en n,r.2)
  | _=>none)
 | _=>none
theorem N1 {X:Cx} {elts:List Expr} {x1} {tp p pos:Pos} {a:Expr} {f:RE} (hg:Gl X "enumerate") (hm:X.mg "enumerate" =none) (ha:EM X a f) (hs:oB a=true:=by rfl):IM X (.Tuple elts x1 tp) (.Call (.Name "enumerate" p) [a] [] pos) (wL f):=by
 with_unfolding_all
  refine PI.imp (V4 hg hm (FC ha tD (pB hs _ _)) (pB hs _ _)) fun σ H R zz=>?_
  obtain⟨ρ,l,h,s,h',S,L,e,k⟩:=zz;obtain⟨⟨d1,h2⟩,e1,e⟩:=kA e;refine⟨ρ,l,h,d1,h2,S,L,e1,fun ρ1 v H1 R1 S1 E1=>?_⟩;cases d1 with
  | lst xs=>
   cases e;obtain⟨b,ws,rfl,q,r⟩:=mj.mp R1;refine⟨b,rfl,⟨ws,q.sq⟩,k ρ1 _ H1 (fun H2 ρ2 h2 E2 S2 i=>?_) S1 E1⟩;have q2:=q.same E2;have r2:=aj.same E2 _ r;simp only[Src.at,SR,Nat.zero_add];cases ei:xs[i]? with
   | none=>refine⟨ws,q2.sq,?_⟩;rw[r.length];exact getElem?_eq_none_iff.mp ei
   | some d=>obtain⟨v,g1,g2⟩:=r2.get ei;refine⟨⟨ws,v,q2.sq,g1⟩,fun u H3 y=>?_⟩;obtain⟨p0,y0,hp,rfl,gy,rfl⟩:=y;have g3:=gy ws q2.sq;rw[g1]at g3;cases g3;exact⟨tP S2 (.cons (dj.mpr rfl) (.cons g2 .nil)) hp,Ext.fresh hp,S2.fresh hp⟩
  | ref n=>
   dsimp only at e;split at e
   · rename_i xs0 q0;cases e;obtain⟨b,rfl,hb⟩:=wj.mp R1;obtain⟨Fz,g0,_⟩:=S1.lst hb q0;refine⟨b,rfl,⟨Fz,Wj.of g0⟩,k ρ1 _ H1 (fun H2 ρ2 h2 E2 S2 i=>?_) S1 E1⟩;have hb2:=E2.ix _ _ hb;simp only[Src.at];cases q:h2[n]? with
     | none=>trivial
     | some o=>
      cases o with
      | lst xs=>
       obtain⟨ws,g1,r⟩:=S2.lst hb2 q;dsimp only;cases ei:xs[i]? with
       | none=>refine⟨ws,Wj.of g1,?_⟩;rw[r.length];exact getElem?_eq_none_iff.mp ei
       | some d=>obtain⟨v,g2,g3⟩:=r.get ei;refine⟨⟨ws,v,Wj.of g1,g2⟩,fun u H3 y=>?_⟩;obtain⟨p0,y0,hp,rfl,gy,rfl⟩:=y;have g4:=gy ws (Wj.of g1);rw[g2]at g4;cases g4;exact⟨tP S2 (.cons (dj.mpr rfl) (.cons g3 .nil)) hp,Ext.fresh hp,S2.fresh hp⟩
      | _=>trivial
   · cases e
  | _=>cases e
theorem yH{c:Prop}[Decidable c]{α:Type}{x:Option α}{b:α}(e:(if c then x else none)=some b):c/\x=some b:=by
 by_cases h:c
 · rw[if_pos h]at e;exact⟨h,e⟩
 · rw[if_neg h]at e;cases e
noncomputable def clsOf(K:Frag)(x:Str)(C:Addr):Prop:=nsIn K mainGlobals x=some (some (.ref C))
theorem clsOf.inj{K:Frag}{x:Str}{C C':Addr}(h:clsOf K x C)(h':clsOf K x C'):C=C':=by have:=h.symm.trans h';cases this;rfl
theorem eL{K:Frag}{H:Hp}{ρ:Rg}{f:Str}:∀{fs:List (Str×Dt)}{vs:List (Str×V)},fs.map (·.1)=vs.map (·.1)->aj K H ρ (fs.map (·.2)) (vs.map (·.2))->
 (∀d,uC f fs=some d->∃v,vs.lookup f=some v/\cj K H ρ d v)/\(uC f fs=none->vs.lookup f=none)
 | [],[],_,_=>⟨(fun _ h=>by cases h),fun _=>rfl⟩
 | [],_::_,e,_=>by cases e
 | _::_,[],e,_=>by cases e
 | (x,d)::fs,(y,v)::vs,e,r=>by
  simp only[Zr,List.cons.injEq]at e;obtain⟨e0,e⟩:=e;subst e0;obtain⟨v',rr,q,h1,h2⟩:=aj.Cj r;cases q;obtain⟨i1,i2⟩:=eL (f:=f) e h2;by_cases z:f=x
  · have zb:(f==x)=true:=beq_iff_eq.mpr z;refine⟨fun d' h=>?_,fun h=>?_⟩
    · simp only[uC,if_pos z]at h;cases h;exact⟨v,by simp only[List.lookup,zb],h1⟩
    · simp only[uC,if_pos z]at h;cases h
  · have zb:(f==x)=false:=by rw[<- Bool.not_eq_true,beq_iff_eq];exact z
    refine⟨fun d' h=>?_,fun h=>?_⟩
    · simp only[uC,if_neg z]at h;obtain⟨w,w1,w2⟩:=i1 d' h;exact⟨w,by simp only[List.lookup,zb];exact w1,w2⟩
    · simp only[uC,if_neg z]at h;simp only[List.lookup,zb];exact i2 h
theorem fT{K:Frag}{H:Hp}{ρ:Rg}{f:Str}{d:Dt}{v:V}(rd:cj K H ρ d v):∀{fs:List (Str×Dt)}{vs:List (Str×V)},fs.map (·.1)=vs.map (·.1)->aj K H ρ (fs.map (·.2)) (vs.map (·.2))->
 (QE f d fs).map (·.1)=(L2.zC f v vs).map (·.1)/\aj K H ρ ((QE f d fs).map (·.2)) ((L2.zC f v vs).map (·.2))
 | [],[],_,_=>⟨rfl,.cons rd .nil⟩
 | [],_::_,e,_=>by cases e
 | _::_,[],e,_=>by cases e
 | (x,d0)::fs,(y,v0)::vs,e,r=>by
  simp only[Zr,List.cons.injEq]at e;obtain⟨e0,e⟩:=e;subst e0;obtain⟨v',rr,q,h1,h2⟩:=aj.Cj r;cases q;by_cases z:x=f
  · simp only[QE,L2.zC,if_pos z,Zr];exact⟨by rw[e],.cons rd h2⟩
  · obtain⟨i1,i2⟩:=fT rd (f:=f) e h2;simp only[QE,L2.zC,if_neg z,Zr];exact⟨by rw[i1],.cons h1 i2⟩
structure rJ(K:Frag)(x f:Str):Prop where
 ex:∃C,clsOf K x C/\Cls K C/\yq K C f
structure bK(P:Program)(w:World)(K:Frag)(mg:Str->Option Value)(base:Heap)(k n:Nat)(x m:Str)(F:kB):Prop where
 ex:∃C f fd ps,clsOf K x C/\Cls K C/\pF K C m f/\Oj P w K mg base sE k f fd ps (NI K n F)/\Binds K fd ps []
 len:∀ds h r,F ds h=some r->ds.length=n
structure gG(K:Frag)(x m qual:Str)(st:Stmt)(ps:List Str):Prop where
 ex:∃C f fd,clsOf K x C/\Cls K C/\pF K C m f/\iz K m qual st f fd/\Binds K fd ps []
structure RL(P:Program)(w:World)(K:Frag)(mg:Str->Option Value)(base:Heap)(k n:Nat)(x:Str)(F:kB):Prop where
 ex:∃C f fd ps,clsOf K x C/\Mk K C f/\Oj P w K mg base sE k f fd ps (NI K n F)/\mg x=some (.ref C)/\Binds K fd ps []
 len:∀ds h r,F ds h=some r->ds.length=n
structure GP(K:Frag)(mg:Str->Option Value)(x qual:Str)(st:Stmt)(ps:List Str):Prop where
 ex:∃C f fd,clsOf K x C/\Mk K C f/\iz K "__init__" qual st f fd/\mg x=some (.ref C)/\Binds K fd ps []
section
variable{P:Program}{w:World}{K:Frag}{mg:Str->Option Value}{base:Heap}
theorem tT{x m qual:Str}{st:Stmt}{N ps:List Str}{k n mm:Nat}{body:RS}(D:gG K x m qual st ps)(S:YA N ps (sA st))(hn:ps.length=n)(hm:N.length=mm)
 (hb:∀(f:Addr)(cdv:Value)(A:Around)(outer:List Env)(s:Shared)(H:Hp)(E:XK),Hj k (A.deeper (envOfC qual (sA st) s.heap.objs.size f cdv))->
  sH (mC sE P w K mg base N qual (sA st) f cdv A outer s H E).Yx (LB st) body):bK P w K mg base (k+1) n x m (FB n mm body):=by
 with_unfolding_all subst hn hm;obtain⟨C,f,fd,c1,c2,c3,hF,hB⟩:=D.ex;exact⟨⟨C,f,fd,ps,c1,c2,c3,vL hF S fun cdv A outer s H E hr=>hb f cdv A outer s H E hr,hB⟩,fun ds h r e=>tJ e⟩
theorem A2{x qual:Str}{st:Stmt}{N ps:List Str}{k n mm:Nat}{body:RS}(D:GP K mg x qual st ps)(S:YA N ps (sA st))(hn:ps.length=n)(hm:N.length=mm)
 (hb:∀(f:Addr)(cdv:Value)(A:Around)(outer:List Env)(s:Shared)(H:Hp)(E:XK),Hj k (A.deeper (envOfC qual (sA st) s.heap.objs.size f cdv))->
  sH (mC sE P w K mg base N qual (sA st) f cdv A outer s H E).Yx (LB st) body):RL P w K mg base (k+1) n x (FB n mm body):=by
 with_unfolding_all subst hn hm;obtain⟨C,f,fd,c1,c2,hF,c3,hB⟩:=D.ex;exact⟨⟨C,f,fd,ps,c1,c2,vL hF S fun cdv A outer s H E hr=>hb f cdv A outer s H E hr,c3,hB⟩,fun ds h r e=>tJ e⟩
end
theorem MU{H:Hp}{a C dx:Addr}{vs:List (Str×V)}(h:H a=some (.ins C dx vs)):vQ H a:=fun _ _ e=>by rw[h]at e;cases e
section
variable{X:Cx}{e o value:Expr}{es:List Expr}{x f m:Str}{fo fe:RE}{g:RA}{pos pos' apos p:Pos}{k k' n:Nat}{F:kB}
theorem FF(cl:rJ X.K x f)(ha:EM X e fo)(hb:attributeBase e f X.env (eval e X.env)=eval e X.env:=by rfl):EM X (.Attribute e f pos) (fE x f fo):=by
 with_unfolding_all
  exact PE.imp (Y5 ha hb) fun σ H Q zz=>by
   obtain⟨ρ,l,h,d,h',S,L,e,k⟩:=zz;obtain⟨⟨d1,h1⟩,e1,e⟩:=kA e;refine⟨ρ,l,h,d1,h1,S,L,e1,fun ρ1 v H1 R1 S1 E1=>?_⟩;cases d1 with
   | ref n=>
    dsimp only at e;split at e
    · rename_i y fs q;obtain⟨hy,e3⟩:=yH e;subst hy;obtain⟨d2,q2,e4⟩:=kA e3;cases e4;obtain⟨a,z,ha⟩:=wj.mp R1;obtain⟨C,dx,vs,c1,g1,g2,g3⟩:=S1.ob n a _ ha q;obtain⟨C',c2,c3,c4⟩:=cl.ex;have cc:C'=C:=clsOf.inj c2 c1;subst cc;obtain⟨v2,w1,w2⟩:=(eL g2 g3).1 _ q2;exact⟨a,C',dx,vs,v2,z,g1,c3,c4,w1,k ρ1 _ _ w2 S1 E1⟩
    · cases e
   | _=>cases e
theorem gU(cl:rJ X.K x f)(ha:EM X o fo)(hv:EM X value fe)(hs:swapsWith value (some (.Attribute o f pos')) pos.line X.env=pure false:=by rfl):ZM X (.Assign [.Attribute o f pos'] value pos) (TJ x f fo fe):=by
 with_unfolding_all
  exact PS.imp (A6 ha hv hs) fun D σ H zz=>by
   obtain⟨ρ,l,h,r,S,L,e,k⟩:=zz;obtain⟨⟨v,hv⟩,e1,e⟩:=kA e;obtain⟨⟨d,hd⟩,e2,e⟩:=kA e;refine⟨ρ,l,h,v,hv,S,L,e1,fun ρ1 u H1 R1 S1 E1=>⟨ρ1,l,hv,d,hd,S1,L.ext E1,e2,fun ρ2 y H2 R2 S2 E2=>?_⟩⟩;cases d with
   | ref n=>
    dsimp only at e;split at e
    · rename_i y fs q;obtain⟨⟨hy,hl⟩,e⟩:=ME e;cases e;subst hy;obtain⟨a,zz,ha⟩:=wj.mp R2;obtain⟨C,dx,vs,c1,g1,g2,g3⟩:=S2.ob n a _ ha q;obtain⟨C',c2,c3,c4⟩:=cl.ex;have cc:C'=C:=clsOf.inj c2 c1;subst cc;have hm:=mem_of_getElem? ha;have hlen:vs.length=fs.length:=by have:=congrArg List.length g2;simpa using this.symm
      obtain⟨p1,p2⟩:=fT (f:=f) (cj.ext E2 _ R1) g2 g3;refine⟨a,C',dx,vs,zz,g1,c3,c4,by rw[hlen];exact hl,?_⟩;exact k ρ2 σ _ (S2.write ha (MU g1) ⟨C',dx,_,c1,KB,p1,p2.ext (Ext.write hm (MU g1))⟩) (L.ext (E1.trans (E2.trans (Ext.write hm (MU g1))))) (E1.trans (E2.trans (Ext.write hm (MU g1))))
    · cases e
   | _=>cases e
theorem W0 (c:RL X.prog X.w X.K X.mg X.base k n x F) (hr:Hj k' X.A) (hk:k+1<=k') (hg:Gl X x) (ha:AM X (e::es) g) (hdb:(x==("__debug__" :Str))=false:=by decide)
 (he:oB e=true:=by rfl) (hpl:es.all oB=true:=by rfl):EM X (.Call (.Name x p) (e::es) [] pos) (sL x F g):=by
 with_unfolding_all
  obtain⟨C,f,fd,ps,c1,c2,c3,c4,c5⟩:=c.ex;exact PE.imp (O4 c2 c3 (hr.mono hk) hg c4 c5 .nil (E:=E0) zL ha hdb (pB he _ _) (SH hpl)) fun σ H Q zz=>by
   obtain⟨ρ,l,h,d,h',S,L,e,k⟩:=zz;obtain⟨⟨dg,h1⟩,e1,e⟩:=kA e;obtain⟨⟨d2,h2⟩,e2,e⟩:=kA e;cases d2 with
   | non=>
    cases e;refine⟨ρ,l,h,dg,h1,S,L,e1,fun ρ1 vs H1 R1 S1 E1 xa dx hx hdx hne=>?_⟩;have S2:gj X.K ρ1 h1 (VA H1 dx (.own xa)):=S1.fresh hdx;have hx2:VA H1 dx (.own xa) xa=none:=by rw[UA (Ne.symm hne)];exact hx
    have S3:=S2.own (p:=xa) (o:=.ins C dx []) (u:=.ins x []) hx2 ⟨C,dx,[],c1,KB,rfl,.nil⟩;have E3:Ext ρ1 (ρ1.add xa) H1 (VA (VA H1 dx (.own xa)) xa (.ins C dx [])):=(Ext.fresh hdx).trans (Ext.own hx2);have bh:(ρ1.add xa).v[h1.length]?=some xa:=by simp[Rg.add,<- S1.len]
    have R3:aj X.K (VA (VA H1 dx (.own xa)) xa (.ins C dx [])) (ρ1.add xa) (.ref h1.length::dg) (.ref xa::(vs++[])):=.cons (wj.mpr ⟨xa,rfl,bh⟩) (by rw[Kf];exact R1.ext E3);exact⟨ρ1.add xa,_,_,.non,h2,S3,R3,c.len _ _ _ e2,e2,fun ρ' v H' R' S' E'=>⟨zj.mp R',k ρ' _ H' (wj.mpr ⟨xa,rfl,E'.get bh⟩) S' (E1.trans (E3.trans E'))⟩⟩
   | _=>cases e
end
structure PL(K:Frag)(x qual:Str)(st:Stmt)(dV:Value)(f:Addr)(fd:FuncData):Prop where
 ex:∃(oc:Value)(od:Option Addr)(kV doc pm:Value)(an:Option Addr)(cdv ct:Value)(osl:Array (Option Value)),
  fd=fnOf x qual (jD st) (LB st) (sA st) dV kV doc pm an cdv ct/\K.lookup f=some ⟨oc,od,.func fd,osl⟩/\PySem.W.codeIn K cdv qual=true
 kp:keepIn K (.ref f)=true
section
variable{P:Program}{w:World}{K:Frag}{mg:Str->Option Value}{base:Heap}
theorem D1{x qual:Str}{st:Stmt}{f:Addr}{oc dV:Value}{od an:Option Addr}{osl:Array (Option Value)}{kV doc pm cdv ct:Value}(l:K.lookup f=some ⟨oc,od,.func (fnOf x qual (jD st) (LB st) (sA st) dV kV doc pm an cdv ct),osl⟩)
 (c:PySem.W.codeIn K cdv qual=true) (k:keepIn K (.ref f)=true):PL K x qual st dV f (fnOf x qual (jD st) (LB st) (sA st) dV kV doc pm an cdv ct):=⟨⟨oc,od,kV,doc,pm,an,cdv,ct,osl,rfl,l,c⟩,k⟩
end
section
variable{X:Cx}{k k' n:Nat}{F:kB}{x:Str}{p pos:Pos}{e:Expr}{es:List Expr}{g:RA}{Fv:List Dt}
end
def JB(K:Frag)(x:Str)(st:Stmt):Prop:=∃(f:Addr)(oc:Value)(od:Option Addr)(kV dc pm:Value)(an:Option Addr)(cd ct:Value)(sl:Array (Option Value)),nsIn K mainGlobals x=some (some (.ref f))/\
 K.lookup f=some ⟨oc,od,.func (fnOf x x (jD st) (LB st) (sA st) .none kV dc pm an cd ct),sl⟩/\PySem.W.codeIn K cd x=true/\keepIn K (.ref f)=true
def oG(K:Frag)(C:Addr)(m qual:Str)(st:Stmt):Prop:=∃(f:Addr)(oc:Value)(od:Option Addr)(kV dc pm:Value)(an:Option Addr)(cd ct:Value)(sl:Array (Option Value)),findIn K (.ref C) m=some (some (.ref f))/\PySem.W.isFn K (.ref f)=true/\
 K.lookup f=some ⟨oc,od,.func (fnOf m qual (jD st) (LB st) (sA st) .none kV dc pm an cd ct),sl⟩/\PySem.W.codeIn K cd qual=true/\keepIn K (.ref f)=true
structure BI(K:Frag)(x:Str)(C:Addr):Prop where
 ac:nsIn K mainGlobals x=some (some (.ref C))
 pg:PySem.W.plainGet K C Str.empty=true
 hd:PySem.W.hasDictIn K C=true
 po:PySem.W.plainOver K C=true
 sa:findIn K (.ref C) "__setattr__" =some (some (.builtin "object.__setattr__"))
 ur:PySem.W.makesIn K C=true
 kc:keepIn K (.ref C)=true
section
variable{K:Frag}{h:Heap}{mg:Str->Option Value}{x m qual:Str}{st:Stmt}{ps:List Str}{C:Addr}{d:Int}
theorem QB(X:K.In h)(G:h.Ns mainGlobals mg)(D:JB K x st)(hb:∀(kV doc pm:Value)(an:Option Addr)(cdv ct:Value)(us:List Value),us.length=ps.length->bindArgs (fnOf x x (jD st) (LB st) (sA st) .none kV doc pm an cdv ct) ⟨us,[]⟩=pure (ps.zip us)):IB K mg x st ps:=by obtain⟨f,oc,od,kV,dc,pm,an,cd,ct,sl,a,l,c,k⟩:=D;have F:=BJ l c k;exact⟨⟨f,_,F,PySem.W.mg_of X G a,F.binds hb⟩⟩
theorem oJ(k:BI K x C)(D:oG K C m qual st)(hb:∀(kV doc pm:Value)(an:Option Addr)(cdv ct:Value)(us:List Value),us.length=ps.length->bindArgs (fnOf m qual (jD st) (LB st) (sA st) .none kV doc pm an cdv ct) ⟨us,[]⟩=pure (ps.zip us)):gG K x m qual st ps:=by obtain⟨f,oc,od,kV,dc,pm,an,cd,ct,sl,a,i,l,c,k'⟩:=D;have F:=BJ l c k';exact⟨⟨C,f,_,k.ac,⟨k.pg,k.hd,k.po,k.sa⟩,⟨a,i,k'⟩,F,F.binds hb⟩⟩
theorem NZ (X:K.In h) (G:h.Ns mainGlobals mg) (k:BI K x C) (D:oG K C "__init__" qual st) (hb:∀(kV doc pm:Value) (an:Option Addr) (cdv ct:Value) (us:List Value),us.length=ps.length->bindArgs (fnOf "__init__" qual (jD st) (LB st) (sA st) .none kV doc pm an cdv ct) ⟨us,[]⟩=pure (ps.zip us)):GP K mg x qual st ps:=by obtain⟨f,oc,od,kV,dc,pm,an,cd,ct,sl,a,i,l,c,k'⟩:=D;have F:=BJ l c k';exact⟨⟨C,f,_,k.ac,⟨k.ur,a,i,k.kc⟩,F,PySem.W.mg_of X G k.ac,F.binds hb⟩⟩
theorem qT{f:Str}(k:BI K x C)(n:findIn K (.ref C) f=some none):rJ K x f:=⟨⟨C,k.ac,⟨k.pg,k.hd,k.po,k.sa⟩,n⟩⟩
end
section
variable{Q:List Value->Prop}
theorem fK(h:Q []):∀us:List Value,us.length=0->Q us | [],_=>h
theorem OE{n:Nat}(h:∀a us,us.length=n->Q (a::us)):∀us:List Value,us.length=n+1->Q us | a::us,e=>h a us (Nat.succ.inj e)
theorem NE(h:∀a,Q [a]):∀us:List Value,us.length=1->Q us:=OE fun a=>fK (h a)
theorem jC(h:∀a b,Q [a,b]):∀us:List Value,us.length=2->Q us:=OE fun a=>OE fun b=>fK (h a b)
theorem FQ(h:∀a b c,Q [a,b,c]):∀us:List Value,us.length=3->Q us:=OE fun a=>OE fun b=>OE fun c=>fK (h a b c)
theorem GQ(h:∀a b c d,Q [a,b,c,d]):∀us:List Value,us.length=4->Q us:=OE fun a=>OE fun b=>OE fun c=>OE fun d=>fK (h a b c d)
end
theorem uB{N P:List Str}{sc:Scope}(a:sc.kind=.function:=by exact rfl)(b:sc.isCoroutine=false:=by exact rfl)(c:sc.isGenerator=false:=by exact rfl)(d:N.Nodup:=by decide +kernel)(e:N.take P.length=P:=by exact rfl)
 (f:∀x∈P,sc.names.lookup x=some .local\/sc.names.lookup x=some .cell:=by decide +kernel) (g:∀y∈sc.names,y.2≠.free:=by decide +kernel):YA N P sc:=⟨a,b,c,d,e,f,g⟩
theorem rB {X:Cx} {k k' n:Nat} {x:Str} {F:kB} {e:Expr} {es:List Expr} {g:RA} {p pos:Pos} (c:pC X.prog X.w X.K X.mg X.base k n x F) (hr:Hj k' X.A) (ha:AM X (e::es) g) (hk:k<=k':=by decide) (hg:Gl X x:=by exact rfl) (hdb:(x==("__debug__" :Str))=false:=by decide)
 (he:oB e=true:=by rfl) (hpl:es.all oB=true:=by rfl):EM X (.Call (.Name x p) (e::es) [] pos) (KA F [] g):=cF c hr hk hg ha hdb he hpl
end SM
namespace L2
theorem SS:∀{bs:List Bool}{us:List Value},Vals (bs.map V.bl) us->us=bs.map Value.bool
 | [],_,h=>by cases h;rfl
 | b::bs,_,h=>by
  cases h with
  | cons r rr=>rw[SS rr];cases r;rfl
def g8(K:Frag):V->List V->Hp->VK->Prop:=fun x vs H Q=>∃(a:Addr)(bs:List Bool)(b:Bool),x=.ref a/\vs=[.bl b]/\Wj K H a (bs.map V.bl)/\Q (.int ((bs.countP (· ==b):Nat):Int)) H
section
variable{X:Cx}
theorem SY:IU X "list.count" (g8 X.K):=by
 intro pins s σ H x vs v us Q I rx rv h;obtain⟨p,bs,b,rfl,rfl,sq,q⟩:=h;cases rx;obtain⟨u,rfl,ru⟩:=kI rv;cases ru;obtain⟨its,Mx,⟨⟨c1,d1,t1,Sw⟩,n,e0,k1,k2,k3⟩,z⟩:=I.list sq;simp only at k1 k2 k3;subst k1 k2 k3;have ib:=SS Mx;refine call_meets PySem.F.slot_list_count ⟨_,e0,rfl⟩ PySem.F.entry_list_count (PySem.F.args_list_count_2 _ _) (SeqAt.list_countAt p its.toArray n none Sw (.bool b) (isBoolOf b)) ⟨e0,fun y hy=>?_,?_⟩
 · have hy':y∈its:=by simpa using hy
   rw[ib]at hy';obtain⟨c,_,rfl⟩:=mem_map.mp hy';exact SeqAt.EqAt.bool_bool c b
 · have ec:its.toArray.toList.countP (isBoolOf b)=bs.countP (· ==b):=by rw[show its.toArray.toList=its from rfl,ib,countP_map];rfl
   rw[ec];exact⟨.int _,H,I.tok _,⟨_,rfl⟩,q⟩
end
end L2
namespace SM
def lP(fa fb:RE):RE:=fun l h=>(fa l h).bind fun r=>(fb l r.2).bind fun q=>match r.1,q.1 with
 | .lst xs,.bl b=>(PD xs).bind fun bs=>some (.int ((bs.countP (· ==b):Nat):Int),q.2)
 | _,_=>none
section
variable{X:Cx}{a b:Expr}{fa fb:RE}
theorem OX {apos cpos:Pos} (ho:EM X a fa) (hb:EM X b fb) (hbase:attributeBase a "count" X.env (eval a X.env)=eval a X.env:=by rfl)
 (hline:(apos.endLine==cpos.line)=true:=by rfl) (hs:oB b=true:=by rfl) :
 EM X (.Call (.Attribute a "count" apos) [b] [] cpos) (lP fa fb):=by
 with_unfolding_all
  exact PE.imp (QJ PySem.F.plainAttrs_list PySem.F.slot_list_count PySem.F.type_list_count SY ho (FC hb tD (pB hs _ _)) hbase (pJ hs) hline (pB hs _ _)) fun σ H Q zz=>by
   obtain⟨ρ,l,h,d,h',S,L,e,k⟩:=zz;obtain⟨⟨d1,h1⟩,e1,e⟩:=kA e;obtain⟨⟨d2,h2⟩,e2,e⟩:=kA e;refine⟨ρ,l,h,d1,h1,S,L,e1,fun ρ1 v H1 R1 S1 E1=>?_⟩;cases d1 with
   | lst xs=>
    cases d2 with
    | bl b=>obtain⟨bs,q,e⟩:=kA e;cases e;obtain⟨x,ws,z,t,rs⟩:=mj.mp R1;subst z;refine⟨.inl ⟨rfl,ws,t.sq⟩,ρ1,l,h1,.bl b,h2,S1,L.ext E1,e2,fun ρ2 y H2 R2 S2 E2=>?_⟩;rw[MO q]at rs;have ew:=rs.Mz;rw[ew]at t;exact⟨x,bs,b,rfl,by rw[fj.mp R2],(t.same E2.same).sq,k ρ2 _ H2 (dj.mpr rfl) S2 (E1.trans E2)⟩
    | _=>cases e
   | _=>cases e
end
theorem dI{P:Program}{w:World}{K:Frag}{mg:Str->Option Value}{base:Heap}{x:Str}{st:Stmt}{ps:List Str}{k n:Nat}(D:IB K mg x st ps):pC P w K mg base k n x (fun _ _=>none):=by
 with_unfolding_all
  obtain⟨f,fd,hF,hm,hB⟩:=D.ex;refine⟨⟨f,fd,ps,⟨fun vs H Q E h=>?_,fun A outer s H args us vs Q E hr he hb hv h=>?_⟩,hm,hF.kp,hB⟩,fun ds h r e=>by cases e⟩
  · obtain⟨ρ,ds,h,d,h',_,_,_,e,_⟩:=h;cases e
  · obtain⟨ρ,ds,h,d,h',_,_,_,e,_⟩:=h;cases e
end SM
namespace L2
section
variable{P:Program}{w:World}{A:Around}{E:Value->Shared->Prop}{h:Heap}{g:Array GenState}{d:Drawn}{t:Nat}{os:OsState}
variable{nm q:Str}{C N:Addr}{bs bm bt:List Value}{hd:Bool}{sn:List Str}{sub:List Value}{ab:Bool}{col:Option Bool}{dd:Option Addr}{k0 k1 k2 k3 k5:Option Value}{B nw ini:String}
noncomputable abbrev TQ(h:Heap)(C:Addr):Obj:={ cls:=.ref C,data:=.fields #[.ref h.objs.size,.none,.none,.none,.bool false,.none] }
noncomputable abbrev SV (us:List Value):Obj:={ cls:=.type "tuple",data:=.seq us.toArray }
abbrev nF(h:Heap)(C:Addr)(us:List Value):Heap:=(h.push (SV us)).push (TQ h C)
theorem zF{us:List Value}{b:Addr}{o:Obj}(e:h.get? b=some o):(nF h C us).get? b=some o:=Heap.get?_push_of_some _ (Heap.get?_push_of_some _ e)
theorem mO{us:List Value}:(nF h C us).get? (h.objs.size+1)=some (TQ h C):=by heap_get
theorem RZ(F:ExcBaseFacts B nw ini bt)(T:OwnTail h bt bm){mN:Str->Option Value}{us:List Value}{f:Addr}{o:Obj}{Q:Fin->Shared->Prop}(hC:h.get? C=some (excClassObj nm q C N bs bm hd sn sub ab col dd k0 k1 k2 k3 k5 nw))(hn:h.Ns N mN)
 (hi:mN "__init__" =some (.ref f)) (hf:h.get? f=some o) (ho:o.cls=.type "function")
 (go:wpAny (model P w) A (call (.ref f) (.ref (h.objs.size+1)::us)) (fun r s'=>r=.none/\Q (.done (.ret (.ref (h.objs.size+1)))) s') E ⟨nF h C us,g,d,t,os⟩) (hz:us.length<=sizeLine:=by size_fits) :
 wpAny (model P w) A (Builtin.«type.__call__» ⟨.ref C::us,[]⟩) Q E ⟨h,g,d,t,os⟩:=by
 repeat (first | with_reducible refine wpAny_loadPart_at hC ?_ | with_reducible refine wpAny_madeBy_exc hC ?_ | wp_step)
 refine codeAny_call_builtin_code (Code.quiet_builtin _ F.quiet) (wpAny_check_new_subT F T hC (codeAny_exc_new_subT F T hC ?_ hz));show wpAny _ _ _ _ _ _;have c1:(nF h C us).get? C=some _:=zF hC;have n1:(nF h C us).Ns N mN:=let ⟨o,es,ep,e,r⟩:=hn;⟨o,es,ep,zF e,r⟩;have i1:(Value.ref C::bm).contains (.ref C)=true:=by simp
 have x1:=mO (h:=h) (C:=C) (us:=us);unfold isInstance
 repeat (first | with_reducible refine wpAny_loadPart_at x1 ?_ | (with_reducible refine wpAny_isSubtype_exc c1 ?_;rw[i1]) | wp_step)
 show wpAny _ _ (typeLookup (.ref C) _) _ _ _;refine wpAny_typeLookup_tail c1 n1 (T.keeps fun b o e=>zF e) F.mroIs F.init.lookup ?_;rw[hi];refine wpAny_holding (wpAny_bind ?_);unfold bindSpecial;refine wpAny_bind (wpAny_typeOf (T := "function") ⟨_,zF hf,ho⟩ ?_);rw[if_pos (by decide)];refine wpAny_pure (wpAny_bind (wpAny_mono go (fun r s' zz=>?_) fun _ _ x=>x));obtain⟨hr,hQ⟩:=zz;subst hr
 wp_walk
 exact hQ
theorem LY(F:ExcBaseFacts B nw ini bt)(T:OwnTail h bt bm){mN:Str->Option Value}{us:List Value}{f:Addr}{o:Obj}{Q:Value->Shared->Prop}(hC:h.get? C=some (excClassObj nm q C N bs bm hd sn sub ab col dd k0 k1 k2 k3 k5 nw))(hn:h.Ns N mN)
 (hi:mN "__init__" =some (.ref f)) (hf:h.get? f=some o) (ho:o.cls=.type "function")
 (go:wpAny (model P w) (A.under (.builtin "type.__call__" ⟨.ref C::us,[]⟩)) (call (.ref f) (.ref (h.objs.size+1)::us)) (fun r s'=>r=.none/\Q (.ref (h.objs.size+1)) s') E ⟨nF h C us,g,d,t,os⟩) (hz:us.length<=sizeLine:=by size_fits) :
 wpAny (model P w) A (call (.ref C) us) Q E ⟨h,g,d,t,os⟩:=by
 have f1:=tc_lookup;have f2:=tc_bind (.ref C);have hT:(⟨h,g,d,t,os⟩:Shared).TypeIs (.ref C) "type" :=⟨_,hC,rfl⟩;refine wpAny_call (codeAny_of_tree ?_);show wpAny _ _ (callAny (.ref C) _) _ _ _
 repeat (any_goals (first | assumption | with_reducible refine wpAny_loadPart_at hC ?_ | wp_step))
 exact⟨rfl,codeAny_call_builtin_at (Code.quiet_builtin _ (by decide +kernel)) entry_typeCall (wpAny_check_type_call_sub hC (RZ F T hC hn hi hf ho go hz))⟩
end
open PySem.W
section
variable{P:Program}{w:World}{A:Around}{E:Value->Shared->Prop}{s:Shared}{K:Frag}{x C:Addr}{ox:Obj}{od:Option Obj}{n:Str}{ex:Bool}{Q:Value->Shared->Prop}{v:Value}
theorem UV (X:K.In s.heap) (I:InstAt s.heap x ox C od) (ha:findIn K (.ref C) "__getattribute__" =some (some (.builtin "BaseException.__getattribute__"))) (hk:findIn K (.ref C) "__getattr__" =some none)
 (hb:mroIn K C (.type "BaseException")=some true) (hf:findObj K C od n=some (.value v)) (hh:handedIn v=true) (h:Q v { s with toks:=s.toks+1 }):wpAny (model P w) A (getAttr (.ref x) n ex) Q E s:=by
 obtain⟨hp,g,d,t,os⟩:=s;have L0:=I.type (M:=model P w);have L1:=looks_findIn (M:=model P w) X ha;have L2:=looks_find (M:=model P w) X I hf;have e1:(Value.builtin "BaseException.__getattribute__" ==Value.builtin "object.__getattribute__")=false:=by decide +kernel
 unfold getAttr getAttrBy;refine wpAny_bind (wpAny_mkText (wpAny_holding (wpAny_bind (L0.at (wpAny_bind (L1.at ?_))))));dsimp only;rw[e1,Bool.and_false,if_neg Gf];refine wpAny_bind ((looks_hook X (mc:=.ref C) (r:=none) (by rw[if_pos (by rfl)];exact hk)).at (wpAny_bind (wpAny_attempt (wpAny_holding ?_))));unfold callGetattribute;rw[show(ex&&onTheHeap (Value.builtin "BaseException.__getattribute__"))=false from Bool.and_false _,if_neg Gf];unfold boundAndCalled;rw[PySem.F.attr_ValueError.ga.bind];refine wpAny_bind (wpAny_pure ?_);show wpAny _ _ (call (.builtin "BaseException.__getattribute__") [.ref x,.str n t]) _ _ _;refine wpAny_call (codeAny_call_builtin PySem.F.attr_ValueError.ga.plain PySem.F.entry_bexc_ga ?_);refine @check_slot (model P w) _ _ ⟨hp,g,d,t+1,os⟩ "BaseException.__getattribute__" "BaseException" "__getattribute__" (.ref x) [.str n t] [] _ (by decide +kernel) (by decide +kernel) (L0.andThen (looks_mroIn X hb)) (PySem.F.args_bexc_ga _ _) ?_;unfold Builtin.«object.__getattribute__»;refine wpAny_bind (wpAny_pure (wpAny_bind (wpAny_pure (wpAny_bind (L0.at (wpAny_bind (L2.at (wpAny_pure ?_))))))));show wpAny _ _ (handedOut v) _ _ _;rw[handedOut_of hh];exact wpAny_pure h
end
open PySem.W
noncomputable def LD:List Value->Bool
 | .ref _::r=>LD r
 | l=>l == [.type "ValueError", .type "Exception", .type "BaseException", .type "object"]
theorem vR (y:Value):∀{l:List Value},LD l=true->PySem.refuseLoop y "__setattr__" l=pure ()
 | .ref c::r,e=>by rw[PySem.refuseLoop_ref];exact vR y (l:=r) e
 | [],e=>by cases e
 | .none::_,e=>by cases e
 | .type x::r,e=>by rw[beq_iff_eq.mp (show(Value.type x::r==_)=true from e)];exact PySem.F.store_ValueError.passes y
 | .bool _::_,e=>by simp[LD]at e
 | .int _ _::_,e=>by simp[LD]at e
 | .float _ _::_,e=>by simp[LD]at e
 | .str _ _::_,e=>by simp[LD]at e
 | .bytes _ _::_,e=>by simp[LD]at e
 | .ellipsis::_,e=>by simp[LD]at e
 | .notImplemented::_,e=>by simp[LD]at e
 | .builtin _::_,e=>by simp[LD]at e
theorem u0:∀{l:List Value},LD l=true->l.contains (.type "object")=true:=by
 intro l
 induction l with
 | nil=>intro e;cases e
 | cons a r ih=>
  intro e;cases a with
  | ref c=>rw[contains_cons,ih e,Bool.or_true]
  | _=>rw[beq_iff_eq.mp (show(_::r==_)=true from e)];decide
section
variable{P:Program}{w:World}{A:Around}{E:Value->Shared->Prop}{s:Shared}{K:Frag}{x C:Addr}{ox:Obj}{n:Str}{Q:Unit->Shared->Prop}{v:Value}{cd:ClassData}
theorem WV (X:K.In s.heap) (hx:s.heap.get? x=some ox) (hc:ox.cls=.ref C) (hn:ox.dict=none) {vs:Array Value} (hd:ox.data=.fields vs) (hs:findIn K (.ref C) "__setattr__" =some (some (.builtin "object.__setattr__")))
 (hk:clsIn K C=some cd) (ho:LD cd.mro=true) (hh:cd.hasDict=true) (ht:takerIn K C n=some none)
 (h:∀h' tk,h'.get? x=some { ox with dict:=some s.heap.objs.size }->h'.Ns1 s.heap.objs.size (fun y=>if y=n then some v else none)->(∀b o,b≠x->s.heap.get? b=some o->h'.get? b=some o)->Q () { s with heap:=h',toks:=tk }) :
 wpAny (model P w) A (setAttr (.ref x) n v) Q E s:=by
 have I:InstAt s.heap x ox C none:=⟨hx,hc,by unfold notCls;rw[hd],by rw[hn];trivial⟩;refine PySem.W.set_plain X I hs ?_;have SF:=PySem.F.store_object;have ne:cd.mro.isEmpty=false:=by cases q:cd.mro with | nil=>rw[q]at ho;cases ho | cons _ _=>rfl
 have sub:Looks (model P w) s.heap (isInstance (.ref x) (.type "object")) true:=I.type.andThen (looks_mroIn X (by unfold mroIn;rw[hk,zf,if_neg (by rw[ne];decide),u0 ho]));refine codeAny_call_builtin SF.slot.plain SF.entry (@check_slot (model P w) _ _ { s with toks:=s.toks+1 } "object.__setattr__" "object" "__setattr__" (.ref x) [.str n s.toks,v] [] _ SF.kind SF.split sub (SF.args (.ref x) (.str n s.toks) v) ?_);obtain⟨attr,ha,hr⟩:=Option.bind_eq_some_iff.mp ht;have hm:Looks (model P w) s.heap (mroOf (.ref C)) cd.mro:=(looks_clsIn X hk).andThen .now;have L3:Looks (model P w) s.heap (PySem.Builtin.ObjectAttr.storeTaker? attr) none:=by
  cases attr with
  | none=>exact .now
  | some a=>
   obtain⟨b,hb,e⟩:=Option.map_eq_some_iff.mp hr;refine(looks_takesIn X hb).andThen ?_;cases b with
   | false=>exact .now
   | true=>cases e
 rw[osa_eq,PySem.refuse_eq];obtain⟨hp,g,d,t,os⟩:=s;refine wpAny_bind (wpAny_bind (I.type.at (wpAny_bind (hm.at ?_))));rw[vR _ ho];refine wpAny_pure (wpAny_bind (I.type.at (wpAny_bind ((looks_findIn X ha).at (wpAny_bind (L3.at ?_))))));dsimp only;unfold PySem.Builtin.ObjectAttr.storeInOwnDict;obtain⟨oc,odi,oda,osl⟩:=ox;dsimp only at hc hn hd;subst hc hn hd;refine wpAny_bind (wpAny_pure (wpAny_bind (wpAny_bind (wpAny_loadPart hx ?_))));refine wpAny_bind ((looks_clsIn X hk).at ?_);rw[hh,if_neg (by decide)];dsimp only;rw[if_neg (by simp[typeHasDict])];have x1:(hp.push { cls:=.type "dict",data:=.dict #[] }).get? x=some _:=Heap.get?_push_of_some _ hx;have xn:x≠hp.objs.size:=Nat.ne_of_lt (Heap.lt_size hx);refine wpAny_bind (wpAny_alloc' (wpAny_bind (wpAny_update' x1 (wpAny_pure ?_))));have d1:((hp.push { cls:=.type "dict",data:=.dict #[] }).update x fun o=>{ cls:=o.cls,dict:=some hp.objs.size,data:=o.data,slots:=o.slots }).get? hp.objs.size=some { cls:=.type "dict",data:=.dict #[] }:=
  (Heap.get?_update_ne _ _ _ _ xn.symm).trans (Heap.get?_push_at rfl rfl)
 have u1:((hp.push { cls:=.type "dict",data:=.dict #[] }).update x fun o=>{ cls:=o.cls,dict:=some hp.objs.size,data:=o.data,slots:=o.slots }).get? x=some ⟨.ref C,some hp.objs.size,.fields vs,osl⟩:=Heap.get?_update_self _ x1 rfl;have n1:((hp.push { cls:=.type "dict",data:=.dict #[] }).update x fun o=>{ cls:=o.cls,dict:=some hp.objs.size,data:=o.data,slots:=o.slots }).Ns hp.objs.size (fun _=>none):=⟨_,#[],_,d1,rfl,fun e he=>absurd he (by simp),fun _=>rfl⟩;show wpAny _ _ (PySem.Builtin.ObjectAttr.storeInDict hp.objs.size (.str n t) n v) _ _ _;unfold PySem.Builtin.ObjectAttr.storeInDict PySem.Builtin.ObjectAttr.newKeyGuard;refine wpAny_bind (wpAny_pure (wpAny_bind (wpAny_nsSet1 (Heap.Ns1.of_empty n1) fun h' hn' hs=>?_)));obtain⟨oD,esD,epD,hoD,hdD,hcD⟩:=hn'.count (Within.cons n v Within.nil);refine wpAny_bind (wpAny_lookBehind hoD (by rw[hdD];exact pastItsLine_dict (Nat.le_trans hcD (by rw[Xr,Yr,sizeLine_eq];omega))) ?_)
 wp_walk
 exact h h' _ ((hs.2 x xn).trans u1) hn' fun b o hb e=>(hs.2 b (Nat.ne_of_lt (Heap.lt_size e))).trans ((Heap.get?_update_ne _ _ _ _ hb).trans (Heap.get?_push_of_some _ e))
end
open PySem.W
section
variable{P:Program}{w:World}{A:Around}{E:Value->Shared->Prop}{h:Heap}{g:Array GenState}{d:Drawn}{t:Nat}{os:OsState}{x:Addr}{ox:Obj}{Q:Value->Shared->Prop}{v:Value}
variable{nm q:Str}{C N:Addr}{bs bm bt:List Value}{hd:Bool}{sn:List Str}{sub:List Value}{ab:Bool}{col:Option Bool}{dd:Option Addr}{k0 k1 k2 k3 k5:Option Value}{B nw ini:String}
theorem VV(F:ExcBaseFacts B nw ini bt)(T:OwnTail h bt bm)(hC:h.get? C=some (excClassObj nm q C N bs bm hd sn sub ab col dd k0 k1 k2 k3 k5 nw)){t0:Addr}(hx:h.get? x=some (yG C t0 none))
 (go:∀h',h'.get? x=some (yG C h.objs.size none)->(∀b o,b≠x->h.get? b=some o->h'.get? b=some o)->Q .none ⟨h',g,d,t,os⟩) :
 wpAny (model P w) A (call (.builtin ini) [.ref x,v]) Q E ⟨h,g,d,t,os⟩:=by
 refine wpAny_call (codeAny_call_builtin F.init.plain F.initEntry (wpAny_check_init_subT F T hC hx rfl ?_));unfold Builtin.«BaseException.__init__»;have x1:(h.push { cls:=.type "tuple",data:=.seq #[v] }).get? x=some (yG C t0 none):=Heap.get?_push_of_some _ hx
 wp_walk
 refine go _ ?_ fun b o hb e=>?_
 · rw[Heap.get?_update_self _ x1 rfl];rfl
 · rw[Heap.get?_update_ne _ _ _ _ hb];exact Heap.get?_push_of_some _ e
end
open PySem.W
inductive Shows:Int->V->Str->Prop
 | int (i:Int) (h:i.natAbs.log2<1920):Shows (-1) (.int i) (Str.ofString (toString i))
 | rep (x:Str) (h:(reprText x).length<=100000):Shows 114 (.str x) (reprText x)
theorem Shows.len{c:Int}{y:V}{z:Str}(h:Shows c y z):z.length<=100000:=by
 cases h with
 | int i h=>have:=int_text_length_le (k:=1920) (by decide) h;rw[PySem.ofString_length];omega
 | rep x h=>exact h
section
variable{X:Cx}{v:Expr}{te:TE}{a b:Str}{c:Int}{pos p1 p2:Pos}{j1 j2:Nat}
noncomputable def FV(X:Cx)(pins:List (Addr×Obj))(σ:St)(Q:Str->Hp->Prop)(u:Value)(s':Shared):Prop:=∃z t H',u=.str z t/\Inv X pins σ H' s'/\z.length<=100000/\Q z H'
theorem yT(hc:c = -1\/c=114)(he:PE X v te){pins:List (Addr×Obj)}{s:Shared}{σ:St}{H:Hp}{Q:Str->Hp->Prop}(I:Inv X pins σ H s)(h:te σ H fun y H1=>∃z,Shows c y z/\Q z H1) :
 wpAny (model X.prog X.w) X.A (eval (.FormattedValue v c none pos) X.env) (FV X pins σ Q) X.xe s:=by
 rcases hc with rfl | rfl
 · refine wpAny_FormattedValue_plain (WA (he pins s σ H _ I h) fun u s1 zz=>?_);obtain⟨y,H1,I1,r,z,sh,q⟩:=zz;have hl:=sh.len;cases sh with
   | int i hi=>obtain⟨t,rfl⟩:=r;exact wpAny_formatField_int hi ⟨_,_,H1,rfl,I1.tok _,hl,q⟩
 · refine wpAny_FormattedValue_repr (WA (he pins s σ H _ I h) fun u s1 zz=>?_);obtain⟨y,H1,I1,r,z,sh,q⟩:=zz;have hl:=sh.len;cases sh with
   | rep x hx=>
    obtain⟨t,rfl⟩:=r;have hz:(reprText x).length<=sizeLine:=by rw[sizeLine_eq];omega
    refine wpAny_pyReprObj_str ?_ hz;exact wpAny_formatField_str ⟨_,_,H1,rfl,I1.tok _,hl,q⟩ ⟨_,_,H1,rfl,(I1.tok _).tok _,hl,q⟩ hz
noncomputable def qM(c:Int)(te:TE):TE:=fun σ H Q=>te σ H fun y H1=>∃z,Shows c y z/\∀x,Q (.str x) H1
theorem rZ(hc:c = -1\/c=114)(he:PE X v te)(ha:a.length<=1000)(hb:b.length<=1000) :
 PE X (.JoinedStr [.Constant (.str a) j1 p1,.FormattedValue v c none pos,.Constant (.str b) j2 p2] p) (qM c te):=by
 intro pins s σ H Q I h;refine wpAny_JoinedStr ?_;show wpAny _ _ (eval (.Constant (.str a) j1 p1) X.env) _ _ _;have l0:Str.empty.length=0:=rfl;refine Calls.Constant_str ⟨a,_,rfl,by rw[strLen_append,l0,sizeLine_eq];omega,?_⟩;show wpAny _ _ (eval (.FormattedValue v c none pos) X.env) _ _ _;refine WA (yT hc he (I.tok _) (Q:=fun _ H1=>∀x,Q (.str x) H1) h) fun u s1 ⟨z,t,H1,e,I1,hz,q⟩=>⟨z,t,e,by rw[strLen_append,strLen_append,l0,sizeLine_eq];omega,?_⟩
 show wpAny _ _ (eval (.Constant (.str b) j2 p2) X.env) _ _ _;have hl:(Str.empty++a++z++b).length<=sizeLine:=by rw[strLen_append,strLen_append,strLen_append,l0,sizeLine_eq];omega
 exact Calls.Constant_str ⟨b,_,rfl,hl,hl,⟨.str _,H1,(I1.tok _).tok _,⟨_,rfl⟩,q _⟩⟩
theorem qZ(hc:c = -1\/c=114)(he:PE X v te)(ha:a.length<=1000) :
 PE X (.JoinedStr [.Constant (.str a) j1 p1,.FormattedValue v c none pos] p) (qM c te):=by
 intro pins s σ H Q I h;refine wpAny_JoinedStr ?_;show wpAny _ _ (eval (.Constant (.str a) j1 p1) X.env) _ _ _;have l0:Str.empty.length=0:=rfl;refine Calls.Constant_str ⟨a,_,rfl,by rw[strLen_append,l0,sizeLine_eq];omega,?_⟩;show wpAny _ _ (eval (.FormattedValue v c none pos) X.env) _ _ _;refine WA (yT hc he (I.tok _) (Q:=fun _ H1=>∀x,Q (.str x) H1) h) fun u s1 zz=>?_
 obtain⟨z,t,H1,e,I1,hz,q⟩:=zz;have hl:(Str.empty++a++z).length<=sizeLine:=by rw[strLen_append,strLen_append,l0,sizeLine_eq];omega
 exact⟨z,t,e,hl,hl,⟨.str _,H1,I1.tok _,⟨_,rfl⟩,q _⟩⟩
end
open PySem.W
noncomputable abbrev mK:List Value:=[.type "ValueError", .type "Exception", .type "BaseException", .type "object"]
def NF(K:Frag)(C f:Addr):Bool:=match K.lookup C with
 | some ⟨.type "type",_,.cls cd,sl⟩=>(match cd.mro,sl.toList with
  | .ref D::bm,[_,_,_,_,some (.builtin n),_]=>D==C&&(n == "ValueError.__new__" && (!cd.hasDel&&(tailIn K mK bm&&(nsOkIn K cd.ns&&nsIn K cd.ns "__init__" ==some (some (.ref f))))))
  | _,_=>false)
 | _=>false
theorem Z6{K:Frag}{h:Heap}{N:Addr}{m:Str->Option Value}{n:Str}{v:Value}(X:K.In h)(G:h.Ns N m)(e:nsIn K N n=some (some v)):m n=some v:=by
 obtain⟨o,es,ep,ho,hd,_,hf⟩:=G;unfold nsIn at e;split at e
 · rename_i q;have z:=X _ _ q;rw[ho]at z;cases z;cases hd;split at e
   · rename_i he;cases e;rw[<- hf];unfold nsFind findBy;rw[<- Array.find?_toList,he];rfl
   · split at e<;>cases e
 · cases e
theorem UT{K:Frag}{h:Heap}{C f:Addr}(X:K.In h)(q:NF K C f=true):∃nm qn N bs bm hd sn sub ab col dd k0 k1 k2 k3 k5,∃mN:Str->Option Value,
 h.get? C=some (excClassObj nm qn C N bs bm hd sn sub ab col dd k0 k1 k2 k3 k5 "ValueError.__new__")/\h.Ns N mN/\mN "__init__" =some (.ref f)/\OwnTail h mK bm:=by
 unfold NF at q;split at q
 · rename_i dd cd sl ho;split at q
   · rename_i D bm k0 k1 k2 k3 n k5 hm hs;simp only[Bool.and_eq_true,beq_iff_eq,Bool.not_eq_true']at q;obtain⟨rfl,rfl,hdel,ht,hok,hni⟩:=q;obtain⟨nm,bs,mro,ns,qn,hd,sn,sub,ab,col,del⟩:=cd;dsimp only at hm hdel hok hni;subst hm hdel;obtain⟨sl⟩:=sl;dsimp only at hs;subst hs;exact⟨nm,qn,ns,bs,bm,hd,sn,sub,ab,col,dd,k0,k1,k2,k3,k5,_,X _ _ ho,.of_isNs (isNs_of_in X hok),Z6 X (.of_isNs (isNs_of_in X hok)) hni,tail_of_in X ht⟩
   · cases q
 · cases q
theorem BL{P:Program}{w:World}{H:Hp}{h:Heap}{a C t0:Addr}{dx:Option Addr}(e:h.get? a=some (yG C t0 dx)):Dj P w H h a (XO a C t0 dx):=⟨e,⟨_,e⟩,fun _ _ p k=>k _ p⟩
section
variable{X:Cx}{CX:qG}{k:Nat}{f C:Addr}{fd:FuncData}{ps:List Str}{sp:Sp}{E:XK}{x:Str}{p pos:Pos}{e:Expr}{es:List Expr}{t:TA}{Pq:List V}{ds:List Value}
theorem jZ{pins:List (Addr×Obj)}{σ:St}{H:Hp}{s:Shared}{Q:VK}{us:List Value}{vs:List V}(M:NF X.K C f=true)(hfn:isFn X.K (.ref f)=true)(F:Oj X.prog X.w X.K X.mg X.base CX k f fd ps sp)(hr:Hj (k+1) X.A)(hb:Binds X.K fd ps [])
 (hx:ZE CX X E) (hz:ps.length<=100) (I:Inv X pins σ H s) (r:Vals vs us)
 (h:∀x t0,H x=none->sp (.ref x::vs) (VA H x (XO x C t0 none)) (fun v H2=>v=.non/\Q (.ref x) H2) E) :
 wpAny (model X.prog X.w) X.A (call (.ref C) us) (EP X pins σ Q) X.xe s:=by
 have hq:=h (s.heap.objs.size+1) s.heap.objs.size (I.hok.fresh (Nat.le_succ _));obtain⟨nm,qn,N,bs,bm,hd,sn,sub,ab,col,dd,k0,k1,k2,k3,k5,mN,hC,hn,hi,T⟩:=UT I.Aq M;have I2:=I.laid (a:=s.heap.objs.size+1) (o:=XO (s.heap.objs.size+1) C s.heap.objs.size none) (h':=nF s.heap C us) (t':=s.toks) (fun b u q=>zF q) (Nat.le_succ _) (BL mO);have r2:Vals (V.ref (s.heap.objs.size+1)::vs) (Value.ref (s.heap.objs.size+1)::us):=.cons rfl r;have hl0:(Value.ref (s.heap.objs.size+1)::us).length=ps.length:=by have e:=r2.length;rw[F.len _ _ _ _ hq]at e;exact e.symm
 have hl:(Value.ref (s.heap.objs.size+1)::us++[]).length=ps.length:=by rw[Kf];exact hl0
 have hty:=looks_typeIn (M:=model X.prog X.w) I.Aq (beq_iff_eq.mp hfn);obtain⟨o,ho,hoc⟩:∃o,s.heap.get? f=some o/\o.cls=.type "function" :=by have z:=beq_iff_eq.mp hfn;obtain⟨o,ho,hc⟩:=Option.map_eq_some_iff.mp (show(X.K.lookup f).map (·.cls)=some (.type "function")from z);exact⟨o,I.Aq _ _ ho,hc⟩
 obtain⟨hp,g,d,tk,os⟩:=s;refine LY PySem.F.excBase_ValueError T hC hn hi ho hoc ?_ (by rw[Xr]at hl0;rw[sizeLine_eq];omega);refine wpAny_call (codeAny_mono (F.run _ X.stack _ _ ⟨Value.ref (hp.objs.size+1)::us,[]⟩ (Value.ref (hp.objs.size+1)::us) _ _ E (hr.make C us [])
  (I2.env0.make C us []) (by have:=hb _ (Value.ref (hp.objs.size+1)::us) I2.Aq hl;rw[Kf]at this;exact this) r2 hq) fun r s' hq'=>?_)
 cases r with
 | error e=>exact hx pins σ _ _ e s' I2 hq'
 | ok fl=>
  cases fl with
  | ret u=>obtain⟨v,H',I3,rv,ev,q3⟩:=I2.after hq';subst ev;exact⟨rv,⟨V.ref (hp.objs.size+1),H',I3,rfl,q3⟩⟩
  | next=>exact False.elim hq'
  | brk=>exact False.elim hq'
  | cont=>exact False.elim hq'
def P5(C:Addr)(sp:Sp)(E:XK)(t:TA):TE:=fun σ H Q=>t σ H fun vs H1=>∀x t0,H1 x=none->sp (.ref x::vs) (VA H1 x (XO x C t0 none)) (fun v H2=>v=.non/\Q (.ref x) H2) E
theorem uZ(M:NF X.K C f=true)(hfn:isFn X.K (.ref f)=true)(kp:keepIn X.K (.ref C)=true)(F:Oj X.prog X.w X.K X.mg X.base CX k f fd ps sp)(hr:Hj (k+1) X.A)(hg:Gl X x)(hm:X.mg x=some (.ref C))(hb:Binds X.K fd ps [])(hx:ZE CX X E)(hz:ps.length<=100)
 (ha:PA X (e::es) t) (hdb:(x==("__debug__" :Str))=false) (he:starEach (e::es) X.env=(false,eval e X.env)::starEach es X.env) (hpl:(backTo pos (starEach es X.env)).any (·.1)=false) :
 PE X (.Call (.Name x p) (e::es) [] pos) (P5 C sp E t):=by
 intro pins s σ H Q I h;refine wpAny_Call_Name_kw (dG I hg hm ?_ hdb);refine PySem.W.callWith_K (h₀:=X.base) I.ok.mod.Iv kp (WA (ha pos pins s σ H _ I h) fun us s1 ⟨vs,H1,I1,r,q⟩=>⟨I1.Aq,?_⟩) he hpl;exact jZ M hfn F hr hb hx hz I1 r q
end
open PySem.W
def aI(K:Frag)(C:Addr):Bool:=
 findIn K (.ref C) "__getattribute__" ==some (some (.builtin "BaseException.__getattribute__"))&&(findIn K (.ref C) "__getattr__" ==some none&&(mroIn K C (.type "BaseException")==some true &&
 (findIn K (.ref C) "__setattr__" ==some (some (.builtin "object.__setattr__"))&&((clsIn K C).any fun cd=>LD cd.mro&&cd.hasDict))))
noncomputable def ZG (K:Frag) (S:Addr):Bool:=specialIn K (.ref S) "__getattribute__" ==some (some (.builtin "type.__getattribute__"))&&(readsIn K S (.type "type")&&(match findCls K (.ref S) (.type "type") "__init__" with | some (.val v)=>v==.builtin "ValueError.__init__" | _=>false))
theorem WK {K:Frag} {S:Addr} (h:ZG K S=true):specialIn K (.ref S) "__getattribute__" =some (some (.builtin "type.__getattribute__"))/\readsIn K S (.type "type")=true/\findCls K (.ref S) (.type "type") "__init__" =some (.val (.builtin "ValueError.__init__")):=by
 simp only[ZG,Bool.and_eq_true,beq_iff_eq]at h;refine⟨h.1,h.2.1,?_⟩;have q:=h.2.2;split at q
 · rename_i v e;rw[e,beq_iff_eq.mp q]
 · cases q
section
variable{X:Cx}{C f S:Addr}{x fl:Str}{p pos apos pos':Pos}{e o value:Expr}{es:List Expr}{t:TA}{ta tv:TE}
def G7(K:Frag)(t:TA):TE:=fun σ H Q=>t σ H fun vs H1=>∃a C t0 z f,vs=[.ref a,.str z]/\H1 a=some (XO a C t0 none)/\NF K C f=true/\∀t1,Q .non (VA H1 a (XO a C t1 none))
theorem T4 {pl:Sem Bool} (hS:ZG X.K S=true) (hg:Gl X x) (hm:X.mg x=some (.ref S)) (ha:PA X (e::es) t) (hdb:(x==("__debug__" :Str))=false)
 (hst:starEach (e::es) X.env=(false,eval e X.env)::starEach es X.env) (hpl:(backTo pos (starEach es X.env)).any (·.1)=false)
 (ht:eval (.Call (.Attribute (.Name x p) "__init__" apos) (e::es) [] pos) X.env=(do
  let ov <- eval (.Name x p) X.env
  standAt apos.atName
  let (f,first) <- holding [ov] (getMethod ov "__init__" pl)
  callWith pos f first (backTo pos (starEach (e::es) X.env)) (backToKw pos (keywordEach [] X.env)))) :
 PE X (.Call (.Attribute (.Name x p) "__init__" apos) (e::es) [] pos) (G7 X.K t):=by
 intro pins s σ H Q I h;have hS:=WK hS;refine PySem.W.methodCall_KW (pl:=pl) (dG I hg hm ?_ hdb) ht;refine method_cls I.Aq hS.1 (cls_value I.Aq hS.2.1 hS.2.2 (by decide +kernel) ?_);have hA:=ha pos pins _ σ H _ (I.tok (s.toks+1)) h;rw[hst]at hA ⊢;refine Calls.callWith_builtin (by show(false || (backTo pos (starEach es X.env)).any (·.1))=false;rw[hpl]<;>rfl) (Calls.evalArgs_plain ?_);refine WA hA fun us s1 zz=>?_
 obtain⟨vs,H1,I1,r,a,C,t0,z,f,ev,eh,er,q⟩:=zz;subst ev;obtain⟨u1,u2,rfl,r1,r2⟩:=Vals.two r;cases (show u1=Value.ref a from r1);obtain⟨nm,qn,N,bs,bm,hd,sn,sub,ab,col,dd,k0,k1,k2,k3,k5,mN,hC,hn,hi,T⟩:=UT I1.Aq er;have hx:=(I1.hok a _ eh).1;obtain⟨hp,g,d,tk,os⟩:=s1;refine VV PySem.F.excBase_ValueError T hC hx fun h' hx' hk=>?_
 exact⟨.non,_,I1.write (x:=a) (e:=a) (by rw[eh];exact True.intro) (.inl rfl) (fun b u hb e=>hk b u hb e) ⟨_,hx'⟩ (BL hx'),rfl,q _⟩
def k8(K:Frag)(ta tv:TE)(f:Str):TS:=fun D σ H=>tv σ H fun y H1=>ta σ H1 fun x H2=>∃a C t0,x=.ref a/\H2 a=some (XO a C t0 none)/\aI K C=true/\findIn K (.ref C) f=some none/\
 ∀dx,H2 dx=none->D.nx σ (VA (VA H2 dx (.xd [(f,y)])) a (XO a C t0 (some dx)))
theorem pO {K:Frag} {C:Addr} (h:aI K C=true):findIn K (.ref C) "__getattribute__" =some (some (.builtin "BaseException.__getattribute__"))/\findIn K (.ref C) "__getattr__" =some none/\mroIn K C (.type "BaseException")=some true/\
 findIn K (.ref C) "__setattr__" =some (some (.builtin "object.__setattr__"))/\∃cd,clsIn K C=some cd/\LD cd.mro=true/\cd.hasDict=true:=by
 simp only[aI,Bool.and_eq_true,beq_iff_eq]at h;obtain⟨h1,h2,h3,h4,h5⟩:=h;obtain⟨cd,e,q⟩:=any_some h5;rw[Bool.and_eq_true]at q;exact⟨h1,h2,h3,h4,cd,e,q⟩
theorem Z4(ha:PE X o ta)(hv:PE X value tv)(hs:swapsWith value (some (.Attribute o fl pos')) pos.line X.env=pure false):PS X (.Assign [.Attribute o fl pos'] value pos) (k8 X.K ta tv fl):=by
 intro pins s σ H D I h;refine plainObj_wpAny_Assign_Attribute (WA (hv pins s σ H _ I h) fun u s1 ⟨y,H1,I1,ry,q⟩=>WA (ha pins s1 σ H1 _ I1 q) fun ov s2 zz=>?_) hs;obtain⟨x,H2,I2,rx,a,C,t0,ex,ea,eg,en,q2⟩:=zz;subst ex;obtain rfl:ov=Value.ref a:=rx;obtain⟨_,_,_,g4,cd,g5,g6,g7⟩:=pO eg;have hx:=(I2.hok a _ ea).1;have ta:takerIn X.K C fl=some none:=yq.taker (show yq X.K C fl from en);refine WV I2.Aq hx rfl rfl rfl g4 g5 g6 g7 ta fun h' tk hx' hns hk=>?_
 have hf:H2 s2.heap.objs.size=none:=I2.hok.fresh (Hf _);have na:a≠s2.heap.objs.size:=BC ea hf;obtain⟨od,es,ep,hod,hns'⟩:=hns;have m1:(s2.heap.push od).get? s2.heap.objs.size=some od:=Heap.get?_push_at rfl (Heap.get?_some_iff.mp hod).2;have I3:=I2.laid (a:=s2.heap.objs.size) (o:=.xd [(fl,y)]) (h':=s2.heap.push od) (t':=s2.toks) (fun b u e=>Heap.get?_push_of_some _ e) (Hf _) ⟨_,⟨od,es,ep,m1,hns'⟩,fun g=>by
  by_cases z:g=fl
  · subst z;have zb:(g==g)=true:=beq_iff_eq.mpr rfl;simp only[List.lookup,zb];exact ry
  · have zb:(g==fl)=false:=by rw[<- Bool.not_eq_true,beq_iff_eq];exact z
    simp only[List.lookup,zb,if_neg z];exact True.intro⟩
 have Bt:VA H2 s2.heap.objs.size (.xd [(fl,y)]) a=some (XO a C t0 none):=by rw[UA na];exact ea
 have I4:=I3.write (x:=a) (e:=a) (o:=XO a C t0 (some s2.heap.objs.size)) (h':=h') (t':=tk) (by rw[Bt];exact True.intro) (.inl rfl) (fun b u hb e=>?_) ⟨_,hx'⟩ (BL hx')
 · exact⟨σ,_,I4,q2 _ hf⟩
 · rcases Heap.get?_push_cases e with⟨rfl,rfl⟩ | e
   · exact hod
   · exact hk b u hb e
def F7(K:Frag)(ta:TE)(f:Str):TE:=fun σ H Q=>ta σ H fun x H1=>∃a C dx y,x=.ref a/\H1 a=some (XL a (.ref C) (some dx))/\H1 dx=some (.xd [(f,y)])/\aI K C=true/\findIn K (.ref C) f=some none/\(∃i,y=.int i\/∃z,y=.str z)/\Q y H1
theorem A0{h:Heap}{a:Addr}{m:Str->Option Value}{o:Obj}{n:Str}{v:Value}(N:h.Ns1 a m)(ho:h.get? a=some o)(e:m n=some v):lookIn n o=some (some v):=by obtain⟨o',es,ep,h1,h2,h3,h4,h5⟩:=N;rw[ho]at h1;cases h1;have z:=h5 n;rw[e]at z;unfold nsFind findBy at z;rw[<- Array.find?_toList]at z;unfold lookIn;rw[h2];dsimp only;obtain⟨en,q1,q2⟩:=Option.map_eq_some_iff.mp z;rw[q1];simp only[q2]
theorem Q4(he:PE X e ta)(hb:attributeBase e fl X.env (eval e X.env)=eval e X.env):PE X (.Attribute e fl pos) (F7 X.K ta fl):=by
 intro pins s σ H Q I h;refine YS hb (WA (he pins s σ H _ I h) fun u s1 zz=>?_);obtain⟨x,H1,I1,rx,a,C,dx,y,ex,ea,ed,eg,en,ey,q⟩:=zz;subst ex;obtain rfl:u=Value.ref a:=rx;obtain⟨g1,g2,g3,_,cd,g5,g6,g7⟩:=pO eg;obtain⟨ox,vx,hx,⟨x1,x2⟩,x3⟩:=(I1.hok a _ ea).1;obtain⟨mA,N,r⟩:=(show Dj X.prog X.w H1 s1.heap dx (.xd [(fl,y)])from I1.hok dx _ ed);obtain⟨od,es,ep,hod,N'⟩:=id N;have r1:=r fl;have zb:(fl==fl)=true:=beq_iff_eq.mpr rfl;simp only[List.lookup,zb]at r1;cases q0:mA fl with
 | none=>rw[q0]at r1;exact False.elim r1
 | some v=>
  rw[q0]at r1;have ll:=A0 N hod q0;have J:InstAt s1.heap a ox C (some od):=⟨hx,x1,by unfold notCls;rw[x3],by rw[x2];exact hod⟩;have hh:handedIn v=true:=by
   rcases ey with⟨i,rfl | ⟨z,rfl⟩⟩
   · obtain⟨t,rfl⟩:=(show ∃t,v=Value.int i t from r1);rfl
   · obtain⟨t,rfl⟩:=(show ∃t,v=Value.str z t from r1);rfl
  refine UV I1.Aq J g1 g2 g3 ?_ hh ⟨y,H1,I1.tok _,r1,q⟩;unfold findObj;rw[g5,zf,en,zf];simp[PySem.W.ownOf,g7,ll]
end
open PySem.W
section
variable{P:Program}{w:World}{A:Around}{E:Value->Shared->Prop}{s:Shared}{K:Frag}{x C:Addr}{ox:Obj}{od:Option Obj}{n:Str}{ex:Bool}{v:Value}
theorem TV {Q:Option Value->Shared->Prop} (X:K.In s.heap) (I:InstAt s.heap x ox C od) (hd:(clsIn K C).isSome=true) (ha:findIn K (.ref C) "__getattribute__" =some (some (.builtin "BaseException.__getattribute__"))) (hk:findIn K (.ref C) "__getattr__" =some none)
 (hb:mroIn K C (.type "BaseException")=some true) (c1:findIn K (.ref C) "__class__" =some (some (.builtin "object.__class__"))) (c2:specialIn K (.builtin "object.__class__") "__get__" =some (some (.builtin "getset_descriptor.__get__")))
 (c3:takesIn K (.builtin "object.__class__")=some true) (c4:mroIn K C (.type "object")=some true) (h:Q (some (.ref C)) { s with toks:=s.toks+1 }):wpAny (model P w) A (getAttr? (.ref x) "__class__") Q E s:=by
 obtain⟨hp,g,d,t,os⟩:=s;have L0:=I.type (M:=model P w);have L1:=looks_findIn (M:=model P w) X ha;have hf:findObj K C od "__class__" =some (.bind (.builtin "getset_descriptor.__get__") (.builtin "object.__class__")):=by obtain⟨cd,hc⟩:=Option.isSome_iff_exists.mp hd;unfold findObj;rw[hc,zf,c1,zf];simp[c2,c3]
 have L2:=looks_find (M:=model P w) X I hf;have e1:(Value.builtin "BaseException.__getattribute__" ==Value.builtin "object.__getattribute__")=false:=by decide +kernel
 unfold getAttr? getAttrBy? getAttrBy;refine wpAny_bind (wpAny_mkText (wpAny_bind (wpAny_attempt (wpAny_holding (wpAny_bind (L0.at (wpAny_bind (L1.at ?_))))))));dsimp only;rw[e1,Bool.and_false,if_neg Gf];refine wpAny_bind ((looks_hook X (mc:=.ref C) (r:=none) (by rw[if_pos (by rfl)];exact hk)).at (wpAny_bind (wpAny_attempt (wpAny_holding ?_))));unfold callGetattribute;rw[show(false&&onTheHeap (Value.builtin "BaseException.__getattribute__"))=false from rfl,if_neg Gf];unfold boundAndCalled;rw[PySem.F.attr_ValueError.ga.bind];refine wpAny_bind (wpAny_pure ?_);show wpAny _ _ (call (.builtin "BaseException.__getattribute__") [.ref x,.str "__class__" t]) _ _ _;refine wpAny_call (codeAny_call_builtin PySem.F.attr_ValueError.ga.plain PySem.F.entry_bexc_ga ?_);refine @check_slot (model P w) _ _ ⟨hp,g,d,t+1,os⟩ "BaseException.__getattribute__" "BaseException" "__getattribute__" (.ref x) [.str "__class__" t] [] _ (by decide +kernel) (by decide +kernel) (L0.andThen (looks_mroIn X hb)) (PySem.F.args_bexc_ga _ _) ?_;unfold Builtin.«object.__getattribute__»;refine wpAny_bind (wpAny_pure (wpAny_bind (wpAny_pure (wpAny_bind (L0.at (wpAny_bind (L2.at ?_)))))));show wpAny _ _ (holding [Value.builtin "object.__class__"] (call (.builtin "getset_descriptor.__get__") [.builtin "object.__class__", .ref x,.ref C]) >>=ret) _ _ _;refine wpAny_bind (wpAny_holding (wpAny_call (class_get (s:=⟨hp,g,d,t+1,os⟩) (ox:=ox) (od:=od) X I c4 (wpAny_pure ?_))));exact wpAny_mono (handed_on rfl (Q:=fun v s'=>v=.ref C/\s'=⟨hp,g,d,t+1,os⟩) ⟨rfl,rfl⟩) (fun v s' ⟨e1,e2⟩=>by subst e1 e2;exact wpAny_pure h) fun _ _ z=>z
theorem MT (hd:(clsIn K C).isSome=true) (ha:findIn K (.ref C) "__getattribute__" =some (some (.builtin "BaseException.__getattribute__"))) (hk:findIn K (.ref C) "__getattr__" =some none)
 (hb:mroIn K C (.type "BaseException")=some true) (c1:findIn K (.ref C) "__class__" =some (some (.builtin "object.__class__"))) (c2:specialIn K (.builtin "object.__class__") "__get__" =some (some (.builtin "getset_descriptor.__get__")))
 (c3:takesIn K (.builtin "object.__class__")=some true) (c4:mroIn K C (.type "object")=some true):KitX K (.ref x) (.ref C) (fun h=>InstAt h x ox C od):=by
 obtain⟨cd,hcd⟩:=Option.isSome_iff_exists.mp hd;have at_:∃c' d' sl',K.lookup C=some ⟨c',d',.cls cd,sl'⟩:=by
  unfold clsIn at hcd;split at hcd
  · rename_i c' d' cd' sl' ho;cases hcd;exact⟨c',d',sl',ho⟩
  · cases hcd
 obtain⟨c',d',sl',ho⟩:=at_;refine⟨fun _ _ _ I=>I.type,fun _ _ X _=>?_,fun h tp dd its n sl X htp=>?_,fun X I k=>TV X I hd ha hk hb c1 c2 c3 c4 k⟩
 · intro A1 Q1 E1 s1 k1 q1;unfold isType loadHead;refine wpAny_bind (wpAny_loadPart (k1 _ _ (X _ _ ho)) ?_);exact wpAny_pure q1
 · rw[Bool.eq_false_iff];intro q;cases Value.ref.inj (beq_iff_eq.mp q);cases (X _ _ ho).symm.trans htp
end
def rE (K:Frag) (C:Addr):Bool:=aI K C&&(findIn K (.ref C) "__class__" ==some (some (.builtin "object.__class__"))&&(specialIn K (.builtin "object.__class__") "__get__" ==some (some (.builtin "getset_descriptor.__get__")) &&
 (takesIn K (.builtin "object.__class__")==some true&&mroIn K C (.type "object")==some true)))
section
variable{X:Cx}{pins:List (Addr×Obj)}{σ:St}{H:Hp}{s:Shared}{A:Around}{E:Value->Shared->Prop}{Q:Value->Shared->Prop}{c:Value}{b:Bool}{a C:Addr}{dx:Option Addr}
theorem X1(I:Inv X pins σ H s)(ea:H a=some (XL a (.ref C) dx))(ed:dx=none\/∃b fl y,dx=some b/\H b=some (.xd [(fl,y)]))(ec:rE X.K C=true)(e:kitOne X.K (.ref C) c=some b)(h:∀tk,Q (.bool b) { s with toks:=tk }) :
 wpAny (model X.prog X.w) A (call (.builtin "isinstance") [.ref a,c]) Q E s:=by
 simp only[rE,Bool.and_eq_true,beq_iff_eq]at ec;obtain⟨eg,c1,c2,c3,c4⟩:=ec;obtain⟨g1,g2,g3,_,cd,g5,_⟩:=pO eg;obtain⟨ox,vx,hx,⟨x1,x2⟩,x3⟩:=(I.hok a _ ea).1;rcases ed with rfl | ⟨b',fl,y,rfl,ed⟩
 · have J:InstAt s.heap a ox C none:=⟨hx,x1,by unfold notCls;rw[x3],by rw[x2];exact trivial⟩;exact kia_one (MT (by rw[g5];rfl) g1 g2 g3 c1 c2 c3 c4) I.Aq J e (fun z=>nomatch z) h
 · obtain⟨mA,⟨od,es,ep,hod,_⟩,_⟩:=(show Dj X.prog X.w H s.heap b' (.xd [(fl,y)])from I.hok b' _ ed);have J:InstAt s.heap a ox C (some od):=⟨hx,x1,by unfold notCls;rw[x3],by rw[x2];exact hod⟩;exact kia_one (MT (by rw[g5];rfl) g1 g2 g3 c1 c2 c3 c4) I.Aq J e (fun z=>nomatch z) h
end
open PySem.W
section
variable{X:Cx}
theorem O3:∀{ts:List Str}{us:List Value},Vals (ts.map V.str) us->∃l:List (Str×Tok),us=strValues l/\l.map (·.1)=ts:=by
 intro ts
 induction ts with
 | nil=>intro us r;cases r;exact⟨[],rfl,rfl⟩
 | cons t ts ih=>
  intro us r;cases r with
  | cons r1 r2=>obtain⟨tk,rfl⟩:=r1;obtain⟨l,rfl,e⟩:=ih r2;exact⟨(t,tk)::l,rfl,by rw[Zr,e]⟩
theorem D0:IU X "str.join" (fun x xs H Q=>∃z p ts,x=.str z/\xs=[.ref p]/\Wj X.K H p (ts.map V.str)/\JoinOk z ts=true/\Q (.str (Str.join z ts)) H):=by intro pins s σ H x xs v us Q I rx rs zz;obtain⟨z,p,ts,e1,e2,hq,hok,q⟩:=zz;subst e1 e2;obtain⟨t,rfl⟩:=rx;obtain⟨u,rfl,ru⟩:=Vals.one rs;cases (show u=Value.ref p from ru);obtain⟨its,r,pl,_⟩:=I.list hq;obtain⟨l,rfl,hl⟩:=O3 r;have ej:Txt.join z ts=Str.join z ts:=beq_iff_eq.mp (PyProof.Rows.join_plain_closes z ts);exact SC.join pl.isList hl hok fun t' k=>⟨.str _,H,I.tok k,⟨_,by rw[ej]⟩,q⟩
end
end L2
namespace SM
noncomputable def mG:List Dt->Option (List Str)
 | []=>some []
 | .str z::r=>(mG r).map fun ts=>z::ts
 | _::_=>none
theorem DZ{K:Frag}{H:Hp}{ρ:Rg}:∀{ds:List Dt}{ts:List Str}{vs:List V},mG ds=some ts->aj K H ρ ds vs->vs=ts.map V.str:=by
 intro ds
 induction ds with
 | nil=>intro ts vs e r;cases e;exact r.Qj
 | cons d ds ih=>
  intro ts vs e r;obtain⟨v,w,rfl,r1,r2⟩:=aj.Cj r;cases d with
  | str z=>simp only[mG]at e;obtain⟨ts',e1,e2⟩:=Option.map_eq_some_iff.mp e;cases e2;rw[ih e1 r2,kj.mp r1];rfl
  | _=>simp[mG]at e
section
variable{X:Cx}{a b:Expr}{fa fb:RE}{apos cpos:Pos}
end
end SM
namespace L2
open PySem.W
def DU(C:Addr)(fl:Str)(c:Int):Sp:=fun vs H Q _=>∃a t0 y z,vs=[.ref a,y]/\H a=some (XO a C t0 none)/\Shows c y z/\
 ∀t1 dx,VA H a (XO a C t1 none) dx=none->Q .non (VA (VA (VA H a (XO a C t1 none)) dx (.xd [(fl,y)])) a (XO a C t1 (some dx)))
inductive mI(c:Int)(Cq:Str):Expr->Prop
 | three {a b:Str} {j1 j2:Nat} {p1 p2 p3 p4 pos:Pos} (ha:a.length<=1000) (hb:b.length<=1000):mI c Cq (.JoinedStr [.Constant (.str a) j1 p1,.FormattedValue (.Name Cq p4) c none pos,.Constant (.str b) j2 p2] p3)
 | two {a:Str} {j1:Nat} {p1 p3 p4 pos:Pos} (ha:a.length<=1000):mI c Cq (.JoinedStr [.Constant (.str a) j1 p1,.FormattedValue (.Name Cq p4) c none pos] p3)
theorem n6{X:Cx}{c:Int}{Cq:Str}{e:Expr}{te:TE}(t:mI c Cq e)(hc:c = -1\/c=114)(he:∀p,PE X (.Name Cq p) te):PE X e (qM c te):=by
 cases t with
 | three ha hb=>exact rZ hc (he _) ha hb
 | two ha=>exact qZ hc (he _) ha
theorem MS{c:Int}{Cq:Str}{e:Expr}(t:mI c Cq e)(es:List Expr)(env:Env):starEach (e::es) env=(false,eval e env)::starEach es env:=by cases t<;>rfl
section
variable{P:Program}{w:World}{K:Frag}{mg:Str->Option Value}{base:Heap}{qual B fl Cq:Str}{st:Stmt}{f C S:Addr}{fd:FuncData}{k:Nat}{c:Int}{J:Expr}{p1 p2 p3 p4 p5 p6 p7 p8 p9:Pos}
theorem v3 {pl:Env->Sem Bool} (F:iz K "__init__" qual st f fd) (Sc:YA ["self",Cq] ["self",Cq] (sA st))
 (hb:LB st=[.Expr (.Call (.Attribute (.Name B p1) "__init__" p2) [.Name "self" p3,J] [] p4) p5,.Assign [.Attribute (.Name "self" p6) fl p7] (.Name Cq p8) p9])
 (hJ:mI c Cq J) (hc:c = -1\/c=114) (hC:NF K C f=true) (hG:aI K C=true) (hN:findIn K (.ref C) fl=some none) (hS:ZG K S=true) (hm:mg B=some (.ref S))
 (hs1:IL (sA st) "self") (hs2:IL (sA st) Cq) (hd2:(Cq==("__debug__" :Str))=false) (Hg:(Cq==("__classdict__" :Str))=false) (Ig:(B==("__debug__" :Str))=false)
 (hg:∀(cdv:Value) (A:Around) (outer:List Env) (s:Shared) (H:Hp) (E:XK),Gl (mC sE P w K mg base ["self",Cq] qual (sA st) f cdv A outer s H E).Yx B)
 (ht:∀env,eval (.Call (.Attribute (.Name B p1) "__init__" p2) [.Name "self" p3,J] [] p4) env=(do
  let ov <- eval (.Name B p1) env
  standAt p2.atName
  let (f,first) <- holding [ov] (getMethod ov "__init__" (pl env))
  callWith p4 f first (backTo p4 (starEach [.Name "self" p3,J] env)) (backToKw p4 (keywordEach [] env)))):Oj P w K mg base sE (k+1) f fd ["self",Cq] (DU C fl c):=by
 refine F.ok Sc (fun vs H Q E ⟨a,t0,y,z,e,_⟩=>by rw[e];rfl) fun cdv A outer s H vs Q E hr zz=>?_
 obtain⟨a,t0,y,z,ev,ea,sh,q⟩:=zz;have v0:∀p,PE (mC sE P w K mg base ["self",Cq] qual (sA st) f cdv A outer s H E).Yx (.Name "self" p) (lK 0):=fun p=>qL rfl hs1 (by decide) (by decide)
 have v1:∀p,PE (mC sE P w K mg base ["self",Cq] qual (sA st) f cdv A outer s H E).Yx (.Name Cq p) (lK 1):=fun p=>qL rfl hs2 hd2 Hg
 rw[hb];refine⟨_,CO (zT (T4 (pl:=pl (envOfC qual (sA st) s.heap.objs.size f cdv)) hS (hg cdv A outer s H E) hm (FC (v0 _) (FC (n6 hJ hc v1) tD (MS hJ _ _)) (by rfl)) Ig (by rfl) (by rw[MS hJ];rfl) ?_) (by rfl)) (cL (Z4 (v0 _) (v1 _) (by rfl))),?_⟩
 · exact ht _
 · subst ev;refine⟨.ref a,rfl,y,rfl,z,sh,fun x=>⟨a,C,t0,x,f,rfl,ea,hC,fun t1=>⟨y,rfl,.ref a,rfl,a,C,t1,rfl,KB,hG,hN,fun dx hdx=>q t1 dx hdx⟩⟩⟩
end
end L2
namespace SM
noncomputable def TF(c:Int):Dt->Option (Sum Int Str)
 | .int i=>if c = -1/\i.natAbs<2^100 then some (.inl i)else none
 | .str z=>if c=114/\z.length<=1000/\∀n∈z.cps.toList,n<1000 then some (.inr z)else none
 | _=>none
theorem Z2{K:Frag}{H:Hp}{ρ:Rg}{c:Int}{d:Dt}{i:Sum Int Str}{v:V}(e:TF c d=some i)(r:cj K H ρ d v):v=xV i/\∃z,Shows c v z:=by
 cases d with
 | int j=>
  simp only[TF]at e;obtain⟨⟨rfl,hj⟩,rfl⟩:=ME e;cases dj.mp r;refine⟨rfl,_,.int j ?_⟩;by_cases z:j.natAbs=0
  · rw[z];decide
  · exact Nat.lt_trans ((Nat.log2_lt z).mpr hj) (by decide)
 | str z=>
  simp only[TF]at e;obtain⟨⟨rfl,hl,hz⟩,rfl⟩:=ME e;cases kj.mp r;refine⟨rfl,_,.rep z ?_⟩;have:=PySem.StrLaws.reprText_len z fun n hn=>Nat.lt_trans (hz n hn) (by decide)
  omega
 | _=>simp[TF]at e
structure oH(K:Frag)(x fl:Str):Prop where
 ex:∃C,clsOf K x C/\rE K C=true/\findIn K (.ref C) fl=some none
 ne:fl ≠ ""
structure CI(P:Program)(w:World)(K:Frag)(mg:Str->Option Value)(base:Heap)(k:Nat)(x fl:Str)(c:Int):Prop where
 ex:∃C f fd ps,clsOf K x C/\NF K C f=true/\PySem.W.isFn K (.ref f)=true/\keepIn K (.ref C)=true/\Oj P w K mg base sE k f fd ps (DU C fl c)/\mg x=some (.ref C)/\Binds K fd ps []/\ps.length<=100
noncomputable def xD:Sum Int Str->Dt
 | .inl i=>.int i
 | .inr z=>.str z
def Z9(x fl:Str)(g:RE):RE:=fun l h=>(g l h).bind fun r=>match r.1 with
 | .err y f i=>if y=x/\f=fl then some (xD i,r.2)else none
 | _=>none
section
variable{X:Cx}{x fl:Str}{c:Int}{k k':Nat}{e:Expr}{g:RE}{p pos p2:Pos}
noncomputable def gE(tab:List (Str×Bool))(g:RE):RE:=fun l h=>(g l h).bind fun r=>match r.1 with
 | .err y _ _=>(tab.lookup y).map fun b=>(.bl b,r.2)
 | _=>none
def fF(K:Frag)(D:Value)(tab:List (Str×Bool)):Prop:=∀y b,tab.lookup y=some b->∃C,clsOf K y C/\rE K C=true/\PySem.W.kitOne K (.ref C) D=some b
theorem NY {D:Value} {Dv:V} (hD:∀u,RelV Dv u->u=D):Uj X (.builtin "isinstance") (fun xs H Q=>∃a C dx b,xs=[.ref a,Dv]/\H a=some (XL a (.ref C) dx)/\(dx=none\/∃b fl y,dx=some b/\H b=some (.xd [(fl,y)]))/\rE X.K C=true/\PySem.W.kitOne X.K (.ref C) D=some b/\Q (.bl b) H):=by intro pins s σ H vs us Q I r zz;obtain⟨a,C,dx,b,ev,ea,ed,ec,ek,q⟩:=zz;subst ev;obtain⟨u1,u2,rfl,r1,r2⟩:=Vals.two r;cases (show u1=Value.ref a from r1);rw[hD u2 r2];exact X1 I ea ed ec ek fun tk=>⟨.bl b,H,I.tok tk,rfl,q⟩
theorem oS {tab:List (Str×Bool)} {D:Value} {Dv:V} {e2:Expr} (hD:∀u,RelV Dv u->u=D) (hN:PE X e2 (tC Dv)) (ht:fF X.K D tab) (hg:Gl X "isinstance") (hm:X.mg "isinstance" =none) (ha:EM X e g) (hs:oB e=true) (hs2:oB e2=true) :
 EM X (.Call (.Name "isinstance" p) [e,e2] [] pos) (gE tab g):=by
 with_unfolding_all
  exact PE.imp (BO (NY hD) hg hm PyProof.Rows.boot_isinstance (FC ha (FC hN tD (pB hs2 _ _)) (pB hs _ _)) (he:=pB hs _ _) (hpl:=SH (by rw[all_cons,hs2];rfl))) fun σ H Q zz=>by
   obtain⟨ρ,l,h,d,h',S,L,e,k⟩:=zz;obtain⟨⟨d1,h1⟩,e1,e⟩:=kA e;refine⟨ρ,l,h,d1,h1,S,L,e1,fun ρ1 v H1 R1 S1 E1=>?_⟩;cases d1 with
   | err y f i=>dsimp only at e;obtain⟨b,q,e⟩:=Option.map_eq_some_iff.mp e;cases e;obtain⟨a,C,dx,z,c1,n1,q1,q2⟩:=Yj.mp R1;obtain⟨C',c2,c3,c4⟩:=ht y b q;have cc:C'=C:=clsOf.inj c2 c1;subst cc;subst z;exact⟨a,C',dx,b,rfl,q1,q2.elim (fun w=>.inl w.2) (fun⟨b',w1,_,w2⟩=>.inr ⟨b',f,xV i,w1,w2⟩),c3,c4,k ρ1 _ H1 (fj.mpr rfl) S1 E1⟩
   | _=>cases e
theorem V0 {T:Str} {D:Addr} {tab:List (Str×Bool)} (hg:Gl X "isinstance") (hm:X.mg "isinstance" =none) (Qv:Gl X T) (Fw:X.mg T=some (.ref D)) (ht:fF X.K (.ref D) tab) (ha:EM X e g) (hdT:(T==("__debug__" :Str))=false:=by decide) (hs:oB e=true:=by rfl) :
 EM X (.Call (.Name "isinstance" p) [e,.Name T p2] [] pos) (gE tab g):=by
 have hN:PE X (.Name T p2) (tC (.ref D)):=fun pins s σ H Q I h=>dG I Qv Fw ⟨.ref D,H,I,rfl,h⟩ hdT
 exact oS (Dv:=.ref D) (D:=.ref D) (fun u r=>r) hN ht hg hm ha hs rfl
theorem U0 {T:Str} {TT:String} {tab:List (Str×Bool)} (hg:Gl X "isinstance") (hm:X.mg "isinstance" =none) (Qv:Gl X T) (Fw:X.mg T=none) (hv:bootBuiltins T=some (.type TT)) (ht:fF X.K (.type TT) tab) (ha:EM X e g)
 (hnT:T ≠ "__name__" :=by decide) (hdT:(T==("__debug__" :Str))=false:=by decide) (hs:oB e=true:=by rfl) :
 EM X (.Call (.Name "isinstance" p) [e,.Name T p2] [] pos) (gE tab g):=
 oS (Dv:=.ty TT) (D:=.type TT) (fun u r=>r) (vT Qv Fw hv (v:=.ty TT) rfl hnT hdT) ht hg hm ha hs rfl
end
def pH(K:Frag)(C:Addr)(x qual fl:Str)(st:Stmt):Prop:=∃(f:Addr)(oc:Value)(od:Option Addr)(kV dc pm:Value)(an:Option Addr)(cd ct:Value)(sl:Array (Option Value)),
 nsIn K mainGlobals x=some (some (.ref C))/\findIn K (.ref C) "__init__" =some (some (.ref f))/\PySem.W.isFn K (.ref f)=true/\
 K.lookup f=some ⟨oc,od,.func (fnOf "__init__" qual (jD st) (LB st) (sA st) .none kV dc pm an cd ct),sl⟩/\PySem.W.codeIn K cd qual=true/\keepIn K (.ref f)=true/\
 NF K C f=true/\keepIn K (.ref C)=true/\rE K C=true/\findIn K (.ref C) fl=some none
structure tG(K:Frag)(mg:Str->Option Value)(x B qual fl Cq:Str)(st:Stmt):Prop where
 ex:∃C f fd S,clsOf K x C/\NF K C f=true/\PySem.W.isFn K (.ref f)=true/\keepIn K (.ref C)=true/\rE K C=true/\findIn K (.ref C) fl=some none/\iz K "__init__" qual st f fd/\mg x=some (.ref C)/\
  Binds K fd ["self",Cq] []/\ZG K S=true/\mg B=some (.ref S)
structure QL(K:Frag)(mg:Str->Option Value)(T:Str)(tab:List (Str×Bool)):Prop where
 ex:∃D,mg T=some (.ref D)/\fF K (.ref D) tab
section
variable{K:Frag}{h:Heap}{mg:Str->Option Value}{x B qual fl Cq y:Str}{st:Stmt}{C S:Addr}{b:Bool}{tab:List (Str×Bool)}{D:Value}
theorem bL(X:K.In h)(G:h.Ns mainGlobals mg)(E:pH K C x qual fl st)(b1:nsIn K mainGlobals B=some (some (.ref S)))(b2:ZG K S=true)
 (hb:∀(kV doc pm:Value) (an:Option Addr) (cdv ct:Value) (us:List Value),us.length=2->bindArgs (fnOf "__init__" qual (jD st) (LB st) (sA st) .none kV doc pm an cdv ct) ⟨us,[]⟩=pure ((["self",Cq]:List Str).zip us)):tG K mg x B qual fl Cq st:=by
 obtain⟨f,oc,od,kV,dc,pm,an,cd,ct,sl,a,i,n,l,c,k,e1,e2,e3,e4⟩:=E;have F:=BJ l c k;exact⟨⟨C,f,_,S,a,e1,n,e2,e3,e4,F,PySem.W.mg_of X G a,F.binds hb,b2,PySem.W.mg_of X G b1⟩⟩
theorem VH (E:tG K mg x B qual fl Cq st) (ne:fl ≠ "" :=by decide):oH K x fl:=by obtain⟨C,f,fd,S,c1,c2,c3,c4,c5,c6,_⟩:=E.ex;exact⟨⟨C,c1,c5,c6⟩,ne⟩
theorem MG:fF K D []:=fun _ _ e=>by cases e
theorem MB(E:pH K C x qual fl st)(k:PySem.W.kitOne K (.ref C) D=some b)(r:fF K D tab):fF K D ((x,b)::tab):=fun y' b' e=>by
 obtain⟨f,oc,od,kV,dc,pm,an,cd,ct,sl,a,i,n,l,c,k',e1,e2,e3,e4⟩:=E;by_cases z:y'=x
 · subst z;have zb:(y'==y')=true:=beq_iff_eq.mpr rfl;simp only[List.lookup,zb]at e;cases e;exact⟨C,a,e3,k⟩
 · have zb:(y'==x)=false:=by rw[<- Bool.not_eq_true,beq_iff_eq];exact z
   simp only[List.lookup,zb]at e;exact r y' b' e
end
section
variable{P:Program}{w:World}{K:Frag}{mg:Str->Option Value}{base:Heap}{qual B fl Cq x:Str}{st:Stmt}{k:Nat}{c:Int}{J:Expr}{p1 p2 p3 p4 p5 p6 p7 p8 p9:Pos}
theorem nP {pl:Env->Sem Bool} (E:tG K mg x B qual fl Cq st) (Sc:YA ["self",Cq] ["self",Cq] (sA st))
 (hb:LB st=[.Expr (.Call (.Attribute (.Name B p1) "__init__" p2) [.Name "self" p3,J] [] p4) p5,.Assign [.Attribute (.Name "self" p6) fl p7] (.Name Cq p8) p9])
 (hJ:mI c Cq J) (hc:c = -1\/c=114)
 (ht:∀env,eval (.Call (.Attribute (.Name B p1) "__init__" p2) [.Name "self" p3,J] [] p4) env=(do
  let ov <- eval (.Name B p1) env
  standAt p2.atName
  let (f,first) <- holding [ov] (getMethod ov "__init__" (pl env))
  callWith p4 f first (backTo p4 (starEach [.Name "self" p3,J] env)) (backToKw p4 (keywordEach [] env))))
 (hg:∀(f:Addr) (cdv:Value) (A:Around) (outer:List Env) (s:Shared) (H:Hp) (E:XK),Gl (mC sE P w K mg base ["self",Cq] qual (sA st) f cdv A outer s H E).Yx B)
 (hs1:IL (sA st) "self" :=by exact .inl rfl) (hs2:IL (sA st) Cq:=by exact .inl rfl) (hd2:(Cq==("__debug__" :Str))=false:=by decide) (Hg:(Cq==("__classdict__" :Str))=false:=by decide) (Ig:(B==("__debug__" :Str))=false:=by decide) :
 CI P w K mg base (k+1) x fl c:=by
 obtain⟨C,f,fd,S,c1,c2,c3,c4,c5,c6,F,c7,c8,c9,Uh⟩:=E.ex;rw[rE,Bool.and_eq_true]at c5;exact⟨⟨C,f,fd,_,c1,c2,c3,c4,v3 F Sc hb hJ hc c2 c5.1 c6 c9 Uh hs1 hs2 hd2 Hg Ig (hg f) ht,c7,c8,by show 2<=100;decide⟩⟩
end
section
variable{X:Cx}{e:Expr}{g:RE}{p pos p2:Pos}
theorem YH {T:Str} {tab:List (Str×Bool)} (hg:Gl X "isinstance") (hm:X.mg "isinstance" =none) (Qv:Gl X T) (t:QL X.K X.mg T tab) (ha:EM X e g) (hdT:(T==("__debug__" :Str))=false:=by decide) (hs:oB e=true:=by rfl) :
 EM X (.Call (.Name "isinstance" p) [e,.Name T p2] [] pos) (gE tab g):=by
 obtain⟨D,h1,h2⟩:=t.ex;exact V0 hg hm Qv h1 h2 ha hdT hs
end
end SM
namespace L2
noncomputable def Sq(h:Heap)(e T:Addr)(cls:Value)(dx:Option Addr)(a0 fl:Value):Prop:=
 ∃oe vs oT ts,h.get? e=some oe/\(oe.cls=cls/\oe.dict=dx)/\(oe.data=.fields vs/\vs[0]?=some a0/\vs[1]?=some (.ref T))/\T≠e/\h.get? T=some oT/\oT.data=.fields ts/\ts[3]?=some fl
abbrev UU(h:Heap)(e T:Addr)(cls:Value)(dx:Option Addr)(a0:Value):Prop:=Sq h e T cls dx a0 .none
structure Bx(fs xs:List Addr)(h h':Heap):Prop where
 keep:∀b o,h.get? b=some o->b∉fs->b∉xs->h'.get? b=some o
 slot:∀b o,h.get? b=some o->b∉xs->∃sl,h'.get? b=some { o with slots:=sl }
theorem Bx.trans{fs xs ys:List Addr}{h h1 h2:Heap}(a:Bx fs xs h h1)(b:Bx fs ys h1 h2):Bx fs (xs++ys) h h2 where
 keep:=fun c o q n m=>b.keep c o (a.keep c o q n fun z=>m (mem_append_left _ z)) n fun z=>m (mem_append_right _ z)
 slot:=fun c o q m=>by
  obtain⟨sl,e⟩:=a.slot c o q fun z=>m (mem_append_left _ z)
  obtain⟨sl',e'⟩:=b.slot c _ e fun z=>m (mem_append_right _ z)
  exact⟨sl',e'⟩
section
variable{M:Model}{A:Around}{E:Value->Shared->Prop}{s:Shared}{base:Heap}{env:Env}{outer:List Env}{L e:Addr}{Q:Unit->Shared->Prop}
theorem WS{oe:Obj}{vs:Array Value}{a0 hd0:Value}{hn:Bool}(fr:A.frames=some (env::outer))(ff:s.heap.FunFrames base (env::outer))(lf:env.frame=some L)
 (ho:s.heap.get? e=some oe) (dd:oe.data=.fields vs) (sz:1<vs.size) (v0:vs[0]?=some a0)
 (h:∀h' T,s.heap.objs.size<=T->Sq h' e T oe.cls oe.dict a0 (rawInt L)->Bx (rG (env::outer)) [e] s.heap h'->Q () { s with heap:=h' }) :
 wpAny M A (do let a <- frameOf env;let pl <- entryPlaceOf L hn;let b <- EntryCells.newEntry hd0 a .none (rawInt L) .none pl;setField (.ref e) 1 b) Q E s:=by
 have out:e∉(env::outer).filterMap (·.frame):=fun hm=>by obtain⟨_,o,h1,h2⟩:=ff.mem hm;rw[ho]at h1;cases h1;exact h2 vs dd
 refine wpAny_bind (wpAny_frameOf_fun fr ff lf fun g so=>wpAny_bind (wpAny_entryPlaceOf fun pl ip=>?_));unfold EntryCells.newEntry newFields;refine wpAny_bind (wpAny_newObj_type ?_ (ip.sizeOk5 _ _ _ _ _));have e1:g.get? e=some oe:=(so.2.1 e out).trans ho;have e2:=Heap.get?_push_of_some (h:=g) { cls:=.type "traceback",dict:=none,data:=.fields ([hd0,.ref L,.none,rawInt L,.none]++(if pl.isEmpty then List.replicate 6 Value.none else pl)).toArray } e1;have ne:g.objs.size≠e:=Nat.ne_of_gt (Heap.lt_size e1);have d3:=Obj.data_mapFields dd (·.setIfInBounds 1 (Value.ref g.objs.size));have e3:=Heap.get?_update_self (Obj.mapFields (·.setIfInBounds 1 (Value.ref g.objs.size))) e2 (Obj.isFreed_of_fields d3);have t3:=(Heap.get?_update_other (g.push { cls:=.type "traceback",dict:=none,data:=.fields ([hd0,.ref L,.none,rawInt L,.none]++(if pl.isEmpty then List.replicate 6 Value.none else pl)).toArray }) (Obj.mapFields (·.setIfInBounds 1 (Value.ref g.objs.size))) (Ne.symm ne)).trans (Heap.get?_push_size g rfl);refine wpAny_setField e2 dd sz (h _ g.objs.size (Nat.le_of_eq so.1.symm) ⟨_,_,_,_,e3,⟨Obj.cls_mapFields _ _,by unfold Obj.mapFields;split<;>rfl⟩,⟨d3,by rw[Array.getElem?_setIfInBounds_ne (by decide)];exact v0,by simp[sz]⟩,ne,t3,rfl,by first | (simp;done) | (rcases ip with rfl | ⟨_,_,_,_,_,_,_,rfl⟩<;>simp)⟩ ?_);have kp:∀b o,b≠e->g.get? b=some o->((g.push { cls:=.type "traceback",dict:=none,data:=.fields ([hd0,.ref L,.none,rawInt L,.none]++(if pl.isEmpty then List.replicate 6 Value.none else pl)).toArray }).update e (Obj.mapFields (·.setIfInBounds 1 (Value.ref g.objs.size)))).get? b=some o:=fun b o nb hb=>by rw[Heap.get?_update_other _ _ (Ne.symm nb)];exact Heap.get?_push_of_some _ hb
 refine⟨fun b o q n m=>kp b o (fun z=>m (by simp[z])) ((so.2.1 b n).trans q),fun b o q m=>?_⟩;obtain⟨sl,z⟩:=so.2.2 b o q;exact⟨sl,kp b _ (fun z=>m (by simp[z])) z⟩
theorem mY{oe:Obj}{vs:Array Value}{a0:Value}(fr:A.frames=some (env::outer))(ff:s.heap.FunFrames base (env::outer))(lf:env.frame=some L)
 (ho:s.heap.get? e=some oe) (dd:oe.data=.fields vs) (v1:vs[1]?=some .none) (v0:vs[0]?=some a0)
 (h:∀h' T,s.heap.objs.size<=T->Sq h' e T oe.cls oe.dict a0 (rawInt L)->Bx (rG (env::outer)) [e] s.heap h'->Q () { s with heap:=h' }):wpAny M A (noteFrame (.ref e) env) Q E s:=by
 unfold noteFrame;simp only[lf];refine wpAny_bind (wpAny_field ho dd v1 ?_);rw[if_neg (by decide)];exact WS fr ff lf ho dd (Array.getElem?_eq_some_iff.mp v1).1 v0 h
theorem FY{T:Addr}{cls a0:Value}{dx:Option Addr}(fr:A.frames=some (env::outer))(ff:s.heap.FunFrames base (env::outer))(lf:env.frame=some L)(a:UU s.heap e T cls dx a0)
 (h:∀h' T',s.heap.objs.size<=T'->Sq h' e T' cls dx a0 (rawInt L)->Bx (rG (env::outer)) [T,e] s.heap h'->Q () { s with heap:=h' }):wpAny M A (noteFrame (.ref e) env) Q E s:=by
 obtain⟨oe,vs,oT,ts,he,⟨c1,c2⟩,⟨dd,v0,v1⟩,ne,hT,dT,t3⟩:=a;subst c1 c2;unfold noteFrame;simp only[lf];refine wpAny_bind (wpAny_field he dd v1 ?_);rw[if_pos (show(Value.ref T !=Value.none)=true from by simp)];refine wpAny_bind (wpAny_field hT dT t3 ?_);rw[if_neg (show ¬((Value.none==rawInt L)=true)from by simp[rawInt])];refine wpAny_bind (wpAny_setField hT dT (Array.getElem?_eq_some_iff.mp t3).1 ?_);have ot:∀b,b≠T->(s.heap.update T (Obj.mapFields (·.setIfInBounds 3 Value.none))).get? b=s.heap.get? b:=fun b hb=>Heap.get?_update_other _ _ (Ne.symm hb)
 have nr:∀b o,s.heap.get? b=some o->(∀vs,o.data≠.fields vs)->b≠T:=fun b o hb hnf q=>by rw[q,hT]at hb;cases hb;exact hnf ts dT
 refine WS fr (ff.of_keeps fun b o hb hnf=>⟨o,(ot b (nr b o hb hnf)).trans hb,rfl⟩) lf ((ot e (Ne.symm ne)).trans he) dd (Array.getElem?_eq_some_iff.mp v1).1 v0 fun h' T' lt a n=>?_
 refine h h' T' (by rw[<- Heap.size_update s.heap T (Obj.mapFields (·.setIfInBounds 3 Value.none))];exact lt) a ?_;exact Bx.trans (xs:=[T]) (ys:=[e]) ⟨fun b o q _ m=>(ot b fun z=>m (by simp[z])).trans q,fun b o q m=>⟨o.slots,(ot b fun z=>m (by simp[z])).trans q⟩⟩ n
end
theorem GU{P:Program}{w:World}{H:Hp}{h:Heap}{e:Addr}{cls:Value}{dx:Option Addr}(x:∃oe vs,h.get? e=some oe/\(oe.cls=cls/\oe.dict=dx)/\oe.data=.fields vs):Dj P w H h e (XL e cls dx):=by obtain⟨oe,vs,a,b,c⟩:=x;exact⟨⟨oe,vs,a,b,c⟩,⟨oe,a⟩,fun _ _ ⟨o,v,a,b,c⟩ k=>⟨o,v,k _ a,b,c⟩⟩
def A8(s0:Nat)(L:Addr)(ps:List (Addr×Obj))(H:Hp)(h:Heap)(e:Addr)(cls:Value)(dx:Option Addr)(a0:Value):Prop:=
 (∃oe vs,h.get? e=some oe/\(oe.cls=cls/\oe.dict=dx)/\oe.data=.fields vs/\vs[0]?=some a0/\vs[1]?=some .none)\/
 ∃T fl,Sq h e T cls dx a0 fl/\(fl=.none\/fl=rawInt L)/\s0<=T/\H T=none/\∀p∈ps,p.1≠T
def mH(P:Program)(w:World):qG:=fun outer H s E v s'=>∃e T cls dx a0 H',v=.ref e/\s'.os=s.os/\AllBare s'.gens/\Un (rG outer) [] H H' s.heap s'.heap/\Oq P w H' s'.heap/\H' e=some (XL e cls dx)/\
 s.heap.objs.size<=T/\H' T=none/\UU s'.heap e T cls dx a0/\E cls dx H'
def Fl(X:Cx)(S:List (Addr×Obj)->St->Prop)(E:XK)(v:Value)(s':Shared):Prop:=∃e cls dx a0 pins σ H',v=.ref e/\S pins σ/\Inv X pins σ H' s'/\H' e=some (XL e cls dx)/\A8 X.s₀.heap.objs.size X.env.locals (X.pn++pins) H' s'.heap e cls dx a0/\E cls dx H'
theorem Sq.obj{h:Heap}{e T:Addr}{cls a0 fl:Value}{dx:Option Addr}(a:Sq h e T cls dx a0 fl):∃oe vs,h.get? e=some oe/\(oe.cls=cls/\oe.dict=dx)/\oe.data=.fields vs:=by obtain⟨oe,vs,_,_,h1,h2,⟨h3,_⟩,_⟩:=a;exact⟨oe,vs,h1,h2,h3⟩
theorem Sq.tr{h:Heap}{e T:Addr}{cls a0 fl:Value}{dx:Option Addr}(a:Sq h e T cls dx a0 fl):∃o vs,h.get? T=some o/\o.data=.fields vs:=by obtain⟨_,_,oT,ts,_,_,_,_,h1,h2,_⟩:=a;exact⟨oT,ts,h1,h2⟩
section
variable{X:Cx}{pins:List (Addr×Obj)}{σ:St}{H:Hp}{s:Shared}{h':Heap}{e:Addr}{cls:Value}{dx:Option Addr}{xs:List Addr}
theorem Inv.near(I:Inv X pins σ H s)(he:H e=some (XL e cls dx))(n:Bx (rG X.stack) xs s.heap h')(hx:∀b∈xs,b=e\/(X.s₀.heap.objs.size<=b/\H b=none/\(∃o vs,s.heap.get? b=some o/\o.data=.fields vs)/\∀p∈X.pn++pins,p.1≠b))
 (ob:∃oe vs,h'.get? e=some oe/\(oe.cls=cls/\oe.dict=dx)/\oe.data=.fields vs):Inv X pins σ H { s with heap:=h' }:=by
 obtain⟨m,⟨oL,es,ep,hoL,hdL,rL⟩,_⟩:=id I.loc;have Lw:∀b∈xs,b≠X.env.locals:=fun b hb z=>by
  rcases hx b hb with q | ⟨_,_,⟨o,vs,ho,hd⟩,_⟩
  · have:=I.free;rw[<- z,q,he]at this;cases this
  · rw[z,hoL]at ho;cases ho;rw[hdL]at hd;cases hd
 obtain⟨sl,hL⟩:=n.slot _ _ hoL fun z=>Lw _ z rfl
 refine I.step (g':=s.gens) (d':=s.drawn) (t':=s.toks) (ch:=xs.filter fun b=>decide (b≠e)) (fun b hb=>?_) (fun b o h1 h2 h3 h4 h5=>?_) (fun b o h1 h2 h3 h4 h5=>?_) (fun b o _ _ z=>z) (fun b o h3 h4=>?_) (fun _ _ z=>z) (fun _ _ _ z=>z) (fun _ ps z=>⟨#[],by rw[z];simp⟩) (fun m' hm=>?_) (fun b u q=>?_) I.bare
 · obtain⟨h1,h2⟩:=mem_filter.mp hb;have h2:=of_decide_eq_true h2;rcases hx b h1 with z | ⟨a1,a2,⟨o,vs,ho,hd⟩,a3⟩
   · exact absurd z h2
   · refine⟨.inr a1,Lw b h1,fun x c q z=>?_,fun p hp'=>a3 p hp'⟩;obtain⟨v,oc,hoc,hdc⟩:=I.cell x c q;rw[z,ho]at hoc;cases hoc;rw[hd]at hdc;cases hdc
 · have nx:b∉xs:=fun z=>h3 (mem_filter.mpr ⟨z,decide_eq_true fun z=>by rw[z,he]at h5;cases h5⟩)
   exact n.keep b o h4 (fun z=>by rcases mem_cons.mp (I.Ox b z)with q | q;exact h1 q;exact h2 q) nx
 · have nx:b∉xs:=fun z=>h3 (mem_filter.mpr ⟨z,decide_eq_true fun z=>by rw[z,he]at h5;cases h5⟩)
   exact n.slot b o h4 nx
 · by_cases z:b=e
   · obtain⟨oe,_,q,_⟩:=ob;exact⟨oe,by rw[z];exact q⟩
   · obtain⟨sl,q⟩:=n.slot b o h4 fun y=>h3 (mem_filter.mpr ⟨y,decide_eq_true z⟩)
     exact⟨_,q⟩
 · obtain⟨o',es',ep',ho',r'⟩:=hm;rw[hoL]at ho';cases ho';exact⟨_,es',ep',hL,r'⟩
 · by_cases z:b=e
   · subst z;rw[he]at q;cases q;exact GU ob
   · refine(I.hok b u q).stay (fun c v hc r=>?_) (fun _ q=>q) fun _ _ q=>q
     have tr:H c≠none:=fun y=>by
      rcases hc with w | w
      · rw[w,q]at y;cases y
      · rw[w]at y;cases y
     refine n.keep c v r (fun y=>tr (I.Nx c y)) fun y=>?_
     rcases hx c y with w | ⟨_,w,_⟩
     · rcases hc with x | x
       · exact z (x.symm.trans w)
       · rw[w,he]at x;cases x
     · exact tr w
end
section
variable{X:Cx}{S:List (Addr×Obj)->St->Prop}{E:XK}
structure bI(X:Cx):Prop where
 stk:X.stack=X.env::X.outer
 fr:X.env.frame=some X.env.locals
 ex:X.ex=[]
theorem Fl.Mj{E':Value->Shared->Prop}{v:Value}{s:Shared}(h:Fl (X.wish E') S E v s):Fl X S E v s:=by obtain⟨e,cls,dx,a0,pins,σ,H,r,z,I,q⟩:=h;exact⟨e,cls,dx,a0,pins,σ,H,r,z,I.Mj,q⟩
theorem Fl.noted(B:bI X){v:Value}{s:Shared}{Q:Unit->Shared->Prop}{E1:Value->Shared->Prop}{A:Around}(hA:A.frames=some X.stack)(f:Fl X S E v s)
 (h:∀e T cls dx a0 pins σ H' h',v=.ref e->S pins σ->Inv X pins σ H' { s with heap:=h' }->H' e=some (XL e cls dx)->Sq h' e T cls dx a0 (rawInt X.env.locals)->(X.s₀.heap.objs.size<=T/\H' T=none/\∀p∈X.pn++pins,p.1≠T)->E cls dx H'->Q () { s with heap:=h' }) :
 wpAny (model X.prog X.w) A (noteFrame v X.env) Q E1 s:=by
 obtain⟨e,cls,dx,a0,pins,σ,H',rfl,zS,I,he,w,q⟩:=f;have pl:∀T,s.heap.objs.size<=T->∀p∈X.pn++pins,p.1≠T:=fun T lt p hp=>Nat.ne_of_lt (Nat.lt_of_lt_of_le (Heap.lt_size (I.pin p hp).1) lt)
 have ff:=I.stack;rw[B.stk]at hA ff;rcases w with⟨oe,vs,ho,⟨rfl,rfl⟩,hd,v0,v1⟩ | ⟨T,fl,a,hf,lt,hT,hP⟩
 · refine mY hA ff B.fr ho hd v1 v0 fun h' T lt a n=>?_
   exact h e T _ _ a0 pins σ H' h' rfl zS (I.near (xs:=[e]) he (by rw[B.stk];exact n) (fun b hb=>.inl (by simpa using hb)) a.obj) he a ⟨Nat.le_trans I.sz lt,I.hok.fresh lt,pl T lt⟩ q
 · rcases hf with rfl | rfl
   · refine FY hA ff B.fr a fun h' T' lt' a' n=>?_
     exact h e T' _ _ a0 pins σ H' h' rfl zS (I.near (xs:=[T,e]) he (by rw[B.stk];exact n) (fun b hb=>by
      rcases mem_cons.mp hb with z | z
      · subst z;exact .inr ⟨lt,hT,a.tr,hP⟩
      · exact .inl (by simpa using z)) a'.obj) he a' ⟨Nat.le_trans I.sz lt',I.hok.fresh lt',pl T' lt'⟩ q
   · obtain⟨oe,vs,oT,ts,h1,h2,⟨h3,h4,h5⟩,h6,h7,h8,h9⟩:=id a;unfold noteFrame;simp only[B.fr];refine wpAny_bind (wpAny_field h1 h3 h5 ?_);rw[if_pos (show(Value.ref T !=Value.none)=true from by simp)];refine wpAny_bind (wpAny_field h7 h8 h9 ?_);rw[if_pos (show(rawInt X.env.locals==rawInt X.env.locals)=true from by simp)];exact wpAny_pure (h e T cls dx a0 pins σ H' s.heap rfl zS I he a ⟨lt,hT,hP⟩ q)
end
section
variable{M:Model}{A:Around}{E1:Value->Shared->Prop}{s:Shared}{e:Addr}{Q:Unit->Shared->Prop}
theorem F2{T:Addr}{cls a0 fl:Value}{dx:Option Addr}(f:Option Addr)(a:Sq s.heap e T cls dx a0 fl)(h:∀h',Sq h' e T cls dx a0 (f.elim Value.none fun f=>rawInt f)->(∀fs,Bx fs [T] s.heap h')->Q () { s with heap:=h' }):wpAny M A (setFlight (.ref e) f) Q E1 s:=by
 obtain⟨oe,vs,oT,ts,he,c,⟨dd,v0,v1⟩,ne,hT,dT,t3⟩:=a;have sz:3<ts.size:=(Array.getElem?_eq_some_iff.mp t3).1;have ot:∀b,b≠T->(s.heap.update T (Obj.mapFields (·.setIfInBounds 3 (f.elim Value.none fun f=>rawInt f)))).get? b=s.heap.get? b:=fun b hb=>Heap.get?_update_other _ _ (Ne.symm hb)
 unfold setFlight;refine wpAny_bind (wpAny_field he dd v1 ?_);rw[if_pos (show(Value.ref T !=Value.none)=true from by simp)];exact wpAny_setField hT dT sz (h _ ⟨oe,vs,_,_,(ot e (Ne.symm ne)).trans he,c,⟨dd,v0,v1⟩,ne,Heap.get?_update_self _ hT (Obj.isFreed_of_fields (Obj.data_mapFields dT _)),Obj.data_mapFields dT _,by simp[sz]⟩ (fun fs=>⟨fun b o q _ m=>(ot b fun z=>m (by simp[z])).trans q,fun b o q m=>⟨o.slots,(ot b fun z=>m (by simp[z])).trans q⟩⟩))
end
section
variable{X:Cx}{S:List (Addr×Obj)->St->Prop}{E:XK}
theorem mL{M:Model}{A:Around}{E1:Value->Shared->Prop}{s:Shared}{Q:Unit->Shared->Prop}{e T:Addr}{cls a0 fl:Value}{dx:Option Addr}{pins:List (Addr×Obj)}{σ:St}{H:Hp}(f:Option Addr)(I:Inv X pins σ H s)(he:H e=some (XL e cls dx))(a:Sq s.heap e T cls dx a0 fl)(lt:X.s₀.heap.objs.size<=T/\H T=none/\∀p∈X.pn++pins,p.1≠T)
 (h:∀h',Inv X pins σ H { s with heap:=h' }->Sq h' e T cls dx a0 (f.elim Value.none fun f=>rawInt f)->Q () { s with heap:=h' }):wpAny M A (setFlight (.ref e) f) Q E1 s:=by
 refine F2 f a fun h' a' n=>h h' (I.near (xs:=[T]) he (n _) (fun b hb=>?_) a'.obj) a'
 have z:b=T:=by simpa using hb
 subst z;exact .inr ⟨lt.1,lt.2.1,a.tr,lt.2.2⟩
theorem A3(B:bI X):PassesOwn (model X.prog X.w) X.A X.env (Fl X S E):=fun v s f=>by
 have ok:X.A.frames=some X.stack:=by obtain⟨_,_,_,_,_,_,_,_,_,I,_⟩:=id f;exact I.ok.frames
 refine f.noted B ok fun e T cls dx a0 pins σ H' h' hv zS I he a lt q=>?_
 subst hv;show wpAny _ _ _ _ _ _;obtain⟨oe,vs,oT,ts,h1,h2,⟨h3,h4,h5⟩,h6,h7,h8,h9⟩:=id a;refine wpAny_bind (wpAny_field h1 h3 h5 ?_);rw[if_neg (show ¬((Value.ref T==Value.none)=true)from by simp)];refine mL X.env.frame I he a lt fun h2 I2 a2=>?_
 rw[B.fr]at a2;exact⟨e,cls,dx,a0,pins,σ,H',rfl,zS,I2,he,.inr ⟨T,_,a2,.inr rfl,lt⟩,q⟩
theorem nT{pins:List (Addr×Obj)}{σ:St}{H:Hp}{s s':Shared}{v:Value}(I:Inv X pins σ H s)(zS:S pins σ)(h:mH X.prog X.w X.stack H s E v s'):Fl X S E v s':=by obtain⟨e,T,cls,dx,a0,H',rfl,os,bare,un,hok,he,lt,hT,a,q⟩:=h;have I2:=I.call' os un hok bare (fun b z=>absurd z (by simp));exact⟨e,cls,dx,a0,pins,σ,H',rfl,zS,I2,he,.inr ⟨T,_,a,.inl rfl,Nat.le_trans I.sz lt,hT,fun p hp=>Nat.ne_of_lt (Nat.lt_of_lt_of_le (Heap.lt_size (I.pin p hp).1) lt)⟩,q⟩
theorem VX:ZE (mH X.prog X.w) (X.wish (Fl X (fun _ _=>True) E)) E:=fun _ _ _ _ _ _ I h=>nT I.Mj trivial h
theorem JZ{pins:List (Addr×Obj)}{σ:St}{H:Hp}{s:Shared}{a:Addr}{oe:Obj}{vs:Array Value}{a0:Value}(I:Inv X pins σ H s)(zS:S pins σ)(mu:uQ (H a))(ho:s.heap.get? a=some oe)(hd:oe.data=.fields vs)(v0:vs[0]?=some a0)(v1:vs[1]?=some .none)
 (q:E oe.cls oe.dict (VA H a (XL a oe.cls oe.dict))):Fl X S E (.ref a) s:=by
 have I2:=I.write (x:=a) (e:=a) (o:=XL a oe.cls oe.dict) (h':=s.heap) (t':=s.toks) mu (.inl rfl) (fun b u _ z=>z) ⟨_,ho⟩ (GU ⟨oe,vs,ho,⟨rfl,rfl⟩,hd⟩);exact⟨a,_,_,a0,pins,σ,_,rfl,zS,I2,KB,.inl ⟨oe,vs,ho,⟨rfl,rfl⟩,hd,v0,v1⟩,q⟩
end
theorem lS{P:Program}{w:World}{K:Frag}{mg:Str->Option Value}{base:Heap}{N:List Str}{qual:Str}{scope:Scope}{f:Addr}{cd:Value}{A:Around}{outer:List Env}{s s':Shared}{H:Hp}{E:XK}{v:Value}
 {S:List (Addr×Obj)->St->Prop} (h:Fl (mC (mH P w) P w K mg base N qual scope f cd A outer s H E) S E v s'):(mC (mH P w) P w K mg base N qual scope f cd A outer s H E).xe v s':=by
 have B:bI (mC (mH P w) P w K mg base N qual scope f cd A outer s H E):=⟨rfl,rfl,rfl⟩;have fr:(A.deeper (envOfC qual scope s.heap.objs.size f cd)).frames=some (envOfC qual scope s.heap.objs.size f cd::outer):=by obtain⟨_,_,_,_,_,_,_,_,_,I,_⟩:=id h;exact I.ok.frames
 show wpAny _ _ (leaving _ _) _ _ _;unfold leaving;refine wpAny_bind (h.noted B fr fun e T cls dx a0 pins σ H' h' hv zS I he a lt q=>?_);subst hv;refine mL none I he a lt fun h2 I2 a2=>?_
 exact⟨e,T,cls,dx,a0,H',rfl,I2.os,I2.bare,I2.base,I2.hok,he,lt.1,lt.2.1,a2,q⟩
open PySem.W
section
variable{X:Cx}{pins:List (Addr×Obj)}{σ:St}{H:Hp}{s:Shared}
theorem EY{M:Model}{A:Around}{E:Value->Shared->Prop}{j:Nat}{n:Str}{v:V}{Q:Unit->Shared->Prop}(I:Inv X pins σ H s)(hN:X.N.Nodup)(hj:X.N[j]?=some n)(hk:X.env.scope.names.lookup n=some .local)(hv:σ[j]?=some (some v))
 (h:∀s',Inv X pins (σ.set j none) H s'->Q () s'):wpAny M A (unbindName X.env n) Q E s:=by
 obtain⟨m,hn,hl⟩:=id I.loc;have hcls:(X.env.scope.kind==.class || (X.env.scope.kind==.module&&X.env.locals !=X.env.globals))=false:=by rw[I.ok.kind];rfl
 obtain⟨u,_,lk⟩:=hl j n v hj hv (.inl hk);have hm:m n=some u:=by
  rcases lk with⟨_,z⟩ | ⟨z,_⟩
  · exact z
  · have e:X.env.kindOf n=some .local:=hk;rw[e]at z;rcases z with z | z<;>cases z
 obtain⟨oL,_,_,hoL,_⟩:=id hn;refine wpAny_unbindName_local hk hn hm hcls fun h' u' hn' hs=>?_
 have tracked:Oq X.prog X.w H h':=fun b ob e=>by
  refine(I.hok b ob e).stay (fun c w' hc q=>(hs.2 c ?_).trans q) (fun _ q=>q) fun _ _ q=>q
  rintro rfl;rcases hc with rfl | hc
  · rw[I.free]at e;cases e
  · rw[I.free]at hc;cases hc
 have ne:∀b o,X.s₀.heap.get? b=some o->b≠X.env.locals:=fun b o e=>Nat.ne_of_lt (Nat.lt_of_lt_of_le (Heap.lt_size e) I.ok.above)
 refine h _ ⟨I.ok,I.os,I.bare,⟨fun b o e n hb hx=>(hs.2 b (ne b o e)).trans (I.base.keep b o e n hb hx),fun b o e n hb hx=>?_,I.base.free,fun b o e hx=>?_,I.base.tups,I.base.Kq,I.base.Yq⟩,⟨_,hn',fun i y v' e1 e2 e3=>?_⟩,fun y c e=>?_,I.free,I.Xj,fun p hp=>?_,tracked,by simpa using I.len⟩
 · obtain⟨sl,e1⟩:=I.base.slot b o e n hb hx;exact⟨sl,(hs.2 b (ne b o e)).trans e1⟩
 · obtain⟨o',e1⟩:=I.base.there b o e hx;exact⟨o',(hs.2 b (ne b o e)).trans e1⟩
 · by_cases z:i=j
   · subst z;have jl:=(Df hv).1;rw[getElem?_set_self jl]at e2;cases e2
   · rw[getElem?_set_ne (Ne.symm z)]at e2;obtain⟨u',r',q⟩:=hl i y v' e1 e2 e3;refine⟨u',r',?_⟩;rcases q with⟨k,e⟩ | ⟨k,c,e,y'⟩
     · refine .inl ⟨k,?_⟩;have:y≠n:=fun e=>z (zO hN e1 (e ▸ hj))
       simp[this,e]
     · exact .inr ⟨k,c,e,y'.sameBut hs (I.Tz y c e)⟩
 · obtain⟨w',z⟩:=I.cell y c e;exact⟨w',z.sameBut hs (I.Tz y c e)⟩
 · obtain⟨e,n,ne,nf,d⟩:=I.pin p hp;exact⟨(hs.2 p.1 ne).trans e,n,ne,nf,d⟩
end
noncomputable abbrev Cx.hd(X:Cx)(v:Value):Cx:={ X with A:=X.A.mark (some v),calm:=false }
section
variable{X:Cx}{pins:List (Addr×Obj)}{σ:St}{H:Hp}{s:Shared}{v:Value}
theorem Cx.Ok.hd'(ok:X.Ok)(v:Value):(X.hd v).Ok:=
 ⟨ok.mod,ok.kind,ok.glob,ok.blt,ok.above,ok.inj,ok.has,ok.cab,(fun z=>nomatch z),ok.frames,ok.stk,ok.uw,ok.bs,ok.Rz,ok.Dz,ok.Az,ok.bx,ok.Gv⟩
theorem Inv.hd(I:Inv X pins σ H s)(v:Value):Inv (X.hd v) pins σ H s:=⟨I.ok.hd' v,I.os,I.bare,I.base,I.loc,I.cell,I.free,I.Xj,I.pin,I.hok,I.len⟩
theorem Inv.Ug(ok:X.Ok)(I:Inv (X.hd v) pins σ H s):Inv X pins σ H s:=⟨ok,I.os,I.bare,I.base,I.loc,I.cell,I.free,I.Xj,I.pin,I.hok,I.len⟩
end
section
variable{X:Cx}{pins:List (Addr×Obj)}{σ:St}{H:Hp}{s:Shared}{e T C0:Addr}{cls a0:Value}{dx:Option Addr}{i j:Nat}{x n cn:Str}{px pn pa pc ph:Pos}{Q:Flow->Shared->Prop}
theorem D2(I:Inv X pins σ H s)(he:H e=some (XL e cls dx))(a:UU s.heap e T cls dx a0)(lt:X.s₀.heap.objs.size<=T/\H T=none/\∀p∈X.pn++pins,p.1≠T)
 (hg:Gl X cn) (hm:X.mg cn=some (.ref C0)) (hx:exmOne X.K cls (.ref C0)=some true) (hN:X.N.Nodup) (hi:X.N[i]?=some x) (hj:X.N[j]?=some n) (hij:i≠j) (kx:X.env.scope.names.lookup x=some .local) (kn:X.env.scope.names.lookup n=some .local)
 (hQ:∀s',Inv X pins ((σ.set i (some (.ref e))).set j none) H s'->Q .next s')
 (hs:swapsWith (.Name n pn) (some (.Name x px)) pa.line X.env=pure false:=by rfl) (hdc:(cn==("__debug__" :Str))=false:=by decide) (hd1:(n==("__debug__" :Str))=false:=by decide) (hd2:(n==("__classdict__" :Str))=false:=by decide) :
 wpAny (model X.prog X.w) X.A (handleBy (.ref e) X.env [.ExceptHandler (some (.Name cn pc)) (some n) [.Assign [.Name x px] (.Name n pn) pa] ph]) Q X.xe s:=by
 have jl:j<σ.length:=by rw[I.len];exact(Df hj).1
 refine wpAny_handleBy_cons (codeAny_handlers_test (dG (X:=X.hd (.ref e)) (I.hd _) hg hm ?_ hdc)) (by intro q;cases q);obtain⟨oe,vs,h1,⟨h2,_⟩,h3⟩:=a.obj;have LT:Looks (model X.prog X.w) s.heap (typeOf (.ref e)) cls:=h2 ▸ (Looks.ld h1).andThen .now;refine(exm_one I.Aq LT hx).here ?_;show codeAny _ _ _ _ _;refine codeAny_handlers_suite_as (mL none I he a lt fun h' I1 a1=>?_);refine JK (v:=.ref e) I1 hN hj (.inl kn) rfl (fun s2 I2=>?_) (.inr kn);have P:Ax (X.hd (.ref e)).Yx [.Assign [.Name x px] (.Name n pn) pa] (kK (lK j) (LJ i)):=cL (LP (X:=(X.hd (.ref e)).Yx) hN hi (.inl kx) (qL hj (.inl kn) hd1 hd2) hs (.inr kx));refine wpAny_mono (P pins s2 _ H { nx:=fun σ' H'=>σ'=((σ.set j (some (.ref e))).set i (some (.ref e)))/\H'=H,rt:=fun _ _=>False } ((I2.hd _).wish _) ⟨.ref e,by rw[getElem?_set_self jl],rfl,rfl⟩) (fun f s3 z=>?_) fun x' s3 z=>?_
 · cases f with
   | next=>
    obtain⟨σ',H',I3,rfl,rfl⟩:=z;show wpAny _ _ _ _ _ _;refine wpAny_bind (wpAny_bindName (JK (v:=.non) (I3.Mj.Ug I.ok) hN hj (.inl kn) rfl (fun s4 I4=>?_) (.inr kn)));refine wpAny_onRaise (EY (v:=.non) I4 hN hj kn (by rw[getElem?_set_self (by simpa using jl)]) fun s5 I5=>hQ s5 ?_);have e9:(((σ.set j (some (V.ref e))).set i (some (V.ref e))).set j (some V.non)).set j none=(σ.set i (some (V.ref e))).set j none:=by rw[set_set,set_comm _ _ hij,set_set,set_comm _ _ (Ne.symm hij)]
    rw[<- e9];exact I5
   | brk=>obtain⟨_,_,_,q⟩:=z;exact q.elim
   | cont=>obtain⟨_,_,_,q⟩:=z;exact q.elim
   | ret u=>obtain⟨_,_,_,_,_,q⟩:=z;exact q.elim
 · exact z.elim
end
open PySem.W
noncomputable def sD (K:Frag) (C:Addr):Bool:=(mroIn K C (.type "BaseException")==some true)&&((K.lookup C).map (·.cls)==some (.type "type"))
def Q5(K:Frag)(S:List (Addr×Obj)->St->Prop)(E:XK)(tc:TE):TS:=fun _ σ H=>(∀pins,S pins σ)/\tc σ H fun v H1=>∃a C t0 dx,v=.ref a/\H1 a=some (XO a C t0 dx)/\sD K C=true/\E (.ref C) dx (VA H1 a (XL a (.ref C) dx))
section
variable{X:Cx}{S:List (Addr×Obj)->St->Prop}{E:XK}{c:Expr}{tc:TE}{pos:Pos}
theorem eS(cm:X.calm=true)(he:PE (X.wish (Fl X S E)) c tc):PS (X.wish (Fl X S E)) (.Raise (some c) none pos) (Q5 X.K S E tc):=by
 intro pins s σ H D I h;obtain⟨zS,h⟩:=h;have hh:X.A.handled=none:=I.ok.hd cm;rw[arm_exec_Raise];refine wpAny_bind (wpAny_standAt ?_);show wpAny _ _ (raiseStmt X.env (some (do let v <- eval c X.env;standAt pos;pure v)) none) _ _ _;unfold raiseStmt;refine wpAny_bind (wpAny_bind (wpAny_mono (he pins s σ H _ I h) (fun v s1 z=>wpAny_bind (wpAny_standAt (wpAny_pure ?_))) fun _ _ z=>z));obtain⟨v',H1,I1,r,a,C,t0,dx,e,ea,tC,q⟩:=z;subst e;obtain rfl:v=Value.ref a:=r;have ho:=(I1.hok a _ ea).1;unfold sD at tC;rw[Bool.and_eq_true,beq_iff_eq,beq_iff_eq]at tC;obtain⟨t1,t2⟩:=tC;obtain⟨oC,hk,hcl⟩:=Option.map_eq_some_iff.mp t2;have hC:=I1.Aq _ _ hk;have fl:Fl X S E (.ref a) s1:=JZ (a0:=.ref t0) I1.Mj (zS _) (by rw[ea];exact True.intro) ho rfl rfl rfl q;have LM:=looks_mroIn (M:=model X.prog X.w) I1.Aq t1;obtain⟨hp,g,d,tk,os⟩:=s1
 repeat (first | with_reducible refine wpAny_loadPart_at ho ?_ | with_reducible refine wpAny_loadPart_at hC ?_ | with_reducible refine LM.at ?_ | wp_step)
 exact wpAny_raiseNew_none hh fl
end
open PySem.W
def HP(CX:qG)(X:Cx)(E:XK)(pins:List (Addr×Obj))(σ:St):Prop:=∀(H:Hp)(s:Shared)(e:Value)(s':Shared),Inv X pins σ H s->CX X.stack H s E e s'->X.xe e s'
section
variable{X:Cx}{CX:qG}{k:Nat}{f C:Addr}{fd:FuncData}{ps:List Str}{sp:Sp}{Pq:List V}{ds:List Value}{E:XK}{x m:Str}{p pos apos:Pos}{e o:Expr}{es:List Expr}{ta:TE}{t:TA}{pins:List (Addr×Obj)}{σ:St}{H:Hp}{s:Shared}{Q:VK}
theorem K5{us:List Value}{vs:List V}(F:Oj X.prog X.w X.K X.mg X.base CX k f fd ps sp)(hr:Hj k X.A)(hb:Binds X.K fd ps ds)(hd:Vals Pq ds)(hx:HP CX X E pins σ)
 (I:Inv X pins σ H s) (r:Vals vs us) (h:sp (vs++Pq) H Q E):wpAny (model X.prog X.w) X.A (call (.ref f) us) (EP X pins σ Q) X.xe s:=by
 have r2:Vals (vs++Pq) (us++ds):=r.append hd;refine wpAny_call (codeAny_mono (F.run X.A X.stack s H ⟨us,[]⟩ (us++ds) (vs++Pq) Q E hr I.env0 (hb s us I.Aq (by rw[<- r2.length];exact F.len _ _ _ _ h)) r2 h) fun r s' hq=>?_);cases r with
 | error e=>exact hx H s e s' I hq
 | ok fl=>
  cases fl with
  | ret u=>exact I.after hq
  | next=>exact False.elim hq
  | brk=>exact False.elim hq
  | cont=>exact False.elim hq
theorem B0{pl:Sem Bool}(he:PE X o ta)(c:Cls X.K C)(hm:pF X.K C m f)(F:Oj X.prog X.w X.K X.mg X.base CX k f fd ps sp)(hr:Hj k X.A)(hb:Binds X.K fd ps ds)(hd:Vals Pq ds)(hx:HP CX X E pins σ)(ha:PA X (e::es) t)(I:Inv X pins σ H s)(h:XJ C m sp Pq E ta t σ H Q)
 (hst:starEach (e::es) X.env=(false,eval e X.env)::starEach es X.env:=by rfl) (hpl:(backTo pos (starEach es X.env)).any (·.1)=false:=by rfl)
 (ht:eval (.Call (.Attribute o m apos) (e::es) [] pos) X.env=(do
  let ov <- eval o X.env
  standAt apos.atName
  let (f,first) <- holding [ov] (getMethod ov m pl)
  callWith pos f first (backTo pos (starEach (e::es) X.env)) (backToKw pos (keywordEach [] X.env))):=by rfl) :
 wpAny (model X.prog X.w) X.A (eval (.Call (.Attribute o m apos) (e::es) [] pos) X.env) (EP X pins σ Q) X.xe s:=by
 refine PySem.W.methodCall_KW (pl:=pl) (WA (he pins s σ H _ I h) fun u s1 zz=>?_) ht;obtain⟨x,H1,I1,rx,a,dx,fs,ex,ea,l,q⟩:=zz;subst ex;obtain rfl:u=Value.ref a:=rx;refine BK I1 ea c hm l (PySem.W.callWith_K (first:=[.ref a]) (h₀:=X.base) I.ok.mod.Iv hm.kp (WA (ha pos pins s1 σ H1 _ I1 q) fun us s2 ⟨vs,H2,I2,r,q2⟩=>⟨I2.Aq,?_⟩) hst hpl);exact K5 (us:=.ref a::us) (vs:=.ref a::vs) F hr hb hd hx I2 (.cons rfl r) q2
end
def OV(K:Frag)(C0:Addr)(i j:Nat)(tc:XK->TE):TS:=fun D σ H=>tc (fun cls dx H'=>exmOne K cls (.ref C0)=some true/\∀e,H' e=some (XL e cls dx)->D.nx ((σ.set i (some (.ref e))).set j none) H') σ H fun _ H'=>D.nx σ H'
section
variable{X:Cx}{c:Expr}{tc:XK->TE}{C0:Addr}{i j:Nat}{x n cn:Str}{p1 px pn pa pc ph pos:Pos}
theorem C6(B:bI X)(hc:∀(xe:Value->Shared->Prop)(pins:List (Addr×Obj))(σ:St)(E:XK),HP (mH X.prog X.w) (X.wish xe) E pins σ->∀s H Q,Inv (X.wish xe) pins σ H s->tc E σ H Q->wpAny (model X.prog X.w) X.A (eval c X.env) (EP (X.wish xe) pins σ Q) xe s)
 (hg:Gl X cn) (hm:X.mg cn=some (.ref C0)) (hN:X.N.Nodup) (hi:X.N[i]?=some x) (hj:X.N[j]?=some n) (hij:i≠j) (kx:X.env.scope.names.lookup x=some .local) (kn:X.env.scope.names.lookup n=some .local)
 (hw:swapsWith c none p1.line X.env=pure false:=by rfl) (hs:swapsWith (.Name n pn) (some (.Name x px)) pa.line X.env=pure false:=by rfl) (hdc:(cn==("__debug__" :Str))=false:=by decide) (hd1:(n==("__debug__" :Str))=false:=by decide) (hd2:(n==("__classdict__" :Str))=false:=by decide) :
 PS X (.Try [.Expr c p1] [.ExceptHandler (some (.Name cn pc)) (some n) [.Assign [.Name x px] (.Name n pn) pa] ph] [] [] pos) (OV X.K C0 i j tc):=by
 intro pins s σ H D I h
 let E:XK:=fun cls dx H'=>exmOne X.K cls (.ref C0)=some true/\∀e,H' e=some (XL e cls dx)->D.nx ((σ.set i (some (.ref e))).set j none) H'
 have b:=hc (Fl X (fun p q=>p=pins/\q=σ) E) pins σ E (fun H s e s' I h=>nT I.Mj ⟨rfl,rfl⟩ h) s H (fun _ H'=>D.nx σ H') (I.wish _) h;refine wpAny_Try_except (wpAny_execs_cons (wpAny_Expr_any (wpAny_mono b (fun v s1 z=>?_) fun v s1 fl=>?_) I.quiet hw))
 · obtain⟨x,H1,I1,r1,q1⟩:=z;exact wpAny_execs_nil (wpAny_execs_nil ⟨σ,H1,I1.Mj,q1⟩)
 · refine fl.noted B I.ok.frames fun e T cls dx a0 Kz σ' H' h' hv zS I1 he a lt q=>?_
   obtain⟨rfl,rfl⟩:=zS;subst hv;exact mL none I1 he a lt fun h2 I2 a2=>D2 I2 he a2 lt hg hm q.1 hN hi hj hij kx kn (fun s' I'=>⟨_,H',I',q.2 e he⟩) hs hdc hd1 hd2
end
end L2
namespace SM
theorem gj.Jv{K:Frag}{ρ:Rg}{h:HI}{H:Hp}(S:gj K ρ h H){p:Addr}{u:HO}(e:H p=some u)(hu:(∃φ,u=.ext φ)\/∃fs,u=.xd fs):ρ.no p:=by
 refine⟨fun ha=>?_,fun ha=>?_⟩
 · obtain⟨n,hn⟩:=mem_iff_getElem?.mp ha;have hl:n<h.length:=by rw[<- S.len];exact(Df hn).1
   have o:=S.ob n p _ hn (getElem?_eq_getElem hl);generalize h[n]=ob at o;cases ob with
   | lst xs=>obtain⟨vs,h1,_⟩:=o;rw[e]at h1;cases h1;rcases hu with⟨_,z⟩ | ⟨_,z⟩<;>cases z
   | ins y fs=>obtain⟨C,dx,vs,_,h1,_⟩:=o;rw[e]at h1;cases h1;rcases hu with⟨_,z⟩ | ⟨_,z⟩<;>cases z
   | dk kvs=>obtain⟨vs,h1,_⟩:=o;rw[e]at h1;cases h1;rcases hu with⟨_,z⟩ | ⟨_,z⟩<;>cases z
   | dt kvs=>obtain⟨vs,h1,_⟩:=o;rw[e]at h1;cases h1;rcases hu with⟨_,z⟩ | ⟨_,z⟩<;>cases z
   | df kvs=>obtain⟨o,vs,h1,_⟩:=o;rw[e]at h1;cases h1;rcases hu with⟨_,z⟩ | ⟨_,z⟩<;>cases z
   | Qx kvs=>obtain⟨o,vs,h1,_⟩:=o;rw[e]at h1;cases h1;rcases hu with⟨_,z⟩ | ⟨_,z⟩<;>cases z
 · obtain⟨_,vs,h1⟩:=S.zt p ha;rw[e]at h1;cases h1;rcases hu with⟨_,z⟩ | ⟨_,z⟩<;>cases z
def VU (H:Hp) (f:Str) (i:Sum Int Str) (dx:Option Addr):Prop:=(f = "" /\ dx=none)\/∃b,dx=some b/\H b=some (.xd [(f,xV i)])
def ZU(K:Frag)(ρ:Rg)(H:Hp)(E:XK)(x f:Str)(i:Sum Int Str)(h':HI):Prop:=
 ∀ρ' C dx H',nsIn K mainGlobals x=some (some (.ref C))->VU H' f i dx->gj K ρ' h' H'->Ext ρ ρ' H H'->E (.ref C) dx H'
def Tq(K:Frag)(ρ:Rg)(H:Hp)(Q:VK)(E:XK):Dt->HI->Prop
 | .thr x f i,h'=>ZU K ρ H E x f i h'
 | d,h'=>Out K ρ H d h' Q
def uz(K:Frag)(ρ:Rg)(H:Hp)(D:oF)(E:XK):Rs->Prop
 | .rt d h'=>Tq K ρ H D.rt E d h'
 | r=>Jx K ρ H D r
section
variable{K:Frag}{ρ ρ1:Rg}{H H1:Hp}{D:oF}{E:XK}{Q:VK}{d:Dt}{h':HI}{r:Rs}
theorem Tq.out(k:Tq K ρ H Q E d h'):Out K ρ H d h' Q:=by
 cases d with
 | thr x f i=>exact fun ρ' v H' R=>(Gq.mp R).elim
 | _=>exact k
theorem Tq.ext(k:Tq K ρ H Q E d h')(x:Ext ρ ρ1 H H1):Tq K ρ1 H1 Q E d h':=by
 cases d with
 | thr y f i=>exact fun ρ' C dx H' a b s e=>k ρ' C dx H' a b s (x.trans e)
 | _=>exact Out.ext k x
theorem Tq.mono{Q':VK}(k:Tq K ρ H Q E d h')(m:∀v H',Q v H'->Q' v H'):Tq K ρ H Q' E d h':=by
 cases d with
 | thr y f i=>exact k
 | _=>exact fun ρ' v H' R S e=>m _ _ (k ρ' v H' R S e)
theorem uz.out(k:uz K ρ H D E r):Jx K ρ H D r:=by
 cases r with
 | rt d h=>exact Tq.out k
 | _=>exact k
theorem uz.ext(k:uz K ρ H D E r)(x:Ext ρ ρ1 H H1):uz K ρ1 H1 D E r:=by
 cases r with
 | rt d h=>exact Tq.ext k x
 | nx l h=>exact Jx.ext (r:=.nx l h) k x
 | bk l h=>exact Jx.ext (r:=.bk l h) k x
 | ct l h=>exact Jx.ext (r:=.ct l h) k x
end
def sX(K:Frag)(E:XK)(f:RS):TS:=fun D σ H=>∃ρ l h r,gj K ρ h H/\Jj K H ρ l σ/\f l h=some r/\uz K ρ H D E r
abbrev xw(X:Cx)(E:XK):Cx:=X.wish (Fl X (fun _ _=>True) E)
@[irreducible] def ZX(X:Cx)(E:XK)(st:Stmt)(f:RS):Prop:=PS (xw X E) st (sX X.K E f)
@[irreducible] def EI(X:Cx)(E:XK)(st:List Stmt)(f:RS):Prop:=Ax (xw X E) st (sX X.K E f)
section
variable{X:Cx}{E:XK}{st:Stmt}{rest:List Stmt}{t u:RS}{c:RT}{pos:Pos}{tg iter:Expr}
theorem HL(h:ZM (xw X E) st t):ZX X E st t:=by with_unfolding_all exact PS.imp h fun D σ H ⟨ρ,l,h,r,S,L,e,k⟩=>⟨ρ,l,h,r,S,L,e,k.out⟩
theorem wJ(h:sH (xw X E) rest t):EI X E rest t:=by with_unfolding_all exact Ax.imp h fun D σ H ⟨ρ,l,h,r,S,L,e,k⟩=>⟨ρ,l,h,r,S,L,e,k.out⟩
theorem JG(h1:ZX X E st t)(h2:EI X E rest u):EI X E (st::rest) (lA t u):=by
 with_unfolding_all
  exact Ax.imp (CO h1 h2) fun D σ H zz=>by
   obtain⟨ρ,l,h,r,S,L,e,k⟩:=zz;obtain⟨r1,e1,e⟩:=kA e;refine⟨ρ,l,h,r1,S,L,e1,?_⟩;cases r1 with
   | nx l' h'=>exact fun ρ' σ' H' S' L' E'=>⟨ρ',l',h',r,S',L',e,k.ext E'⟩
   | rt d h'=>cases e;exact k
   | bk l' h'=>cases e;exact k
   | ct l' h'=>cases e;exact k
theorem eF(h1:ZX X E st t):EI X E [st] t:=by with_unfolding_all exact cL h1
theorem MJ{b:Expr}{ss ss':List Stmt}(hc:TM (xw X E) b c)(ha:EI X E ss t)(hb:EI X E ss' u):ZX X E (.If b ss ss' pos) (zB c t u):=by
 with_unfolding_all
  exact PS.imp (zU hc ha hb) fun D σ H zz=>by
   obtain⟨ρ,l,h,r,S,L,e,k⟩:=zz;obtain⟨⟨b1,h1⟩,e1,e⟩:=kA e;refine⟨ρ,l,h,b1,h1,S,L,e1,fun ρ1 H1 S1 E1=>?_⟩;cases b1 with
   | true=>rw[if_pos rfl]at e;exact yE ⟨ρ1,l,h1,r,S1,L.ext E1,e,k.ext E1⟩
   | false=>rw[if_neg Gf]at e;exact xE ⟨ρ1,l,h1,r,S1,L.ext E1,e,k.ext E1⟩
theorem z8{body:List Stmt}{g:RI}{bd:RG}{f:RS}(B:bI X)(hc:X.calm=true)(hi:IM (xw X E) tg iter g)(hg:GM (xw X E) tg bd)(hb:EI X E body f)
 (hs:∀x,foldedSetIterable iter X.env x=pure x:=by intro _;rfl):ZX X E (.For tg iter body [] pos) (gD g bd f):=by
 with_unfolding_all
  exact PS.imp (kU (X:=xw X E) (A3 B) hc hi hg hb hs) fun D σ H zz=>by
   obtain⟨ρ,l,h,r,S,L,e,k⟩:=zz;obtain⟨⟨s,h1⟩,e1,e⟩:=kA e;refine⟨ρ,l,h,s,h1,S,L,e1,fun ρ1 J H1 ok S1 E1=>?_⟩;refine⟨fun i m σ' H'=>∃ρ' l' h',gj X.K ρ' h' H'/\Jj X.K H' ρ' l' σ'/\Ext ρ1 ρ' H1 H'/\xC bd f s m i l' h'=some r,⟨_,ρ1,l,h1,S1,L.ext E1,Ext.refl _ _,e⟩,?_⟩;rintro i m σ' H' ⟨ρ',l',h',S',L',E',e'⟩;cases m with
   | zero=>simp only[xC]at e';cases e'
   | succ m=>
    simp only[xC]at e';have ok':=ok H' ρ' h' E'.same S' i;cases q:s.at h' i with
    | none=>rw[q]at e';cases e'
    | some o=>
     rw[q]at e' ok';cases o with
     | none=>cases e';exact .inl ⟨ok',k ρ' σ' H' S' L' (E1.trans E')⟩
     | some d=>
      dsimp only at e';obtain⟨l1,b1,e'⟩:=kA e';obtain⟨r1,b2,e'⟩:=kA e';refine .inr ⟨ok'.1,fun σ2 H2=>∃m',m'<m+1/\∃ρ' l' h',gj X.K ρ' h' H2/\Jj X.K H2 ρ' l' σ2/\Ext ρ1 ρ' H1 H2/\xC bd f s m' (i+1) l' h'=some r,fun σ2 H2 q=>q,fun v H3 y=>?_⟩;obtain⟨R3,E3,S3⟩:=ok'.2 v H3 y;refine⟨ρ',l',h',d,l1,S3,L'.ext E3,R3,b1,fun σ4 L4=>⟨ρ',l1,h',r1,S3,L4,b2,?_⟩⟩;cases r1 with
      | nx l2 h2=>exact fun ρ5 σ5 H5 S5 L5 E5=>⟨m,Nat.lt_succ_self _,ρ5,l2,h2,S5,L5,E'.trans (E3.trans E5),e'⟩
      | ct l2 h2=>exact fun ρ5 σ5 H5 S5 L5 E5=>⟨m,Nat.lt_succ_self _,ρ5,l2,h2,S5,L5,E'.trans (E3.trans E5),e'⟩
      | bk l2 h2=>cases e';exact fun ρ5 σ5 H5 S5 L5 E5=>k ρ5 σ5 H5 S5 L5 (E1.trans (E'.trans (E3.trans E5)))
      | rt d2 h2=>cases e';exact Tq.ext k (E1.trans (E'.trans E3))
end
def JI(x fl:Str)(c:Int)(g:RE):RS:=fun l h=>(g l h).bind fun r=>(TF c r.1).map fun i=>.rt (.thr x fl i) r.2
section
variable{X:Cx}{E:XK}{x fl:Str}{c:Int}{k k':Nat}{e:Expr}{g:RE}{p pos pos':Pos}
theorem KO (ec:CI X.prog X.w X.K X.mg X.base k x fl c) (cm:X.calm=true) (hr:Hj k' X.A) (hk:k+1<=k') (hg:Gl X x) (ha:EM (xw X E) e g) (ht:∀C,nsIn X.K mainGlobals x=some (some (.ref C))->sD X.K C=true) (hdb:(x==("__debug__" :Str))=false:=by decide) (he:oB e=true:=by rfl) :
 ZX X E (.Raise (some (.Call (.Name x p) [e] [] pos)) none pos') (JI x fl c g):=by
 with_unfolding_all
  obtain⟨C,f,fd,ps,c1,c2,c3,c4,c5,c6,c7,c8⟩:=ec.ex;exact PS.imp (eS (S:=fun _ _=>True) cm (uZ (X:=xw X E) c2 c3 c4 c5 (hr.mono hk) hg c6 c7 (E:=E0) zL c8 (FC ha tD (pB he _ _)) hdb (pB he _ _) rfl)) fun D σ H zz=>by
   obtain⟨ρ,l,h,r,S,L,e,k⟩:=zz;obtain⟨⟨d1,h1⟩,e1,e⟩:=kA e;obtain⟨i,e2,e⟩:=Option.map_eq_some_iff.mp e;cases e;refine⟨fun _=>trivial,ρ,l,h,d1,h1,S,L,e1,fun ρ1 v H1 R1 S1 E1 a t0 ha=>?_⟩;obtain⟨ev,z,sh⟩:=Z2 e2 R1;refine⟨a,t0,v,z,rfl,KB,sh,fun t1 dx hdx=>⟨rfl,?_⟩⟩;rw[pP]at hdx ⊢;have na:dx≠a:=fun q=>by rw[q,KB]at hdx;cases hdx
   rw[UA na]at hdx;refine⟨a,C,t1,some dx,rfl,KB,ht C c1,?_⟩;rw[pP];have eH:VA (VA (VA H1 a (XO a C t1 none)) dx (.xd [(fl,v)])) a (XL a (.ref C) (some dx))=VA (VA H1 dx (.xd [(fl,v)])) a (XL a (.ref C) (some dx)):=by
    funext b;unfold VA;by_cases q1:b=a
    · rw[if_pos q1,if_pos q1]
    · rw[if_neg q1,if_neg q1,if_neg q1]
   rw[eH];have ha2:VA H1 dx (.xd [(fl,v)]) a=none:=by rw[UA (Ne.symm na)];exact ha
   have E2:Ext ρ1 ρ1 H1 (VA H1 dx (.xd [(fl,v)])):=Ext.fresh hdx;have S2:gj X.K ρ1 h1 (VA H1 dx (.xd [(fl,v)])):=S1.fresh hdx;have E3:Ext ρ1 ρ1 (VA H1 dx (.xd [(fl,v)])) (VA (VA H1 dx (.xd [(fl,v)])) a (XL a (.ref C) (some dx))):=Ext.fresh ha2;refine k ρ1 C (some dx) _ c1 (.inr ⟨dx,rfl,?_⟩) (S2.fresh ha2) (E1.trans (E2.trans E3));rw[UA na,KB,ev]
end
def QQ(K:Frag)(n:Nat)(F:kB):Sp:=fun vs H Q E=>∃ρ ds h d h',gj K ρ h H/\aj K H ρ ds vs/\ds.length=n/\F ds h=some (d,h')/\Tq K ρ H Q E d h'
theorem Jj.unset{K:Frag}{H:Hp}{ρ:Rg}{l:LI}{σ:L2.St}(L:Jj K H ρ l σ)(j:Nat):Jj K H ρ (l.set j none) (σ.set j none):=by
 obtain⟨h1,h2⟩:=L;refine⟨by simp[h1],fun i d e=>?_⟩;by_cases z:j=i
 · subst z;by_cases jl:j<l.length
   · rw[getElem?_set_self jl]at e;cases e
   · rw[getElem?_eq_none (by simpa using Nat.not_lt.mp jl)]at e;cases e
 · rw[getElem?_set_ne z]at e ⊢;exact h2 i d e
section
variable{P:Program}{w:World}{K:Frag}{mg:Str->Option Value}{base:Heap}
theorem D3{x qual:Str}{st:Stmt}{f:Addr}{fd:FuncData}{N ps:List Str}{k:Nat}{body:RS}(F:iz K x qual st f fd)(S:YA N ps (sA st))
 (hb:∀(cdv:Value)(A:Around)(outer:List Env)(s:Shared)(H:Hp)(E:XK),Hj k (A.deeper (envOfC qual (sA st) s.heap.objs.size f cdv))->
  EI (mC (mH P w) P w K mg base N qual (sA st) f cdv A outer s H E) E (LB st) body):Oj P w K mg base (mH P w) (k+1) f fd ps (QQ K ps.length (FB ps.length N.length body)):=by
 with_unfolding_all
  obtain⟨oc,od,kV,doc,pm,an,cdv,ct,osl,rfl,lk,hcd⟩:=F.ex;refine fQ lk hcd S (fun vs H Q E h=>?_) fun A outer s H vs Q E hr h=>?_
  · obtain⟨ρ,ds,h,d,h',S,R,hl,_⟩:=h;rw[R.length,hl]
  · obtain⟨ρ,ds,h,d,h',S,R,hl,e,k⟩:=h;have z:=hb cdv A outer s H E hr;refine⟨_,fun pins s' σ H' D I hw=>wpAny_mono (z pins s' σ H' D (I.wish _) hw) (fun _ _ q=>q.Mj) fun _ _ q=>lS q,?_⟩;unfold FB at e;rw[if_pos hl]at e;rw[<- hl]at e;split at e
    · rename_i d1 h1 q;cases e;exact⟨ρ,_,h,_,S,TH R,q,k⟩
    · rename_i l1 h1 q;cases e;exact⟨ρ,_,h,_,S,TH R,q,fun ρ' σ' H' S' L' E'=>k ρ' _ H' (zj.mpr rfl) S' E'⟩
    · cases e
end
noncomputable def DL(K:Frag)(C0:Addr)(tab:List Str):Prop:=∀y∈tab,∀C,nsIn K mainGlobals y=some (some (.ref C))->PySem.W.exmOne K (.ref C) (.ref C0)=some true
section
variable{X:Cx}{k k' nn:Nat}{F:kB}{fx:Str}{C0:Addr}{i j:Nat}{x n cn:Str}{p p1 px pn pa pc ph pos cpos:Pos}{e:Expr}{es:List Expr}{g:RA}{tab:List Str}
structure CQ(K:Frag)(mg:Str->Option Value)(cn:Str)(tab:List Str):Prop where
 ex:∃C0,mg cn=some (.ref C0)/\DL K C0 tab
theorem SX{K:Frag}{C0:Addr}:DL K C0 []:=fun _ h=>nomatch h
theorem bJ{K:Frag}{C0 C:Addr}{y:Str}{tab:List Str}(n:nsIn K mainGlobals y=some (some (.ref C)))(h:PySem.W.exmOne K (.ref C) (.ref C0)=some true)(r:DL K C0 tab):DL K C0 (y::tab):=fun z hz D e=>by
 rcases mem_cons.mp hz with q | q
 · subst q;rw[n]at e;cases e;exact h
 · exact r z q D e
theorem IJ{K:Frag}{C:Addr}{y:Str}(n:nsIn K mainGlobals y=some (some (.ref C)))(h:sD K C=true):∀D,nsIn K mainGlobals y=some (some (.ref D))->sD K D=true:=fun D e=>by rw[n]at e;cases e;exact h
end
noncomputable def VD:Dt->Option FA
 | .str z=>some (.inr z)
 | .int i=>some (.inl i)
 | _=>none
noncomputable def iC(kvs:List (FA×Dt))(k:FA):Option Dt:=(kvs.find? fun p=>decide (p.1=k)).map (·.2)
noncomputable def wG(kvs:List (FA×Dt))(k:FA)(d:Dt):List (FA×Dt):=
 if(kvs.any fun p=>decide (p.1=k))=true then kvs.map (fun p=>if p.1=k then(p.1,d)else p)else kvs++[(k,d)]
noncomputable def OF(kvs:List (FA×Dt))(k:FA):List (FA×Dt):=kvs.filter fun p=>decide (p.1≠k)
noncomputable def gH:RE:=fun _ h=>some (.ref h.length,h++[.dk []])
noncomputable def yD(h:HI):Dt->Option (List (FA×Dt))
 | .ref n=>match h[n]? with | some (.dk kvs)=>some kvs | _=>none
 | _=>none
def JJ(fo fy:RE):RE:=fun l h=>(fo l h).bind fun o=>(fy l o.2).bind fun y=>(VD y.1).bind fun k=>(yD y.2 o.1).bind fun kvs=>(iC kvs k).map fun d=>(d,y.2)
def uE(b:Bool)(fy fo:RE):RE:=fun l h=>(fy l h).bind fun y=>(fo l y.2).bind fun o=>(VD y.1).bind fun k=>(yD o.2 o.1).map fun kvs=>(.bl ((iC kvs k).isSome==b),o.2)
def wI(fe fo fy:RE):RS:=fun l h=>(fe l h).bind fun v=>(fo l v.2).bind fun o=>(fy l o.2).bind fun y=>(VD y.1).bind fun k=>match o.1 with
 | .ref n=>match y.2[n]? with
  | some (.dk kvs)=>if kvs.length<sizeLine then some (.nx l (y.2.set n (.dk (wG kvs k v.1))))else none
  | _=>none
 | _=>none
def KJ(fo fy:RE):RE:=fun l h=>(fo l h).bind fun o=>match o.1 with
 | .ref n=>match o.2[n]? with
  | some (.dk _)=>(fy l o.2).bind fun y=>(VD y.1).bind fun k=>match y.2[n]? with
   | some (.dk kvs)=>(iC kvs k).map fun d=>(d,y.2.set n (.dk (OF kvs k)))
   | _=>none
  | _=>none
 | _=>none
section
variable{K:Frag}{H:Hp}{ρ:Rg}
abbrev KK(K:Frag)(H:Hp)(ρ:Rg)(kvs:List (FA×Dt))(vs:List (FA×V)):Prop:=kvs.map (·.1)=vs.map (·.1)/\aj K H ρ (kvs.map (·.2)) (vs.map (·.2))
theorem uJ{d:Dt}{v:V}{k:FA}(e:VD d=some k)(r:cj K H ρ d v):v=kV k:=by
 cases d with
 | str z=>cases e;exact kj.mp r
 | int i=>cases e;exact dj.mp r
 | _=>cases e
theorem KK.Qj{vs:List (FA×V)}(r:KK K H ρ [] vs):vs=[]:=by have:=r.1;simpa using this.symm
theorem KK.Cj{p:FA×Dt}{kvs:List (FA×Dt)}{vs:List (FA×V)}(r:KK K H ρ (p::kvs) vs):∃v rs,vs=(p.1,v)::rs/\cj K H ρ p.2 v/\KK K H ρ kvs rs:=by
 obtain⟨h1,h2⟩:=r;cases vs with
 | nil=>simp at h1
 | cons q rs=>simp only[Zr,List.cons.injEq]at h1;obtain⟨v,r',e,g1,g2⟩:=aj.Cj (by simpa only[Zr]using h2);simp only[Zr,List.cons.injEq]at e;obtain⟨q1,q2⟩:=q;have h11:p.1=q1:=h1.1;have e1:q2=v:=e.1;subst e1;exact⟨q2,rs,by rw[h11],g1,h1.2,by rw[e.2];exact g2⟩
theorem KK.cons{p:FA×Dt}{v:V}{kvs:List (FA×Dt)}{vs:List (FA×V)}(g:cj K H ρ p.2 v)(r:KK K H ρ kvs vs):KK K H ρ (p::kvs) ((p.1,v)::vs):=
 ⟨by simp only[Zr];rw[r.1],.cons g r.2⟩
theorem KK.length{kvs:List (FA×Dt)}{vs:List (FA×V)}(r:KK K H ρ kvs vs):vs.length=kvs.length:=by have:=congrArg List.length r.1;simpa using this.symm
theorem KK.val(k:FA):∀{kvs:List (FA×Dt)}{vs:List (FA×V)},KK K H ρ kvs vs->(∀d,iC kvs k=some d->∃v,ZC vs k=some v/\cj K H ρ d v)/\(iC kvs k=none->ZC vs k=none)
 | [],_,r=>by rw[r.Qj];exact⟨fun d e=>by simp[iC]at e,fun _=>rfl⟩
 | p::kvs,_,r=>by
  obtain⟨v,rs,rfl,g,r'⟩:=r.Cj;by_cases c:p.1=k
  · have e1:iC (p::kvs) k=some p.2:=by simp[iC,find?_cons,c]
    rw[e1,NK c];exact⟨fun d e=>by cases e;exact⟨v,rfl,g⟩,fun e=>by cases e⟩
  · have e1:iC (p::kvs) k=iC kvs k:=by simp[iC,find?_cons,c]
    rw[e1,MK c];exact KK.val k r'
theorem KK.isSome(k:FA){kvs:List (FA×Dt)}{vs:List (FA×V)}(r:KK K H ρ kvs vs):(ZC vs k).isSome=(iC kvs k).isSome:=by
 obtain⟨v1,v2⟩:=r.val k;cases c:iC kvs k with
 | none=>rw[v2 c];rfl
 | some d=>obtain⟨v,e,_⟩:=v1 d c;rw[e];rfl
theorem KK.any(k:FA){kvs:List (FA×Dt)}{vs:List (FA×V)}(r:KK K H ρ kvs vs):(vs.any fun p=>decide (p.1=k))=kvs.any fun p=>decide (p.1=k):=by
 have e1:(vs.any fun p=>decide (p.1=k))=(vs.map (·.1)).any fun x=>decide (x=k):=by rw[any_map];rfl
 have e2:(kvs.any fun p=>decide (p.1=k))=(kvs.map (·.1)).any fun x=>decide (x=k):=by rw[any_map];rfl
 rw[e1,e2,r.1]
theorem KK.repl(k:FA){d:Dt}{v:V}(g:cj K H ρ d v):∀{kvs:List (FA×Dt)}{vs:List (FA×V)},KK K H ρ kvs vs->
 KK K H ρ (kvs.map fun p=>if p.1=k then(p.1,d)else p) (vs.map fun p=>if p.1=k then(p.1,v)else p)
 | [],_,r=>by rw[r.Qj];exact⟨rfl,.nil⟩
 | p::kvs,_,r=>by
  obtain⟨u,rs,rfl,g',r'⟩:=r.Cj;rw[Zr,Zr];by_cases c:p.1=k
  · rw[if_pos c,if_pos c];exact KK.cons (p:=(p.1,d)) g (KK.repl k g r')
  · rw[if_neg c,if_neg c];exact KK.cons g' (KK.repl k g r')
theorem KK.put(k:FA){d:Dt}{v:V}(g:cj K H ρ d v){kvs:List (FA×Dt)}{vs:List (FA×V)}(r:KK K H ρ kvs vs):KK K H ρ (wG kvs k d) (WD vs k v):=by
 unfold wG WD;rw[r.any k];split
 · exact r.repl k g
 · refine⟨by rw[map_append,map_append,r.1];rfl,?_⟩;rw[map_append,map_append];exact r.2.append (.cons g .nil)
theorem KK.drop(k:FA):∀{kvs:List (FA×Dt)}{vs:List (FA×V)},KK K H ρ kvs vs->KK K H ρ (OF kvs k) (MF vs k)
 | [],_,r=>by rw[r.Qj];exact⟨rfl,.nil⟩
 | p::kvs,_,r=>by
  obtain⟨u,rs,rfl,g',r'⟩:=r.Cj;unfold OF MF;by_cases c:p.1=k
  · rw[filter_cons_of_neg (by simpa using c),filter_cons_of_neg (by simpa using c)];exact KK.drop k r'
  · rw[filter_cons_of_pos (by simpa using c),filter_cons_of_pos (by simpa using c)];exact KK.cons g' (KK.drop k r')
theorem KK.ext{ρ':Rg}{H':Hp}{kvs:List (FA×Dt)}{vs:List (FA×V)}(r:KK K H ρ kvs vs)(x:Ext ρ ρ' H H'):KK K H' ρ' kvs vs:=⟨r.1,r.2.ext x⟩
theorem KL{a:Addr}{kvs:List (FA×V)}(h:H a=some (.dK kvs)):vQ H a:=fun _ _ e=>by rw[h]at e;cases e
theorem pI{h:HI}(S:gj K ρ h H){d:Dt}{v:V}{kvs:List (FA×Dt)}(e:yD h d=some kvs)(r:cj K H ρ d v):∃a vs,v=.ref a/\H a=some (.dK vs)/\KK K H ρ kvs vs:=by
 cases d with
 | ref n=>
  simp only[yD]at e;split at e
  · rename_i kv q;cases e;obtain⟨a,z,ha⟩:=wj.mp r;obtain⟨vs,g1,g2⟩:=S.ob n a _ ha q;exact⟨a,vs,z,g1,g2⟩
  · cases e
 | _=>cases e
end
section
variable{X:Cx}{e o i d a b f:Expr}{fe fo fi fa fb fy fx:RE}{pos pos' apos cpos:Pos}
theorem ZK:EM X (.Dict [] [] pos) gH:=by with_unfolding_all exact PE.imp oZ fun σ H Q zz=>by obtain⟨ρ,l,h,d,h',S,L,e,k⟩:=zz;cases e;intro p hp;refine k (ρ.add p) _ _ (wj.mpr ⟨p,rfl,?_⟩) (S.own hp ⟨[],KB,rfl,.nil⟩) (Ext.own hp);simp only[Rg.add];rw[<- S.len,Jf (Hf _),Nat.sub_self];rfl
theorem mP(hu:X.A.units+64<cLine)(ho:EM X o fo)(hy:EM X i fy)(hs:SL i:=by intro _ _;rfl):EM X (.Subscript o i pos) (JJ fo fy):=by with_unfolding_all exact PE.imp (M4 (by omega) ho hy hs) fun σ H Q zz=>by obtain⟨ρ,l,h,dd,h',S,L,e,k⟩:=zz;obtain⟨⟨d1,h1⟩,e1,e⟩:=kA e;obtain⟨⟨d2,h2⟩,e2,e⟩:=kA e;obtain⟨ky,e3,e⟩:=kA e;obtain⟨kvs,e4,e⟩:=kA e;obtain⟨d4,e5,e⟩:=Option.map_eq_some_iff.mp e;cases e;refine⟨ρ,l,h,d1,h1,S,L,e1,fun ρ1 x H1 R1 S1 E1=>⟨ρ1,l,h1,d2,_,S1,L.ext E1,e2,fun ρ2 y H2 R2 S2 E2=>?_⟩⟩;obtain⟨a,vs,z,g1,g2⟩:=pI S2 e4 (cj.ext E2 _ R1);obtain⟨v,e6,r6⟩:=(g2.val ky).1 _ e5;refine⟨a,v,z,?_,k ρ2 _ H2 r6 S2 (E1.trans E2)⟩;rw[uJ e3 R2,<- e6];exact jx.k g1
theorem rP(hu:X.A.units+64<cLine)(he:EM X e fe)(ho:EM X o fo)(hi:EM X i fi)(hs:swapsWith e (some (.Subscript o i pos')) pos.line X.env=pure false:=by rfl) :
 ZM X (.Assign [.Subscript o i pos'] e pos) (wI fe fo fi):=by
 with_unfolding_all
  exact PS.imp (Y4 (by omega) ho hi he hs) fun D σ H zz=>by
   obtain⟨ρ,l,h,r,S,L,e,k⟩:=zz;obtain⟨⟨v,hv⟩,e1,e⟩:=kA e;obtain⟨⟨d,hd⟩,e2,e⟩:=kA e;obtain⟨⟨j,hj⟩,e3,e⟩:=kA e;obtain⟨ky,e4,e⟩:=kA e;refine⟨ρ,l,h,v,hv,S,L,e1,fun ρ1 u H1 R1 S1 E1=>⟨ρ1,l,hv,d,hd,S1,L.ext E1,e2,fun ρ2 y H2 R2 S2 E2=>⟨ρ2,l,hd,j,hj,S2,L.ext (E1.trans E2),e3,fun ρ3 z H3 R3 S3 E3=>?_⟩⟩⟩;cases d with
   | ref n=>
    dsimp only at e;split at e
    · rename_i kvs q;obtain⟨hz,e⟩:=ME e;cases e;obtain⟨aa,zz,ha⟩:=wj.mp (cj.ext E3 _ R2);obtain⟨vs,g1,g2⟩:=S3.ob n aa _ ha q;have hm:=mem_of_getElem? ha;have g3:KK X.K H3 ρ3 kvs vs:=g2;refine⟨aa,_,zz,by rw[uJ e4 R3];exact Gz.k g1 (by rw[g3.length];exact hz),?_⟩;exact k ρ3 σ _ (S3.write ha (KL g1) ⟨_,KB,(g3.put ky (cj.ext (E2.trans E3) _ R1)).ext (Ext.write hm (KL g1))⟩) (L.ext (E1.trans (E2.trans (E3.trans (Ext.write hm (KL g1)))))) (E1.trans (E2.trans (E3.trans (Ext.write hm (KL g1)))))
    · cases e
   | _=>cases e
theorem HS (ho:EM X o fo) (hy:EM X e fy) (m:M1 X o "pop" apos e cpos:=by exact⟨rfl,rfl,rfl,rfl⟩):EM X (.Call (.Attribute o "pop" apos) [e] [] cpos) (KJ fo fy):=by
 with_unfolding_all
  exact PE.imp (pZ ho hy m) fun σ H Q zz=>by
   obtain⟨ρ,l,h,dd,h',S,L,e,k⟩:=zz;obtain⟨⟨d1,h1⟩,e1,e⟩:=kA e;refine⟨ρ,l,h,d1,h1,S,L,e1,fun ρ1 x H1 R1 S1 E1=>?_⟩;cases d1 with
   | ref n=>
    dsimp only at e;split at e
    · rename_i Lg q0;obtain⟨⟨y,h2⟩,e2,e⟩:=kA e;obtain⟨ky,e3,e⟩:=kA e;dsimp only at e;split at e
      · rename_i kvs q;obtain⟨d4,e5,e⟩:=Option.map_eq_some_iff.mp e;cases e;obtain⟨aa,z,ha⟩:=wj.mp R1;obtain⟨Fz,g0,_⟩:=S1.ob n aa _ ha q0;refine⟨aa,z,.inl ⟨Fz,.inl g0⟩,ρ1,l,h1,y,h2,S1,L.ext E1,e2,fun ρ2 y2 H2 R2 S2 E2=>?_⟩;have ha2:=E2.get ha;obtain⟨vs,g1,g2⟩:=S2.ob n aa _ ha2 q;have g3:KK X.K H2 ρ2 kvs vs:=g2;obtain⟨v,e6,r6⟩:=(g3.val ky).1 _ e5;have hm:=mem_of_getElem? ha2;have EW:=Ext.write (o:=.dK (MF vs ky)) hm (KL g1);exact⟨vs,ky,v,g1,uJ e3 R2,e6,k ρ2 _ _ (cj.ext EW _ r6) (S2.write ha2 (KL g1) ⟨_,KB,(g3.drop ky).ext EW⟩) (E1.trans (E2.trans EW))⟩
      · cases e
    · cases e
   | _=>cases e
end
end SM
namespace L2
open PySem.W
def XG(K:Frag)(C:Addr):Bool:=match K.lookup C with
 | some ⟨.type "type",_,.cls cd,sl⟩=>(match cd.mro,sl.toList with
  | .ref D::bm,[_,_,_,_,some (.builtin n),_]=>D==C&&(n == "ValueError.__new__" && (!cd.hasDel&&(tailIn K mK bm&&(nsOkIn K cd.ns&&nsIn K cd.ns "__init__" ==some none))))
  | _,_=>false)
 | _=>false
theorem j0{K:Frag}{h:Heap}{N:Addr}{m:Str->Option Value}{n:Str}(X:K.In h)(G:h.Ns N m)(e:nsIn K N n=some none):m n=none:=by
 obtain⟨o,es,ep,ho,hd,_,hf⟩:=G;unfold nsIn at e;split at e
 · rename_i q;have z:=X _ _ q;rw[ho]at z;cases z;cases hd;split at e
   · cases e
   · rename_i he;rw[<- hf];unfold nsFind findBy;rw[<- Array.find?_toList,he];rfl
 · cases e
theorem Y0{K:Frag}{h:Heap}{C:Addr}(X:K.In h)(q:XG K C=true):∃nm qn N bs bm hd sn sub ab col dd k0 k1 k2 k3 k5,∃mN:Str->Option Value,
 h.get? C=some (excClassObj nm qn C N bs bm hd sn sub ab col dd k0 k1 k2 k3 k5 "ValueError.__new__")/\h.Ns N mN/\mN "__init__" =none/\OwnTail h mK bm:=by
 unfold XG at q;split at q
 · rename_i dd cd sl ho;split at q
   · rename_i D bm k0 k1 k2 k3 n k5 hm hs;simp only[Bool.and_eq_true,beq_iff_eq,Bool.not_eq_true']at q;obtain⟨rfl,rfl,hdel,ht,hok,hni⟩:=q;obtain⟨nm,bs,mro,ns,qn,hd,sn,sub,ab,col,del⟩:=cd;dsimp only at hm hdel hok hni;subst hm hdel;obtain⟨sl⟩:=sl;dsimp only at hs;subst hs;exact⟨nm,qn,ns,bs,bm,hd,sn,sub,ab,col,dd,k0,k1,k2,k3,k5,_,X _ _ ho,.of_isNs (isNs_of_in X hok),j0 X (.of_isNs (isNs_of_in X hok)) hni,tail_of_in X ht⟩
   · cases q
 · cases q
section
variable{P:Program}{w:World}{A:Around}{E:Value->Shared->Prop}{h:Heap}{g:Array GenState}{d:Drawn}{t:Nat}{os:OsState}
variable{nm q:Str}{C N:Addr}{bs bm bt:List Value}{hd:Bool}{sn:List Str}{sub:List Value}{ab:Bool}{col:Option Bool}{dd:Option Addr}{k0 k1 k2 k3 k5:Option Value}{B nw ini:String}
theorem QY (F:ExcBaseFacts B nw ini bt) (T:OwnTail h bt bm) {mN:Str->Option Value} {us:List Value} {Q:Fin->Shared->Prop} (hC:h.get? C=some (excClassObj nm q C N bs bm hd sn sub ab col dd k0 k1 k2 k3 k5 nw)) (hn:h.Ns N mN) (hi:mN "__init__" =none)
 (go:∀h' t0,(∀b o,h.get? b=some o->h'.get? b=some o)->h'.get? (h.objs.size+1)=some (yG C t0 none)->Q (.done (.ret (.ref (h.objs.size+1)))) ⟨h',g,d,t,os⟩) (hz:us.length<=sizeLine:=by size_fits) :
 wpAny (model P w) A (Builtin.«type.__call__» ⟨.ref C::us,[]⟩) Q E ⟨h,g,d,t,os⟩:=by
 repeat (first | with_reducible refine wpAny_loadPart_at hC ?_ | with_reducible refine wpAny_madeBy_exc hC ?_ | wp_step)
 refine codeAny_call_builtin_code (Code.quiet_builtin _ F.quiet) (wpAny_check_new_subT F T hC (codeAny_exc_new_subT F T hC ?_ hz));show wpAny _ _ _ _ _ _;have c1:(nF h C us).get? C=some _:=zF hC;have n1:(nF h C us).Ns N mN:=let ⟨o,es,ep,e,r⟩:=hn;⟨o,es,ep,zF e,r⟩;have i1:(Value.ref C::bm).contains (.ref C)=true:=by simp
 have x1:=mO (h:=h) (C:=C) (us:=us);have T1:=T.keeps (h':=nF h C us) fun b o e=>zF e
 unfold isInstance
 repeat (first | with_reducible refine wpAny_loadPart_at x1 ?_ | (with_reducible refine wpAny_isSubtype_exc c1 ?_;rw[i1]) | wp_step)
 show wpAny _ _ (typeLookup (.ref C) _) _ _ _;refine wpAny_typeLookup_tail c1 n1 T1 F.mroIs F.init.lookup ?_;rw[hi];refine wpAny_holding (wpAny_bind (wpAny_of_eq (F.init.bind _) (wpAny_bind (wpAny_call (codeAny_call_builtin F.init.plain F.initEntry (wpAny_check_init_subT F T1 c1 x1 rfl ?_))))))
 wp_walk
 refine go _ (h.objs.size+2) (fun b o hb=>?_) ?_
 · rw[Heap.get?_update_other _ _ (Nat.ne_of_gt (Nat.lt_succ_of_lt (Heap.lt_size hb)))];exact Heap.get?_push_of_some _ (zF hb)
 · rw[Heap.get?_update_self _ (Heap.get?_push_of_some _ x1) rfl];simp only[Heap.size_push];rfl
theorem oY (F:ExcBaseFacts B nw ini bt) (T:OwnTail h bt bm) {mN:Str->Option Value} {us:List Value} {Q:Value->Shared->Prop} (hC:h.get? C=some (excClassObj nm q C N bs bm hd sn sub ab col dd k0 k1 k2 k3 k5 nw)) (hn:h.Ns N mN) (hi:mN "__init__" =none)
 (go:∀h' t0,(∀b o,h.get? b=some o->h'.get? b=some o)->h'.get? (h.objs.size+1)=some (yG C t0 none)->Q (.ref (h.objs.size+1)) ⟨h',g,d,t,os⟩) (hz:us.length<=sizeLine:=by size_fits):wpAny (model P w) A (call (.ref C) us) Q E ⟨h,g,d,t,os⟩:=by
 have f1:=tc_lookup;have f2:=tc_bind (.ref C);have hT:(⟨h,g,d,t,os⟩:Shared).TypeIs (.ref C) "type" :=⟨_,hC,rfl⟩;refine wpAny_call (codeAny_of_tree ?_);show wpAny _ _ (callAny (.ref C) _) _ _ _
 repeat (any_goals (first | assumption | with_reducible refine wpAny_loadPart_at hC ?_ | wp_step))
 exact⟨rfl,codeAny_call_builtin_at (Code.quiet_builtin _ (by decide +kernel)) entry_typeCall (wpAny_check_type_call_sub hC (QY F T hC hn hi go hz))⟩
end
def V3(C:Addr)(t:TA):TE:=fun σ H Q=>t σ H fun vs H1=>vs.length<=100/\∀a t0,H1 a=none->Q (.ref a) (VA H1 a (XO a C t0 none))
section
variable{X:Cx}{C:Addr}{x:Str}{p pos:Pos}{e:Expr}{es:List Expr}{t:TA}
theorem dZ(M:XG X.K C=true)(kp:keepIn X.K (.ref C)=true)(hg:Gl X x)(hm:X.mg x=some (.ref C))
 (ha:PA X (e::es) t) (hdb:(x==("__debug__" :Str))=false:=by decide) (he:starEach (e::es) X.env=(false,eval e X.env)::starEach es X.env:=by rfl) (hpl:(backTo pos (starEach es X.env)).any (·.1)=false:=by rfl) :
 PE X (.Call (.Name x p) (e::es) [] pos) (V3 C t):=by
 intro pins s σ H Q I h;refine wpAny_Call_Name_kw (dG I hg hm ?_ hdb);refine PySem.W.callWith_K (h₀:=X.base) I.ok.mod.Iv kp (WA (ha pos pins s σ H _ I h) fun us s1 ⟨vs,H1,I1,r,hl,q⟩=>⟨I1.Aq,?_⟩) he hpl;obtain⟨nm,qn,N,bs,bm,hd,sn,sub,ab,col,dd,k0,k1,k2,k3,k5,mN,hC,hn,hi,T⟩:=Y0 I1.Aq M;obtain⟨hp,g,d,tk,os⟩:=s1;refine oY PySem.F.excBase_ValueError T hC hn hi (fun h' t0 Kg ho=>?_) (by rw[Af,<- r.length,sizeLine_eq];omega);exact⟨.ref (hp.objs.size+1),_,I1.laid (a:=hp.objs.size+1) (o:=XO (hp.objs.size+1) C t0 none) (h':=h') (t':=tk) (fun b u z=>Kg b u z) (Nat.le_succ _) (BL ho),rfl,q _ t0 (I1.hok.fresh (Nat.le_succ _))⟩
end
end L2
namespace SM
noncomputable def VJ (x:Str) (g:RE):RS:=fun l h=>(g l h).map fun r=>.rt (.thr x "" (.inl 0)) r.2
structure ZJ(K:Frag)(mg:Str->Option Value)(x:Str):Prop where
 ex:∃C,clsOf K x C/\XG K C=true/\keepIn K (.ref C)=true/\mg x=some (.ref C)
section
variable{X:Cx}{E:XK}{x:Str}{e:Expr}{g:RE}{p pos pos':Pos}
theorem IR (ec:ZJ X.K X.mg x) (cm:X.calm=true) (hg:Gl X x) (ha:EM (xw X E) e g) (ht:∀C,nsIn X.K mainGlobals x=some (some (.ref C))->sD X.K C=true) (hdb:(x==("__debug__" :Str))=false:=by decide) (he:oB e=true:=by rfl) :
 ZX X E (.Raise (some (.Call (.Name x p) [e] [] pos)) none pos') (VJ x g):=by
 with_unfolding_all obtain⟨C,c1,c2,c3,c4⟩:=ec.ex;exact PS.imp (eS (S:=fun _ _=>True) cm (dZ (X:=xw X E) c2 c3 hg c4 (FC ha tD (pB he _ _)) hdb (pB he _ _) rfl)) fun D σ H zz=>by obtain⟨ρ,l,h,r,S,L,e,k⟩:=zz;obtain⟨⟨d1,h1⟩,e1,e⟩:=Option.map_eq_some_iff.mp e;cases e;refine⟨fun _=>trivial,ρ,l,h,d1,h1,S,L,e1,fun ρ1 v H1 R1 S1 E1=>⟨by show 1<=100;decide,fun a t0 ha=>⟨a,C,t0,none,rfl,KB,ht C c1,?_⟩⟩⟩;rw[pP];exact k ρ1 C none _ c1 (.inl ⟨rfl,rfl⟩) (S1.fresh ha) (E1.trans (Ext.fresh ha))
end
structure nG(P:Program)(w:World)(K:Frag)(mg:Str->Option Value)(base:Heap)(k n:Nat)(x m:Str)(F:kB):Prop where
 ex:∃C f fd ps,clsOf K x C/\Cls K C/\pF K C m f/\Oj P w K mg base (mH P w) k f fd ps (QQ K n F)/\Binds K fd ps []
 len:∀ds h r,F ds h=some r->ds.length=n
section
variable{P:Program}{w:World}{K:Frag}{mg:Str->Option Value}{base:Heap}
theorem xO{x m qual:Str}{st:Stmt}{N ps:List Str}{k n mm:Nat}{body:RS}(D:gG K x m qual st ps)(S:YA N ps (sA st))(hn:ps.length=n)(hm:N.length=mm)
 (hb:∀(f:Addr)(cdv:Value)(A:Around)(outer:List Env)(s:Shared)(H:Hp)(E:XK),Hj k (A.deeper (envOfC qual (sA st) s.heap.objs.size f cdv))->
  EI (mC (mH P w) P w K mg base N qual (sA st) f cdv A outer s H E) E (LB st) body):nG P w K mg base (k+1) n x m (FB n mm body):=by
 with_unfolding_all subst hn hm;obtain⟨C,f,fd,c1,c2,c3,hF,hB⟩:=D.ex;exact⟨⟨C,f,fd,ps,c1,c2,c3,D3 hF S fun cdv A outer s H E hr=>hb f cdv A outer s H E hr,hB⟩,fun ds h r e=>tJ e⟩
end
noncomputable def UJ(i:Nat)(f:RE):RS:=fun l h=>(f l h).map fun r=>match r.1 with
 | .thr x f y=>.rt (.thr x f y) r.2
 | d=>.nx (l.set i (some d)) r.2
noncomputable def WJ(f:RE)(tab:List Str)(i j:Nat):RS:=fun l h=>(f l h).bind fun q=>match q.1 with
 | .thr x f y=>if x∈tab then some (.nx ((l.set i (some (.err x f y))).set j none) q.2)else none
 | _=>some (.nx l q.2)
section
variable{X:Cx}{K:Frag}{x m:Str}{F:kB}{fo:RE}{g:RA}{C:Addr}{nn:Nat}
theorem ZR{E:XK}{σ:L2.St}{H:Hp}{Q:VK}{ρ:Rg}{l:LI}{h:HI}{d:Dt}{h':HI}(c1:clsOf K x C)(len:∀ds h r,F ds h=some r->ds.length=nn)(S:gj K ρ h H)(L:Jj K H ρ l σ)(e:nE x m F fo g l h=some (d,h'))
 (k:Tq K ρ H Q E d h'):XJ C m (QQ K nn F) [] E (tM K fo) (IV K g) σ H Q:=by
 obtain⟨⟨d1,h1⟩,e1,e⟩:=kA e;refine⟨ρ,l,h,d1,h1,S,L,e1,fun ρ1 v H1 R1 S1 E1=>?_⟩;cases d1 with
 | ref n=>
  dsimp only at e;split at e
  · rename_i y fs q;obtain⟨⟨hy,hl⟩,e3⟩:=yH e;subst hy;obtain⟨⟨ds,h2⟩,e2,e4⟩:=kA e3;obtain⟨a,z,ha⟩:=wj.mp R1;obtain⟨C',dx,vs,c1',g1,g2,g3⟩:=S1.ob n a _ ha q;have cc:C'=C:=clsOf.inj c1' c1;subst cc;refine⟨a,dx,vs,z,g1,(eL g2 g3).2 hl,ρ1,l,h1,ds,h2,S1,L.ext E1,e2,fun ρ2 us H2 R2 S2 E2=>?_⟩;exact⟨ρ2,_,h2,d,h',S2,.cons (cj.ext E2 _ R1) (by rw[Kf];exact R2),len _ _ _ e4,e4,(k.ext E1).ext E2⟩
  · cases e
 | _=>cases e
end
section
variable{X:Cx}{E:XK}{k k' nn:Nat}{F:kB}{y m:Str}{fo:RE}{g:RA}{i j:Nat}{x n cn:Str}{apos p1 px pn pa pc ph pos pos' cpos:Pos}{o e:Expr}{es:List Expr}{tab:List Str}
theorem JT{pl:Sem Bool}(c:nG X.prog X.w X.K X.mg X.base k nn y m F)(hr:Hj k' X.A)(hk:k<=k')(ho:EM (xw X E) o fo)(ha:AM (xw X E) (e::es) g)(hN:X.N.Nodup)(i:Nat)(hi:X.N[i]?=some x:=by rfl)(hx:aK X.env.scope x:=by first | exact Or.inl rfl | exact Or.inr rfl)
 (hs:swapsWith (.Call (.Attribute o m apos) (e::es) [] cpos) (some (.Name x pos')) pos.line X.env=pure false:=by rfl) (hf:X.fn x=true\/X.env.scope.names.lookup x=some .local:=by first | exact .inl rfl | exact .inr rfl | assumption) (he:oB e=true:=by rfl) (hpl:es.all oB=true:=by rfl)
 (ht:eval (.Call (.Attribute o m apos) (e::es) [] cpos) X.env=(do
  let ov <- eval o X.env
  standAt apos.atName
  let (f,first) <- holding [ov] (getMethod ov m pl)
  callWith cpos f first (backTo cpos (starEach (e::es) X.env)) (backToKw cpos (keywordEach [] X.env))):=by rfl) :
 ZX X E (.Assign [.Name x pos'] (.Call (.Attribute o m apos) (e::es) [] cpos) pos) (UJ i (nE y m F fo g)):=by
 with_unfolding_all
  obtain⟨C,f,fd,ps,c1,c2,c3,c4,c5⟩:=c.ex;exact PS.imp (LP (X:=xw X E) hN hi hx (P4 (X:=xw X E) (pl:=pl) ho c2 c3 c4 (hr.mono hk) c5 .nil (E:=E) VX ha (pB he _ _) (SH hpl) ht) hs hf) fun D σ H zz=>by
   obtain⟨ρ,l,h,r,S,L,e,k⟩:=zz;obtain⟨⟨d,h'⟩,e1,e⟩:=Option.map_eq_some_iff.mp e;refine ZR c1 c.len S L e1 ?_;cases d with
   | thr a b z=>cases e;exact k
   | _=>cases e;exact fun ρ1 v H1 R1 S1 E1=>k ρ1 _ H1 S1 ((L.ext E1).set i R1) E1
theorem sP{pl:Sem Bool}(c:nG X.prog X.w X.K X.mg X.base k nn y m F)(tc:CQ X.K X.mg cn tab)(B:bI X)(hr:Hj k' X.A)(hk:k<=k')(ho:∀xe,EM (X.wish xe) o fo)(ha:∀xe,AM (X.wish xe) (e::es) g)
 (hg:Gl X cn) (hN:X.N.Nodup) (hi:X.N[i]?=some x:=by rfl) (hj:X.N[j]?=some n:=by rfl) (hij:i≠j:=by decide) (kx:X.env.scope.names.lookup x=some .local:=by rfl) (kn:X.env.scope.names.lookup n=some .local:=by rfl)
 (hw:swapsWith (.Call (.Attribute o m apos) (e::es) [] cpos) none p1.line X.env=pure false:=by rfl) (hs:swapsWith (.Name n pn) (some (.Name x px)) pa.line X.env=pure false:=by rfl) (hdc:(cn==("__debug__" :Str))=false:=by decide) (hd1:(n==("__debug__" :Str))=false:=by decide) (hd2:(n==("__classdict__" :Str))=false:=by decide)
 (he:oB e=true:=by rfl) (hpl:es.all oB=true:=by rfl)
 (ht:eval (.Call (.Attribute o m apos) (e::es) [] cpos) X.env=(do
  let ov <- eval o X.env
  standAt apos.atName
  let (f,first) <- holding [ov] (getMethod ov m pl)
  callWith cpos f first (backTo cpos (starEach (e::es) X.env)) (backToKw cpos (keywordEach [] X.env))):=by rfl) :
 ZM X (.Try [.Expr (.Call (.Attribute o m apos) (e::es) [] cpos) p1] [.ExceptHandler (some (.Name cn pc)) (some n) [.Assign [.Name x px] (.Name n pn) pa] ph] [] [] pos) (WJ (nE y m F fo g) tab i j):=by
 with_unfolding_all
  obtain⟨C0,hm,hT⟩:=tc.ex;obtain⟨C,f,fd,ps,c1,c2,c3,c4,c5⟩:=c.ex;exact PS.imp (C6 (tc:=fun E=>XJ C m (QQ X.K nn F) [] E (tM X.K fo) (IV X.K g)) B (fun xe pins σ E hx s H Q I h=>B0 (X:=X.wish xe) (pl:=pl) (ho xe) c2 c3 c4 (hr.mono hk) c5 .nil hx (ha xe) I h (pB he _ _) (SH hpl) ht) hg hm hN hi hj hij kx kn hw hs hdc hd1 hd2) fun D σ H zz=>by
   obtain⟨ρ,l,h,r,S,L,e,k⟩:=zz;obtain⟨⟨d,h2⟩,e2,e⟩:=kA e;refine ZR c1 c.len S L e2 ?_;cases d with
   | thr a fl z=>
    dsimp only at e;split at e
    · rename_i yt;cases e;intro ρ' C' dx H' hc hd S' E';refine⟨hT a yt C' hc,fun b vh=>k ρ' _ H' S' (((L.ext E').set i ?_).unset j) E'⟩;refine Yj.mpr ⟨b,C',dx,rfl,hc,S'.Jv vh (.inl ⟨_,rfl⟩),vh,?_⟩;rcases hd with hd | ⟨b',hd,hb⟩
      · exact .inl hd
      · exact .inr ⟨b',hd,S'.Jv hb (.inr ⟨_,rfl⟩),hb⟩
    · cases e
   | _=>cases e;exact fun ρ' v H' R' S' E'=>k ρ' σ H' S' (L.ext E') E'
end
end SM
namespace L2
noncomputable def AQ(a:Addr)(o:Obj):It:=
 ⟨fun i H=>∃kvs p,H a=some (.Qq o (.dK kvs))/\kvs[i]?=some p,
  fun i H x H'=>H'=H/\∀kvs,H a=some (.Qq o (.dK kvs))->∃k,kvs[i]?=some (k,x),
  fun i H=>∃kvs,H a=some (.Qq o (.dK kvs))/\kvs.length<=i⟩
section
variable{prog:Program}{w:World}{A:Around}{E:Value->Shared->Prop}{s:Shared}
theorem OS{d:Addr}{kvs:List (FA×Value)}{R:Value->Shared->Prop}(hm:s.heap.DictOf (WB prog w) d kvs)(nm:(d==sysModules)=false)
 (q:R (.ref s.heap.objs.size) { s with heap:=s.heap.push { cls:=.type "dict_values",data:=.fields #[.ref d] } }):wpAny (model prog w) A (call (.builtin "dict.values") [.ref d]) R E s:=by
 exact call_meetsIn PySem.F.slot_dict_values hm.typeIs PySem.F.entry_dict_values (PySem.F.args_dict_values_1 _) (meets_dict_values (WB prog w) d nm) ⟨⟨kvs,hm⟩,q⟩
end
theorem mZ{P:Program}{w:World}{K:Frag}{tg:Expr}(a it:Addr){o:Obj}{es:Array DictEntry}{ep:Nat}(gt:o.data=.dict es ep) :
 rH P w K tg (AQ a o) [it] it (fun i h=>h.IsValIter it a i es.size ep) where
 mem:=by simp
 obj:=fun i h st b hb=>by rw[mem_singleton.mp hb];obtain⟨o,e,c,d⟩:=st;exact⟨o,e,fun v z=>by rw[d]at z;cases z⟩
 keep:=fun i h h' st k=>by obtain⟨o,e,r⟩:=st;exact⟨o,k it (by simp) o e,r⟩
 item:=by
  intro X hP hw hK hc i pins s σ H E I hf st hg;subst hP hw hK;obtain⟨kvs,p,e,hp⟩:=hg;obtain⟨go,z,y,vs,r,ob,es',ep',h1,h2,h3,h4,h5,h6⟩:=(show Dj X.prog X.w H s.heap a (.Qq o (.dK kvs))from I.hok a _ e);rw[go]at h1;cases h1;rw[gt]at h3;cases h3;obtain⟨f0,f1,f2,f3,f4,f5⟩:=hf it (by simp);obtain⟨q,hq,rk,rv⟩:=Paired.Rq r hp;have sz:es.size=vs.length:=by rw[<- h5.length];simp
  refine wpAny_pyNext_values_item (knd:=WB X.prog X.w) (kvs:=vs) (sz ▸ st) ⟨o,es,go,h2,gt,h4,h5,h6⟩ hq fun h' st' sb=>?_
  have I1:Inv X pins σ H { s with heap:=h' }:=I.turned (t':=s.toks) (fun b o hb e=>(sb.2 b hb).trans e) f0 f1 f3 f4 f5;obtain⟨oi,ei,ci,di⟩:=id st';exact⟨q.2,rfl,gQ (s:={ s with heap:=h' }) ei ci di (by decide) ⟨p.2,H,I1,rv,⟨rfl,fun kvs' e'=>by rw[e]at e';cases e';exact⟨p.1,hp⟩⟩,sz ▸ st',fun b hb=>(hf b hb).1⟩⟩
 done:=by
  intro X hP hw hK hc i pins s σ H E I hf st hg;subst hP hw hK;obtain⟨kvs,e,hp⟩:=hg;obtain⟨go,z,y,vs,r,ob,es',ep',h1,h2,h3,h4,h5,h6⟩:=(show Dj X.prog X.w H s.heap a (.Qq o (.dK kvs))from I.hok a _ e);rw[go]at h1;cases h1;rw[gt]at h3;cases h3;obtain⟨f0,f1,f2,f3,f4,f5⟩:=hf it (by simp);have sz:es.size=vs.length:=by rw[<- h5.length];simp
  have hl:vs[i]?=none:=by rw[getElem?_eq_none_iff,<- KV.length r];exact hp
  exact wpAny_pyNext_values_end (knd:=WB X.prog X.w) (kvs:=vs) (I.ok.hd hc) (sz ▸ st) ⟨o,es,go,h2,gt,h4,h5,h6⟩ hl fun h' eb=>⟨rfl,I.turned (t':=s.toks) (fun b o hb e=>eb b o hb e) f0 f1 f3 f4 f5⟩
 self:=fun _ _ _ _ _ st h=>wpAny_pyIter_valiter st h
section
variable{X:Cx}{pins:List (Addr×Obj)}{σ:St}{H:Hp}{s:Shared}{a:Addr}{o:Obj}{kvs:List (FA×V)}
theorem Inv.Uz(I:Inv X pins σ H s)(e:H a=some (.dK kvs))(go:s.heap.get? a=some o):Inv X pins σ (VA H a (.Qq o (.dK kvs))) s:=by
 refine kJ (t':=s.toks) I (by rw[e];exact True.intro) (Heap.SameBut.refl _ _) ⟨o,go⟩ ⟨go,?_⟩;refine Dj.stay (show Dj X.prog X.w H s.heap a (.dK kvs)from I.hok a _ e) (fun _ _ _ g=>g) (fun b q=>?_) fun b ys q=>?_
 · rw[UA (VP q e (fun z=>nomatch z))];exact q
 · rw[UA (VP q e (fun z=>nomatch z))];exact q
def oV(td:TE):TI:=fun σ H R=>td σ H fun x H1=>∃a,x=.ref a/\((∃kvs,H1 a=some (.dK kvs)/\∀o,R (AQ a o) (VA H1 a (.Qq o (.dK kvs))))\/∃o kvs,H1 a=some (.Qq o (.dK kvs))/\R (AQ a o) H1)
theorem gZ {tg d:Expr} {td:TE} {apos cpos:Pos} (ho:PE X d td) (hbase:attributeBase d "values" X.env (eval d X.env)=eval d X.env:=by rfl) (hline:(apos.endLine==cpos.line)=true:=by rfl) :
 PI X tg (.Call (.Attribute d "values" apos) [] [] cpos) (oV td):=by
 intro pins s σ H R I h;refine wpAny_Call_method0_late hbase hline (WA (ho pins s σ H _ I h) fun v s1 zz=>?_);obtain⟨x,H1,I1,r1,a,ex,q⟩:=zz;subst ex;obtain rfl:v=Value.ref a:=r1;have dd:WU H1 a:=by
  rcases q with⟨kvs,e,_⟩ | ⟨o,kvs,e,_⟩
  · exact .inl ⟨kvs,.inl e⟩
  · exact .inl ⟨kvs,.inr ⟨o,e⟩⟩
 obtain⟨t1,t2,t3⟩:=FP I1 dd;have base:∀(o:Obj)(es:Array DictEntry)(ep:Nat)(vs:List (FA×Value))(H2:Hp),s1.heap.get? a=some o->o.ExactDict->o.data=.dict es ep->KeysOf (WB X.prog X.w) es->Pairs (WB X.prog X.w) es.toList vs->(vs.map (·.1)).Nodup->Inv X pins σ H2 s1->R (AQ a o) H2->
  wpAny (model X.prog X.w) X.A (call (.builtin "dict.values") [.ref a]) (fun v s1=>wpAny (model X.prog X.w) X.A (pyIter v) (aV X pins σ tg R) X.xe s1) X.xe s1:=by
  intro o es ep vs H2 go gx gt gk gp gn I2 q2;refine OS (kvs:=vs) ⟨o,es,ep,go,gx,gt,gk,gp,gn⟩ t3 ?_;have sz:es.size=vs.length:=by rw[<- gp.length];simp
  have I3:Inv X pins σ H2 { s1 with heap:=s1.heap.push { cls:=.type "dict_values",data:=.fields #[.ref a] } }:=I2.kept (t':=s1.toks) fun b u g=>Heap.get?_push_of_some _ g
  refine wpAny_pyIter_values (knd:=WB X.prog X.w) (kvs:=vs) (ep:=ep) ⟨_,Heap.get?_push_size _ rfl,rfl,rfl⟩ ⟨o,es,Heap.get?_push_of_some _ go,gx,gt,gk,gp,gn⟩ ?_;have I4:=I3.kept (t':=s1.toks) (h':=(s1.heap.push { cls:=.type "dict_values",data:=.fields #[.ref a] }).push { cls:=.type "dict_valueiterator",data:=.fields #[.ref a,.int 0 0,.int vs.length 0,.int ep 0] }) fun b u g=>Heap.get?_push_of_some _ g
  refine⟨_,[_],_,_,H2,rfl,I4,mZ a _ gt,⟨_,Heap.get?_push_size _ rfl,rfl,by rw[sz];rfl⟩,fun c hc=>?_,q2⟩;rw[mem_singleton.mp hc];exact I3.Iz (Hf _) (I3.hok.fresh (Hf _))
 refine⟨"dict", "dict.values",PySem.F.plainAttrs_dict,PySem.F.slot_dict_values,PySem.F.type_dict_values,t1,t2,Calls.callWith_builtin rfl (PySem.evalArgs_none ?_)⟩;rcases q with⟨kvs,e,q⟩ | ⟨o,kvs,e,q⟩
 · obtain⟨_,_,vs,_,o,es,ep,h1,h2,h3,h4,h5,h6⟩:=(show Dj X.prog X.w H1 s1.heap a (.dK kvs)from I1.hok a _ e);exact base o es ep vs _ h1 h2 h3 h4 h5 h6 (I1.Uz e h1) (q o)
 · obtain⟨go,_,_,vs,_,o',es,ep,h1,h2,h3,h4,h5,h6⟩:=(show Dj X.prog X.w H1 s1.heap a (.Qq o (.dK kvs))from I1.hok a _ e);rw[go]at h1;cases h1;exact base o es ep vs _ go h2 h3 h4 h5 h6 I1 q
end
end L2
namespace SM
noncomputable def BP(f:RE):RI:=fun l h=>(f l h).bind fun r=>match r.1 with
 | .ref n=>match r.2[n]? with
  | some (.dk kvs)=>some (.vals (kvs.map (·.2)),r.2.set n (.Qx kvs))
  | _=>none
 | _=>none
noncomputable def pE:HI->HI->HI
 | .dk _::h,.Qx kvs::h'=>.dk kvs::pE h h'
 | _::h,o::h'=>o::pE h h'
 | _,h'=>h'
def tL(f:RE):RE:=fun l h=>(f l h).map fun r=>(r.1,pE h r.2)
theorem lT:∀h h':HI,(pE h h').length=h'.length
 | [],h'=>by cases h'<;>rfl
 | o::h,[]=>by cases o<;>rfl
 | o::h,o'::h'=>by have:=lT h h';cases o<;>cases o'<;>simp[pE,this]
theorem GO:∀(h h':HI)(n:Nat),(pE h h')[n]?=(match h[n]?,h'[n]? with | some (.dk _),some (.Qx kvs)=>some (.dk kvs) | _,x=>x)
 | [],h',n=>by cases h'<;>simp[pE]
 | o::h,[],n=>by cases o<;>simp[pE]<;>split<;>simp_all
 | o::h,o'::h',0=>by cases o<;>cases o'<;>rfl
 | o::h,o'::h',n+1=>by have:=GO h h' n;cases o<;>cases o'<;>simpa[pE]using this
section
variable{K:Frag}{H:Hp}{ρ:Rg}
theorem BZ{n:Nat}{aa:Addr}{ob:Obj}{Fz:List (FA×V)}{kvs:List (FA×Dt)}(e:H aa=some (.Qq ob (.dK Fz)))(g:KK K H ρ kvs Fz):mU K H ρ (.vals (kvs.map (·.2))) (AQ aa ob):=by
 intro H2 ρ2 h2 sm S2 i;have f2:=sm.fz aa ob _ e;have r2:aj K H2 ρ2 (kvs.map (·.2)) (Fz.map (·.2)):=aj.same sm _ g.2;simp only[Src.at];cases hi:(kvs.map (·.2))[i]? with
 | none=>refine⟨Fz,f2,?_⟩;rw[g.length];simpa using getElem?_eq_none_iff.mp hi
 | some d=>obtain⟨v,e1,r1⟩:=r2.get hi;rw[getElem?_map]at e1;obtain⟨p,e2,e3⟩:=Option.map_eq_some_iff.mp e1;refine⟨⟨Fz,p,f2,e2⟩,fun x H3 zz=>?_⟩;obtain⟨eH,hh⟩:=zz;obtain⟨k,e4⟩:=hh Fz f2;rw[e2]at e4;cases e4;subst eH;have e3':x=v:=e3;subst e3';exact⟨r1,Ext.refl _ _,S2⟩
end
section
variable{X:Cx}{tg d e:Expr}{fa f:RE}{apos cpos:Pos}
theorem MZ (ho:EM X d fa) (hbase:attributeBase d "values" X.env (eval d X.env)=eval d X.env:=by rfl) (hline:(apos.endLine==cpos.line)=true:=by rfl) :
 IM X tg (.Call (.Attribute d "values" apos) [] [] cpos) (BP fa):=by
 with_unfolding_all
  exact PI.imp (gZ ho hbase hline) fun σ H R zz=>by
   obtain⟨ρ,l,h,s,h',S,L,e,k⟩:=zz;obtain⟨⟨d1,h1⟩,e1,e⟩:=kA e;refine⟨ρ,l,h,d1,h1,S,L,e1,fun ρ1 v H1 R1 S1 E1=>?_⟩;cases d1 with
   | ref n=>
    obtain⟨aa,z,ha⟩:=wj.mp R1;have hm:=mem_of_getElem? ha;refine⟨aa,z,?_⟩;dsimp only at e;split at e
    · rename_i kvs q;cases e;obtain⟨vs,g1,g2⟩:=S1.ob n aa _ ha q;have g3:KK X.K H1 ρ1 kvs vs:=g2;refine .inl ⟨vs,g1,fun ob=>?_⟩;have EW:=Ext.write (o:=.Qq ob (.dK vs)) hm (KL g1);exact k ρ1 _ _ (BZ (n:=n) KB (g3.ext EW)) (S1.write ha (KL g1) ⟨ob,vs,KB,g3.ext EW⟩) (E1.trans EW)
    · cases e
   | _=>cases e
end
section
variable{K:Frag}{ρ:Rg}{H H':Hp}
theorem Tup.Rx(x:∀a u,H a=some u->ρ.no a->H' a=some u){a:Addr}{vs:List V}(h:TupAt K H ρ a vs):TupAt K H' ρ a vs:=by
 rcases h with⟨n,t | ⟨y,t⟩⟩ | t
 · exact .inl ⟨n,.inl (x _ _ t n)⟩
 · exact .inl ⟨n,.inr ⟨y,x _ _ t n⟩⟩
 · exact .inr t
theorem Lst.Rx(x:∀a u,H a=some u->ρ.no a->H' a=some u){a:Addr}{vs:List V}(h:LstAt K H ρ a vs):LstAt K H' ρ a vs:=by
 rcases h with⟨n,t | ⟨y,t⟩⟩ | t
 · exact .inl ⟨n,.inl (x _ _ t n)⟩
 · exact .inl ⟨n,.inr ⟨y,x _ _ t n⟩⟩
 · exact .inr t
end
mutual
theorem cj.Rx{K:Frag}{ρ:Rg}{H H':Hp}(x:∀a u,H a=some u->ρ.no a->H' a=some u):∀(d:Dt){v:V},cj K H ρ d v->cj K H' ρ d v
 | .non,_,h=>by simp only[cj]at h ⊢;exact h
 | .bl _,_,h=>by simp only[cj]at h ⊢;exact h
 | .int _,_,h=>by simp only[cj]at h ⊢;exact h
 | .str _,_,h=>by simp only[cj]at h ⊢;exact h
 | .tup xs,_,h=>by simp only[cj]at h ⊢;obtain⟨a,vs,e,t,r⟩:=h;exact⟨a,vs,e,Tup.Rx x t,aj.Rx x xs r⟩
 | .lst xs,_,h=>by simp only[cj]at h ⊢;obtain⟨a,vs,e,t,r⟩:=h;exact⟨a,vs,e,Lst.Rx x t,aj.Rx x xs r⟩
 | .ref _,_,h=>by simp only[cj]at h ⊢;exact h
 | .qx _,_,h=>by simp only[cj]at h ⊢;obtain⟨a,e,n,t⟩:=h;exact⟨a,e,n,x _ _ t n⟩
 | .err _ _ _,_,h=>by
  simp only[cj]at h ⊢;obtain⟨a,C,dx,e,c,n,t,q⟩:=h;refine⟨a,C,dx,e,c,n,x _ _ t n,?_⟩;rcases q with q | ⟨b,q,n',t'⟩
  · exact .inl q
  · exact .inr ⟨b,q,n',x _ _ t' n'⟩
 | .thr _ _ _,_,h=>by simp only[cj]at h
theorem aj.Rx{K:Frag}{ρ:Rg}{H H':Hp}(x:∀a u,H a=some u->ρ.no a->H' a=some u):∀(ds:List Dt){vs:List V},aj K H ρ ds vs->aj K H' ρ ds vs
 | [],_,h=>by simp only[aj]at h ⊢;exact h
 | d::ds,_,h=>by simp only[aj]at h ⊢;obtain⟨v,r,e,h1,h2⟩:=h;exact⟨v,r,e,cj.Rx x d h1,aj.Rx x ds h2⟩
end
noncomputable def lH(H H':Hp):Hp:=fun b=>match H b,H' b with
 | some (.dK _),some (.Qq _ (.dK kvs))=>some (.dK kvs)
 | _,x=>x
theorem KF{H H':Hp}{b:Addr}:lH H H' b=H' b\/∃vs o kvs,H b=some (.dK vs)/\H' b=some (.Qq o (.dK kvs))/\lH H H' b=some (.dK kvs):=by
 unfold lH;split
 · rename_i vs o kvs h1 h2;exact .inr ⟨vs,o,kvs,h1,h2,rfl⟩
 · exact .inl rfl
section
variable{X:Cx}{pins:List (Addr×Obj)}{σ:L2.St}{H H':Hp}{s s':Shared}
theorem GZ(I0:Inv X pins σ H s)(I:Inv X pins σ H' s'):Inv X pins σ (lH H H') s':=by
 have fr:∀b,H' b=none->lH H H' b=none:=fun b q=>by
  rcases KF (H:=H) (H':=H') (b:=b)with z | ⟨_,_,_,_,z,_⟩
  · rw[z];exact q
  · rw[q]at z;cases z
 have kp:∀b u,H' b=some u->(∀o kvs,u≠.Qq o (.dK kvs))->lH H H' b=some u:=fun b u q n=>by
  rcases KF (H:=H) (H':=H') (b:=b)with z | ⟨_,o,kvs,_,z,_⟩
  · rw[z];exact q
  · rw[q]at z;cases z;exact absurd rfl (n o kvs)
 have st:∀{c:Addr}{v:HO},Dj X.prog X.w H' s'.heap c v->Dj X.prog X.w (lH H H') s'.heap c v:=fun ok=>ok.stay (fun _ _ _ g=>g) (fun b' q'=>kp _ _ q' fun _ _ z=>nomatch z) fun b' ys q'=>kp _ _ q' fun _ _ z=>nomatch z
 refine⟨I.ok,I.os,I.bare,⟨I.base.keep,I.base.slot,fun b u q n x=>fr b (I.base.free b u q n x),I.base.there,fun b ys q=>kp _ _ (I.base.tups b ys q) (fun _ _ z=>nomatch z),fun b ob u q=>?_,fun b ps q=>?_⟩,I.loc,I.cell,fr _ I.free,fun x c q=>fr _ (I.Xj x c q),fun p hp=>?_,fun b u q=>?_,I.len⟩
 · have z:=I.base.Kq b ob u q;have z0:=I0.base.Kq b ob u q;rcases KF (H:=H) (H':=H') (b:=b)with w | ⟨_,_,_,w,_⟩
   · rw[w];exact z
   · rw[z0]at w;cases w
 · obtain⟨more,z⟩:=I.base.Yq b ps q;exact⟨more,kp _ _ z fun _ _ z=>nomatch z⟩
 · obtain⟨h1,h2,h3⟩:=I.pin p hp;exact⟨h1,fr _ h2,h3⟩
 · rcases KF (H:=H) (H':=H') (b:=b)with w | ⟨_,o,kvs,_,w,w'⟩
   · rw[w]at q;exact st (I.hok b u q)
   · rw[w']at q;cases q;obtain⟨_,ok⟩:=(show Dj X.prog X.w H' s'.heap b (.Qq o (.dK kvs))from I.hok b _ w);exact st ok
end
section
variable{K:Frag}{ρ ρ':Rg}{h h':HI}{H H':Hp}
theorem oP(x:Ext ρ ρ' H H'):∀a u,H' a=some u->a∉ρ.v->lH H H' a=some u:=fun a u e n=>by
 rcases KF (H:=H) (H':=H') (b:=a)with w | ⟨vs,o,kvs,w1,w2,_⟩
 · rw[w];exact e
 · have:=x.keep a _ w1 n;rw[w2]at this;cases this
theorem FZ(x:Ext ρ ρ' H H'):Ext ρ ρ' H (lH H H'):=by
 refine⟨x.pre,x.hid,fun a o e n=>oP x a o (x.keep a o e n) n,fun a e=>?_,fun a o u e=>?_⟩
 · rcases KF (H:=H) (H':=H') (b:=a)with w | ⟨_,_,_,_,_,w⟩
   · rw[w]at e;exact x.live a e
   · rw[w]at e;cases e
 · rcases KF (H:=H) (H':=H') (b:=a)with w | ⟨_,_,_,w,_⟩
   · rw[w];exact x.fz a o u e
   · rw[e]at w;cases w
theorem HZ(S:gj K ρ h H)(S':gj K ρ' h' H')(x:Ext ρ ρ' H H'):gj K ρ' (pE h h') (lH H H'):=by
 have no:∀a u,H' a=some u->ρ'.no a->lH H H' a=some u:=fun a u e n=>oP x a u e fun z=>by obtain⟨e',q,_⟩:=x.pre;exact n.1 (by rw[q];exact mem_append_left _ z)
 refine⟨S'.nd,by rw[lT];exact S'.len,fun n a o e1 e2=>?_,fun a ha=>?_⟩
 · rw[GO]at e2;split at e2
   · rename_i Lg kvs q1 q2;cases e2;obtain⟨ob,vs,g1,g2,g3⟩:=S'.ob n a _ e1 q2;have nl:n<h.length:=(Df q1).1;have e0:ρ.v[n]?=some a:=by obtain⟨e',q,_⟩:=x.pre;rw[q,Ef (by rw[S.len];exact nl)]at e1;exact e1
     obtain⟨Fz,k1,_⟩:=S.ob n a _ e0 q1;refine⟨vs,?_,g2,aj.Rx no _ g3⟩;unfold lH;rw[k1,g1]
   · rename_i nn;have ob:=S'.ob n a o e1 e2;have same:lH H H' a=H' a:=by
      rcases KF (H:=H) (H':=H') (b:=a)with w | ⟨vs,o1,kvs,w1,w2,_⟩
      · exact w
      · exfalso;have e0:ρ.v[n]?=some a:=by
         obtain⟨e',q,hn⟩:=x.pre;by_cases nl:n<ρ.v.length
         · rw[q,Ef nl]at e1;exact e1
         · rw[q,Jf (Nat.not_lt.mp nl)]at e1;have:=hn a (mem_of_getElem? e1);rw[w1]at this;cases this
        have nl:n<h.length:=by rw[<- S.len];exact(Df e0).1
        have q1:=getElem?_eq_getElem nl;have o0:=S.ob n a _ e0 q1;generalize hb:h[n]=b0 at o0 q1;cases b0 with
        | lst xs=>obtain⟨_,z,_⟩:=o0;rw[w1]at z;cases z
        | ins y fs=>obtain⟨_,_,_,_,z,_⟩:=o0;rw[w1]at z;cases z
        | dt xs=>obtain⟨_,z,_⟩:=o0;rw[w1]at z;cases z
        | df xs=>obtain⟨_,_,z,_⟩:=o0;rw[w1]at z;cases z
        | Qx xs=>obtain⟨_,_,z,_⟩:=o0;rw[w1]at z;cases z
        | dk Lg=>
         cases o with
         | lst xs=>obtain⟨_,z,_⟩:=ob;rw[w2]at z;cases z
         | ins y fs=>obtain⟨_,_,_,_,z,_⟩:=ob;rw[w2]at z;cases z
         | dk xs=>obtain⟨_,z,_⟩:=ob;rw[w2]at z;cases z
         | dt xs=>obtain⟨_,z,_⟩:=ob;rw[w2]at z;cases z
         | df xs=>obtain⟨_,_,z,_⟩:=ob;rw[w2]at z;cases z
         | Qx xs=>exact nn Lg xs q1 e2
     cases o with
     | lst xs=>obtain⟨vs,g1,g2⟩:=ob;exact⟨vs,same.trans g1,aj.Rx no _ g2⟩
     | ins y fs=>obtain⟨C,dx,vs,g0,g1,g2,g3⟩:=ob;exact⟨C,dx,vs,g0,same.trans g1,g2,aj.Rx no _ g3⟩
     | dk xs=>obtain⟨vs,g1,g2,g3⟩:=ob;exact⟨vs,same.trans g1,g2,aj.Rx no _ g3⟩
     | dt xs=>obtain⟨vs,g1,g2,g3⟩:=ob;exact⟨vs,same.trans g1,g2,aj.Rx no _ g3⟩
     | df xs=>obtain⟨ob,vs,g1,g2,g3⟩:=ob;exact⟨ob,vs,same.trans g1,g2,aj.Rx no _ g3⟩
     | Qx xs=>obtain⟨ob,vs,g1,g2,g3⟩:=ob;exact⟨ob,vs,same.trans g1,g2,aj.Rx no _ g3⟩
 · obtain⟨n,vs,g⟩:=S'.zt a ha;refine⟨n,vs,?_⟩;rcases KF (H:=H) (H':=H') (b:=a)with w | ⟨_,_,_,_,w,_⟩
   · rw[w];exact g
   · rw[g]at w;cases w
end
theorem X0{X:Cx}{e:Expr}{f:RE}(he:EM X e f):EM X e (tL f):=by
 with_unfolding_all
  intro pins s σ H Q I zz;obtain⟨ρ,l,h,d,h',S,L,e,k⟩:=zz;obtain⟨⟨d1,h1⟩,e1,e⟩:=Option.map_eq_some_iff.mp e;cases e;have p:=he pins s σ H (fun v H'=>∃ρ',cj X.K H' ρ' d1 v/\gj X.K ρ' h1 H'/\Ext ρ ρ' H H') I ⟨ρ,l,h,d1,h1,S,L,e1,fun ρ' v H' R S' E'=>⟨ρ',R,S',E'⟩⟩;refine WA p fun u s' ⟨v,H',I',r,ρ',R,S',E'⟩=>⟨v,lH H H',GZ I I',r,k ρ' v _ (cj.Rx (fun a u e n=>oP E' a u e fun z=>?_) d1 R) (HZ S S' E') (FZ E')⟩
  obtain⟨e',q,_⟩:=E'.pre;exact n.1 (by rw[q];exact mem_append_left _ z)
end SM
namespace L2
open PySem.W
theorem S8{P:Program}{w:World}{k:FA}{u:Value}(h:(WB P w).is k u=true):RelV (kV k) u:=by
 rcases UE h with⟨i,t,rfl,rfl⟩ | ⟨x,t,rfl,rfl⟩
 · exact⟨t,rfl⟩
 · exact⟨t,rfl⟩
theorem IT{P:Program}{w:World}:∀{kvs:List (FA×V)}{us:List Value},us.length=kvs.length->(∀(j:Nat)(v:Value),us[j]?=some v->∃p,kvs[j]?=some p/\(WB P w).is p.1 v=true)->Vals (kvs.map fun p=>kV p.1) us
 | [],[],_,_=>.nil
 | [],_::_,h,_=>by simp at h
 | _::_,[],h,_=>by simp at h
 | p::kvs,u::us,h,k=>by obtain⟨q,e,z⟩:=k 0 u rfl;cases (show p=q by simpa using e);exact .cons (S8 z) (IT (P:=P) (w:=w) (by simpa using h) fun j v e=>k (j+1) v (by simpa using e))
section
variable{X:Cx}
theorem jR (cm:X.calm=true):Uj X (.type "list") (fun xs H Q=>∃a kvs,xs=[.ref a]/\H a=some (.dK kvs)/\∀l,H l=none->Q (.ref l) (VA H l (.lst (kvs.map fun p=>kV p.1)))):=by
 intro pins s σ H xs us Q I r zz;obtain⟨a,kvs,ex,e,q⟩:=zz;subst ex;obtain⟨u,rfl,ru⟩:=Vals.one r;cases (show u=Value.ref a from ru);obtain⟨hz,lo,vs,kv,o,es,ep,h1,h2,h3,h4,h5,h6⟩:=(show Dj X.prog X.w H s.heap a (.dK kvs)from I.hok a _ e);have hl:kvs.length=vs.length:=KV.length kv;refine kdl_call (kdl_dict (knd:=WB X.prog X.w) (kvs:=vs) (ep:=ep) lo) (I.ok.hd cm) ⟨o,es,h1,h2,h3,h4,h5,h6⟩ (by rw[<- hl];exact hz) fun h' tk acc' c' hk hS hacc=>?_
 have va:Vals (kvs.map fun p=>kV p.1) acc'.toList:=by
  refine IT (P:=X.prog) (w:=X.w) (by rw[Array.length_toList,hacc.1,hl]) fun j v ej=>?_
  obtain⟨k,x,e1,e2⟩:=hacc.2 j v (by rw[<- Array.getElem?_toList];exact ej);have hj:j<kvs.length:=by rw[hl];exact(Df e1).1
  obtain⟨y,e3,e4,_⟩:=Paired.Rq kv (getElem?_eq_getElem hj);rw[e1]at e3;cases e3;exact⟨kvs[j],getElem?_eq_getElem hj,by rw[e4];exact e2⟩
 exact⟨.ref s.heap.objs.size,_,I.laid (a:=s.heap.objs.size) (o:=.lst (kvs.map fun p=>kV p.1)) (h':=h') (t':=tk) hk (Hf _) ⟨by rw[length_map];exact hz,acc'.toList,c',va,by rw[Array.toArray_toList];exact hS⟩,rfl,q _ (I.hok.fresh (Hf _))⟩
end
end L2
namespace SM
noncomputable def kD:FA->Dt
 | .inl i=>.int i
 | .inr z=>.str z
def bF(d:Dt)(h:HI):Option (Dt×HI):=(yD h d).map fun kvs=>(.lst (kvs.map fun p=>kD p.1),h)
theorem pL{K:Frag}{H:Hp}{ρ:Rg}:∀(ks:List FA),aj K H ρ (ks.map kD) (ks.map kV)
 | []=>aj.nil
 | .inl i::ks=>aj.cons (dj.mpr rfl) (pL ks)
 | .inr z::ks=>aj.cons (kj.mpr rfl) (pL ks)
section
variable{X:Cx}{e:Expr}{f:RE}{p pos:Pos}
theorem fS (cm:X.calm=true) (hg:Gl X "list") (hm:X.mg "list" =none) (ha:EM X e f) (hs:oB e=true:=by rfl):EM X (.Call (.Name "list" p) [e] [] pos) (GC bF f):=by
 with_unfolding_all
  exact dQ (jR cm) (fun ρ h d v d' h' H Q S R e k=>by
   unfold bF at e;obtain⟨kvs,q,e⟩:=Option.map_eq_some_iff.mp e;cases e;obtain⟨a,vs,z,g1,g2⟩:=pI S q R;refine⟨a,vs,by rw[z],g1,fun l hl=>k ρ _ _ (DJ S ?_ hl) (S.fresh hl) (Ext.fresh hl)⟩;have r:=pL (K:=X.K) (H:=H) (ρ:=ρ) (kvs.map (·.1));rw[map_map]at r;have e2:vs.map (fun p=>kV p.1)=(kvs.map (·.1)).map kV:=by rw[g2.1,map_map];rfl
   rw[e2];exact r) hg hm PyProof.Rows.boot_list ha (hs:=hs)
end
def qE(x m:Str)(F:kB)(fo:RE):RE:=nE x m F fo jA
section
variable{X:Cx}{k k' n:Nat}{F:kB}{x m:Str}{fo:RE}{apos pos:Pos}{o:Expr}
theorem cJ{pl:Sem Bool}(c:bK X.prog X.w X.K X.mg X.base k n x m F)(hr:Hj k' X.A)(hk:k<=k')(ho:EM X o fo)
 (ht:eval (.Call (.Attribute o m apos) [] [] pos) X.env=(do
  let ov <- eval o X.env
  standAt apos.atName
  let (f,first) <- holding [ov] (getMethod ov m pl)
  callWith pos f first (backTo pos (starEach [] X.env)) (backToKw pos (keywordEach [] X.env))):=by rfl):EM X (.Call (.Attribute o m apos) [] [] pos) (qE x m F fo):=by
 with_unfolding_all
  obtain⟨C,f,fd,ps,c1,c2,c3,c4,c5⟩:=c.ex;exact PE.imp (tZ (pl:=pl) ho c2 c3 c4 (hr.mono hk) c5 .nil (E:=E0) zL ht) fun σ H Q zz=>by
   obtain⟨ρ,l,h,d,h',S,L,e,k⟩:=zz;obtain⟨⟨d1,h1⟩,e1,e⟩:=kA e;refine⟨ρ,l,h,d1,h1,S,L,e1,fun ρ1 v H1 R1 S1 E1=>?_⟩;cases d1 with
   | ref nn=>
    dsimp only at e;split at e
    · rename_i y fs q;obtain⟨⟨hy,hl⟩,e3⟩:=yH e;subst hy;obtain⟨⟨ds,h2⟩,e2,e4⟩:=kA e3;cases e2;obtain⟨a,z,ha⟩:=wj.mp R1;obtain⟨C',dx,vs,c1',g1,g2,g3⟩:=S1.ob nn a _ ha q;have cc:C'=C:=clsOf.inj c1' c1;subst cc;exact⟨a,dx,vs,z,g1,(eL g2 g3).2 hl,ρ1,_,h1,d,h',S1,.cons R1 .nil,c.len _ _ _ e4,e4,k.ext E1⟩
    · cases e
   | _=>cases e
end
section
variable{X:Cx}{i oo:Expr}{fy fo:RE}{pos:Pos}
theorem JP(hu:X.A.units+64<cLine)(hy:EM X i fy)(ho:EM X oo fo)(hb:behindInMarks .In oo=false:=by rfl):TM X (.Compare i [.In] [oo] pos) (Gj (uE true fy fo)):=by with_unfolding_all exact PT.imp (lU (W5 (by omega) hy ho) hb) fun σ H Q zz=>by obtain⟨ρ,l,h,bb,h',S,L,e,k⟩:=zz;obtain⟨⟨d0,h0⟩,e0,e⟩:=kA e;obtain⟨⟨d1,h1⟩,e1,e0⟩:=kA e0;obtain⟨⟨d2,h2⟩,e2,e0⟩:=kA e0;obtain⟨ky,e3,e0⟩:=kA e0;obtain⟨kvs,e4,e0⟩:=Option.map_eq_some_iff.mp e0;cases e0;cases e;refine⟨ρ,l,h,d1,h1,S,L,e1,fun ρ1 x H1 R1 S1 E1=>⟨ρ1,l,h1,d2,_,S1,L.ext E1,e2,fun ρ2 y H2 R2 S2 E2=>?_⟩⟩;obtain⟨a,vs,z,g1,g2⟩:=pI S2 e4 R2;refine⟨a,_,z,by rw[uJ e3 R1];exact jx.k g1,_,rfl,?_⟩;have kk:=k ρ2 H2 S2 (E1.trans E2);rw[g2.isSome ky];revert kk;cases (iC kvs ky).isSome<;>exact fun z=>z
theorem kO(hu:X.A.units+64<cLine)(hy:EM X i fy)(ho:EM X oo fo)(hb:behindInMarks .NotIn oo=false:=by rfl):TM X (.Compare i [.NotIn] [oo] pos) (Gj (uE false fy fo)):=by with_unfolding_all exact PT.imp (lU (aZ (by omega) hy ho) hb) fun σ H Q zz=>by obtain⟨ρ,l,h,bb,h',S,L,e,k⟩:=zz;obtain⟨⟨d0,h0⟩,e0,e⟩:=kA e;obtain⟨⟨d1,h1⟩,e1,e0⟩:=kA e0;obtain⟨⟨d2,h2⟩,e2,e0⟩:=kA e0;obtain⟨ky,e3,e0⟩:=kA e0;obtain⟨kvs,e4,e0⟩:=Option.map_eq_some_iff.mp e0;cases e0;cases e;refine⟨ρ,l,h,d1,h1,S,L,e1,fun ρ1 x H1 R1 S1 E1=>⟨ρ1,l,h1,d2,_,S1,L.ext E1,e2,fun ρ2 y H2 R2 S2 E2=>?_⟩⟩;obtain⟨a,vs,z,g1,g2⟩:=pI S2 e4 R2;refine⟨a,_,z,by rw[uJ e3 R1];exact jx.k g1,_,rfl,?_⟩;have kk:=k ρ2 H2 S2 (E1.trans E2);rw[g2.isSome ky];revert kk;cases (iC kvs ky).isSome<;>exact fun z=>z
end
section
variable{K:Frag}{mg:Str->Option Value}{x:Str}{C:Addr}{b:Bool}{tab:List (Str×Bool)}{D:Value}
theorem MD(n:nsIn K mainGlobals x=some (some (.ref C)))(ec:rE K C=true)(k:PySem.W.kitOne K (.ref C) D=some b)(r:fF K D tab):fF K D ((x,b)::tab):=fun y' b' e=>by
 by_cases z:y'=x
 · subst z;have zb:(y'==y')=true:=beq_iff_eq.mpr rfl;simp only[List.lookup,zb]at e;cases e;exact⟨C,n,ec,k⟩
 · have zb:(y'==x)=false:=by rw[<- Bool.not_eq_true,beq_iff_eq];exact z
   simp only[List.lookup,zb]at e;exact r y' b' e
theorem IS{h:Heap}(X:K.In h)(G:h.Ns mainGlobals mg)(n:nsIn K mainGlobals x=some (some (.ref C)))(e:XG K C=true)(k:keepIn K (.ref C)=true):ZJ K mg x:=⟨⟨C,n,e,k,PySem.W.mg_of X G n⟩⟩
end
end SM
namespace L2
open PySem.W
theorem QS:∀{kvs:List (FA×V)}{vs:List (FA×Value)},KV kvs vs->Vals (kvs.map (·.2)) (vs.map (·.2))
 | _,_,.nil=>.nil
 | _,_,.cons h t=>.cons h.2 (QS t)
section
variable{X:Cx}
def C9(td:TE):TE:=fun σ H Q=>td σ H fun x H1=>∃a kvs,x=.ref a/\H1 a=some (.dK kvs)/\∀l,H1 l=none->Q (.ref l) (VA H1 l (.lst (kvs.map (·.2))))
theorem bX {d:Expr} {td:TE} {p1 apos cpos pos:Pos} (cm:X.calm=true) (hg:Gl X "list") (hm:X.mg "list" =none) (ho:PE X d td) (hbase:attributeBase d "values" X.env (eval d X.env)=eval d X.env:=by rfl) (hline:(apos.endLine==cpos.line)=true:=by rfl) :
 PE X (.Call (.Name "list" p1) [.Call (.Attribute d "values" apos) [] [] cpos] [] pos) (C9 td):=by
 intro pins s σ H Q I h;refine wpAny_Call_Name_kw (aH I hg hm boot_list ?_);refine PyProof.Rows.callWith_type1 ?_ rfl rfl;show wpAny _ _ (spliced ((false,eval (.Call (.Attribute d "values" apos) [] [] cpos) X.env)::backTo pos (starEach [] X.env))) _ _ s;refine Calls.spliced_cons ?_;refine wpAny_Call_method0_late hbase hline (WA (ho pins s σ H _ I h) fun v s1 zz=>?_);obtain⟨x,H1,I1,r1,a,kvs,ex,e,q⟩:=zz;subst ex;obtain rfl:v=Value.ref a:=r1;obtain⟨t1,t2,t3⟩:=FP I1 (.inl ⟨kvs,.inl e⟩);obtain⟨hz,lo,vs,kv,o,es,ep,h1,h2,h3,h4,h5,h6⟩:=(show Dj X.prog X.w H1 s1.heap a (.dK kvs)from I1.hok a _ e);refine⟨"dict", "dict.values",PySem.F.plainAttrs_dict,PySem.F.slot_dict_values,PySem.F.type_dict_values,t1,t2,Calls.callWith_builtin rfl (PySem.evalArgs_none ?_)⟩;refine OS (kvs:=vs) ⟨o,es,ep,h1,h2,h3,h4,h5,h6⟩ t3 ?_;refine Calls.spliced_nil ?_;have I3:Inv X pins σ H1 { s1 with heap:=s1.heap.push { cls:=.type "dict_values",data:=.fields #[.ref a] } }:=I1.kept (t':=s1.toks) fun b u g=>Heap.get?_push_of_some _ g
 have hl:kvs.length=vs.length:=KV.length kv;refine kdl_call (kdl_values (knd:=WB X.prog X.w) (kvs:=vs) (ep:=ep) (d:=a)) (I3.ok.hd cm) ⟨⟨_,Heap.get?_push_size _ rfl,rfl,rfl⟩,⟨o,es,Heap.get?_push_of_some _ h1,h2,h3,h4,h5,h6⟩⟩ (by rw[<- hl];exact hz) fun h' tk acc' c' hk hS hacc=>?_
 have ea:acc'.toList=vs.map (·.2):=kdl_vals_eq acc'.toList (by rw[Array.length_toList];exact hacc.1) fun j v ej=>hacc.2 j v (by rw[<- Array.getElem?_toList];exact ej)
 have va:Vals (kvs.map (·.2)) acc'.toList:=by rw[ea];exact QS kv
 exact⟨.ref _,_,I3.laid (o:=.lst (kvs.map (·.2))) (h':=h') (t':=tk) hk (Hf _) ⟨by rw[length_map];exact hz,acc'.toList,c',va,by rw[Array.toArray_toList];exact hS⟩,rfl,q _ (I3.hok.fresh (Hf _))⟩
end
end L2
namespace SM
def aF(d:Dt)(h:HI):Option (Dt×HI):=(yD h d).map fun kvs=>(.lst (kvs.map (·.2)),h)
def lJ(d:Dt)(h:HI):Option (Dt×HI):=(yD h d).map fun kvs=>(.ref h.length,h++[.lst (kvs.map fun p=>kD p.1)])
def uG(xs:List Str)(fl:Str)(g:RE):RE:=fun l h=>(g l h).bind fun r=>match r.1 with
 | .err y f i=>if y∈xs/\f=fl then some (xD i,r.2)else none
 | _=>none
noncomputable def cU:RE:=fun _ _=>none
section
variable{X:Cx}{e d:Expr}{f:RE}{p pos apos cpos:Pos}
theorem zY:EM X e cU:=by with_unfolding_all intro pins s σ H Q I zz;obtain⟨ρ,l,h,d,h',S,L,e,k⟩:=zz;cases e
theorem gS (cm:X.calm=true) (hg:Gl X "list") (hm:X.mg "list" =none) (ha:EM X d f) (hbase:attributeBase d "values" X.env (eval d X.env)=eval d X.env:=by rfl) (hline:(apos.endLine==cpos.line)=true:=by rfl) :
 EM X (.Call (.Name "list" p) [.Call (.Attribute d "values" apos) [] [] cpos] [] pos) (GC aF f):=by
 with_unfolding_all exact PE.imp (bX cm hg hm ha hbase hline) fun σ H Q zz=>by obtain⟨ρ,l,h,d,h',S,L,e,k⟩:=zz;obtain⟨⟨d1,h1⟩,e1,e⟩:=kA e;refine⟨ρ,l,h,d1,h1,S,L,e1,fun ρ1 v H1 R1 S1 E1=>?_⟩;unfold aF at e;obtain⟨kvs,q,e⟩:=Option.map_eq_some_iff.mp e;cases e;obtain⟨a,vs,z,g1,g2⟩:=pI S1 q R1;exact⟨a,vs,z,g1,fun l hl=>k ρ1 _ _ (DJ S1 g2.2 hl) (S1.fresh hl) (E1.trans (Ext.fresh hl))⟩
theorem QX (cm:X.calm=true) (hg:Gl X "list") (hm:X.mg "list" =none) (ha:EM X e f) (hs:oB e=true:=by rfl):EM X (.Call (.Name "list" p) [e] [] pos) (GC lJ f):=by
 with_unfolding_all
  exact dQ (jR cm) (fun ρ h d v d' h' H Q S R e k=>by
   unfold lJ at e;obtain⟨kvs,q,e⟩:=Option.map_eq_some_iff.mp e;cases e;obtain⟨a,vs,z,g1,g2⟩:=pI S q R;have r:=pL (K:=X.K) (H:=H) (ρ:=ρ) (kvs.map (·.1));rw[map_map]at r;have e2:vs.map (fun p=>kV p.1)=(kvs.map (·.1)).map kV:=by rw[g2.1,map_map];rfl
   refine⟨a,vs,by rw[z],g1,fun l hl=>?_⟩;rw[e2];exact k _ _ _ (gI S r hl).1 (gI S r hl).2 (Ext.own hl)) hg hm PyProof.Rows.boot_list ha (hs:=hs)
theorem iS{xs:List Str}{fl:Str}{g:RE}(cl:∀x∈xs,oH X.K x fl)(ha:EM X e g)(hb:attributeBase e fl X.env (eval e X.env)=eval e X.env:=by rfl):EM X (.Attribute e fl pos) (uG xs fl g):=by
 with_unfolding_all
  exact PE.imp (Q4 ha hb) fun σ H Q zz=>by
   obtain⟨ρ,l,h,d,h',S,L,e,k⟩:=zz;obtain⟨⟨d1,h1⟩,e1,e0⟩:=kA e;clear e;refine⟨ρ,l,h,d1,h1,S,L,e1,fun ρ1 v H1 R1 S1 E1=>?_⟩;cases d1 with
   | err y f i=>
    dsimp only at e0;by_cases hy:y∈xs/\f=fl
    case neg=>rw[if_neg hy]at e0;cases e0
    rw[if_pos hy]at e0;obtain⟨hy,hf⟩:=hy;subst hf;cases e0;obtain⟨C',c2,c3,c4⟩:=(cl y hy).ex;obtain⟨a,C,Jr,z,c1,n1,q1,⟨q2,_⟩ | ⟨dx,rfl,n2,q2⟩⟩:=Yj.mp R1
    · exact absurd q2 (cl y hy).ne
    have cc:C'=C:=clsOf.inj c2 c1;subst cc;rw[rE,Bool.and_eq_true]at c3;refine⟨a,C',dx,xV i,z,q1,q2,c3.1,c4,?_,k ρ1 _ _ ?_ S1 E1⟩
    · cases i with
      | inl j=>exact⟨j,.inl rfl⟩
      | inr j=>exact⟨0,.inr ⟨j,rfl⟩⟩
    · cases i with
      | inl j=>exact dj.mpr rfl
      | inr j=>exact kj.mpr rfl
   | _=>cases e0
end
structure fP(K:Frag)(x m qual:Str)(st:Stmt)(ps:List Str):Prop where
 ex:∃dV C f fd,clsOf K x C/\Cls K C/\pF K C m f/\PL K m qual st dV f fd/\Binds K fd ps []
def YT(K:Frag)(C:Addr)(m qual:Str)(st:Stmt)(d:Int):Prop:=∃(f:Addr)(oc:Value)(od:Option Addr)(td:Addr)(kV dc pm:Value)(an:Option Addr)(cd ct:Value)(sl:Array (Option Value))(ot:Obj)(t:Tok)(nt:Nat),findIn K (.ref C) m=some (some (.ref f))/\PySem.W.isFn K (.ref f)=true/\
 K.lookup f=some ⟨oc,od,.func (fnOf m qual (jD st) (LB st) (sA st) (.ref td) kV dc pm an cd ct),sl⟩/\PySem.W.codeIn K cd qual=true/\keepIn K (.ref f)=true/\K.lookup td=some ot/\ot.data=.seq #[.int d t] nt
section
variable{K:Frag}{x m qual:Str}{st:Stmt}{ps:List Str}{C:Addr}{d:Int}
theorem TZ(k:BI K x C)(D:YT K C m qual st d)(hb:∀(s:Shared)(td:Addr)(ot:Obj)(t:Tok)(nt:Nat)(kV doc pm:Value)(an:Option Addr)(cdv ct:Value)(us:List Value),us.length=ps.length->s.heap.get? td=some ot->ot.data=.seq #[.int d t] nt->BindsTo s (fnOf m qual (jD st) (LB st) (sA st) (.ref td) kV doc pm an cdv ct) ⟨us,[]⟩ (ps.zip (us++[]))):fP K x m qual st ps:=by obtain⟨f,oc,od,td,kV,dc,pm,an,cd,ct,sl,ot,t,nt,a,i,l,c,k',l2,e2⟩:=D;exact⟨⟨_,C,f,_,k.ac,⟨k.pg,k.hd,k.po,k.sa⟩,⟨a,i,k'⟩,D1 l c k',fun s us KX hl=>hb s td ot t nt _ _ _ _ _ _ us (by simpa using hl) (KX _ _ l2) e2⟩⟩
end
section
variable{P:Program}{w:World}{K:Frag}{mg:Str->Option Value}{base:Heap}
theorem C1{x qual:Str}{st:Stmt}{dV:Value}{f:Addr}{fd:FuncData}{N ps:List Str}{k:Nat}{body:RS}(F:PL K x qual st dV f fd)(S:YA N ps (sA st))
 (hb:∀(cdv:Value)(A:Around)(outer:List Env)(s:Shared)(H:Hp)(E:XK),Hj k (A.deeper (envOfC qual (sA st) s.heap.objs.size f cdv))->
  EI (mC (mH P w) P w K mg base N qual (sA st) f cdv A outer s H E) E (LB st) body):Oj P w K mg base (mH P w) (k+1) f fd ps (QQ K ps.length (FB ps.length N.length body)):=by
 with_unfolding_all
  obtain⟨oc,od,kV,doc,pm,an,cdv,ct,osl,rfl,lk,hcd⟩:=F.ex;refine fQ lk hcd S (fun vs H Q E h=>?_) fun A outer s H vs Q E hr h=>?_
  · obtain⟨ρ,ds,h,d,h',S,R,hl,_⟩:=h;rw[R.length,hl]
  · obtain⟨ρ,ds,h,d,h',S,R,hl,e,k⟩:=h;have z:=hb cdv A outer s H E hr;refine⟨_,fun pins s' σ H' D I hw=>wpAny_mono (z pins s' σ H' D (I.wish _) hw) (fun _ _ q=>q.Mj) fun _ _ q=>lS q,?_⟩;unfold FB at e;rw[if_pos hl]at e;rw[<- hl]at e;split at e
    · rename_i d1 h1 q;cases e;exact⟨ρ,_,h,_,S,TH R,q,k⟩
    · rename_i l1 h1 q;cases e;exact⟨ρ,_,h,_,S,TH R,q,fun ρ' σ' H' S' L' E'=>k ρ' _ H' (zj.mpr rfl) S' E'⟩
    · cases e
theorem RY{x m qual:Str}{st:Stmt}{N ps:List Str}{k n mm:Nat}{body:RS}(D:fP K x m qual st ps)(S:YA N ps (sA st))(hn:ps.length=n)(hm:N.length=mm)
 (hb:∀(f:Addr)(cdv:Value)(A:Around)(outer:List Env)(s:Shared)(H:Hp)(E:XK),Hj k (A.deeper (envOfC qual (sA st) s.heap.objs.size f cdv))->
  EI (mC (mH P w) P w K mg base N qual (sA st) f cdv A outer s H E) E (LB st) body):nG P w K mg base (k+1) n x m (FB n mm body):=by
 with_unfolding_all subst hn hm;obtain⟨dV,C,f,fd,c1,c2,c3,hF,hB⟩:=D.ex;exact⟨⟨C,f,fd,ps,c1,c2,c3,C1 hF S fun cdv A outer s H E hr=>hb f cdv A outer s H E hr,hB⟩,fun ds h r e=>tJ e⟩
end
theorem fU{K:Frag}{fl:Str}:∀x∈([]:List Str),oH K x fl:=fun _ m=>by cases m
theorem XH{K:Frag}{fl x:Str}{xs:List Str}(h:oH K x fl)(t:∀y∈xs,oH K y fl):∀y∈x::xs,oH K y fl:=fun y m=>by
 rcases mem_cons.mp m with z | z
 · rw[z];exact h
 · exact t y z
noncomputable def aB{α β:Type}(o:Option α)(f:α->Option β):Option β:=o.bind f
@[simp] theorem fA{α β:Type}(a:α)(f:α->Option β):aB (some a) f=f a:=by rfl
@[simp] theorem O9{α β:Type}{c:Prop}[Decidable c](a b:Option α)(k:α->Option β):aB (if c then a else b) k=if c then aB a k else aB b k:=by split<;>rfl
section
variable{l:LI}{h:HI}{f g fa fb fc:RE}
@[simp] theorem nA(d:Dt):eC d l h=some (d,h):=by rfl
noncomputable def dM(h:HI):Option (Option Dt)->Option (Dt×HI)
 | some (some d)=>some (d,h)
 | _=>none
@[simp] theorem iA(d:Dt):dM h (some (some d))=some (d,h):=by rfl
@[simp] theorem gA(i:Nat):eV i l h=dM h l[i]?:=by unfold eV dM;rfl
@[simp] theorem qA(op:RC):e2 op fa fb l h=aB (fa l h) fun r=>aB (fb l r.2) fun q=>op r.1 q.1 q.2:=by rfl
@[simp] theorem yA:jA l h=some ([],h):=by rfl
@[simp] theorem CA(r:RA):bA f r l h=aB (f l h) fun r'=>aB (r l r'.2) fun q=>some (r'.1::q.1,q.2):=by rfl
noncomputable def l9:Dt×HI->Option (Bool×HI)
 | (.bl b,h)=>some (b,h)
 | _=>none
@[simp] theorem zA(b:Bool):l9 (.bl b,h)=some (b,h):=by rfl
@[simp] theorem xA:Gj f l h=aB (f l h) l9:=by
 unfold aB;unfold Gj
 congr 1
 funext r
 obtain⟨d,h⟩:=r;cases d<;>rfl
@[simp] theorem JF(t u:RT):jI t u l h=aB (t l h) fun r=>if r.1=true then u l r.2 else some (false,r.2):=by rfl
@[simp] theorem QF(t u:RT):JD t u l h=aB (t l h) fun r=>if r.1=true then some (true,r.2)else u l r.2:=by rfl
@[simp] theorem GD(t:RT):EC t l h=aB (t l h) fun r=>some (!r.1,r.2):=by rfl
noncomputable def EU(u:RE)(l:LI):Dt×HI->Option (Dt×HI)
 | (.bl true,h)=>u l h
 | (.bl false,h)=>some (.bl false,h)
 | _=>none
noncomputable def SQ(u:RE)(l:LI):Dt×HI->Option (Dt×HI)
 | (.bl true,h)=>some (.bl true,h)
 | (.bl false,h)=>u l h
 | _=>none
@[simp] theorem IG(u:RE)(b:Bool):EU u l (.bl b,h)=if b=true then u l h else some (.bl false,h):=by cases b<;>rfl
@[simp] theorem NG(u:RE)(b:Bool):SQ u l (.bl b,h)=if b=true then some (.bl true,h)else u l h:=by cases b<;>rfl
@[simp] theorem NP(u:RE):DH f u l h=aB (f l h) (EU u l):=by
 unfold aB;unfold DH
 congr 1
 funext r
 obtain⟨d,h⟩:=r;cases d<;>(try rfl);rename_i b;cases b<;>rfl
@[simp] theorem SJ(u:RE):OL f u l h=aB (f l h) (SQ u l):=by
 unfold aB;unfold OL
 congr 1
 funext r
 obtain⟨d,h⟩:=r;cases d<;>(try rfl);rename_i b;cases b<;>rfl
noncomputable def FU:Dt×HI->Option (Dt×HI)
 | (.bl b,h)=>some (.bl (!b),h)
 | _=>none
@[simp] theorem LK(b:Bool):FU (.bl b,h)=some (.bl (!b),h):=by rfl
@[simp] theorem OP:xG f l h=aB (f l h) FU:=by
 unfold aB;unfold xG
 congr 1
 funext r
 obtain⟨d,h⟩:=r;cases d<;>rfl
@[simp] theorem ZP(t:RT):RV t f g l h=aB (t l h) fun r=>if r.1=true then f l r.2 else g l r.2:=by rfl
noncomputable def f9(o':RC)(fc:RE)(l:LI)(q:Dt):Dt×HI->Option (Dt×HI)
 | (.bl true,h)=>(fc l h).bind fun r=>o' q r.1 r.2
 | (.bl false,h)=>some (.bl false,h)
 | _=>none
@[simp] theorem qJ(o':RC)(q:Dt)(b:Bool):f9 o' fc l q (.bl b,h)=if b=true then aB (fc l h) fun r=>o' q r.1 r.2 else some (.bl false,h):=by cases b<;>rfl
@[simp] theorem vJ(o o':RC):iG o o' fa fb fc l h=aB (fa l h) fun r=>aB (fb l r.2) fun q=>aB (o r.1 q.1 q.2) (f9 o' fc l q.1):=by
 unfold aB;unfold iG
 congr 1
 funext r
 congr 1
 funext q
 congr 1
 funext z
 obtain⟨d,h⟩:=z;cases d<;>(try rfl);rename_i b;cases b<;>rfl
@[simp] theorem XB(r:RA):mB r l h=aB (r l h) fun r=>if r.1.length<=sizeLine then some (.tup r.1,r.2)else none:=by rfl
@[simp] theorem aE(r:RA):eD r l h=aB (r l h) fun r=>if r.1.length<=sizeLine then some (.lst r.1,r.2)else none:=by rfl
@[simp] theorem FJ(r:RA):vH r l h=aB (r l h) fun r=>if r.1.length<=sizeLine then some (.ref r.2.length,r.2++[.lst r.1])else none:=by rfl
noncomputable def HQ:Dt×HI->Option (Dt×HI)
 | (.int b,h)=>some (.int (-b),h)
 | _=>none
@[simp] theorem sS(b:Int):HQ (.int b,h)=some (.int (-b),h):=by rfl
@[simp] theorem BU:OI f l h=aB (f l h) HQ:=by
 unfold aB;unfold OI
 congr 1
 funext r
 obtain⟨d,h⟩:=r;cases d<;>rfl
@[simp] theorem pG(i j:Int):AD (.int i) (.int j) h=some (.int (i+j),h):=by rfl
@[simp] theorem xU(i j:Int):iK (.int i) (.int j) h=some (.int (i-j),h):=by rfl
@[simp] theorem lM(i j:Int):JQ (.int i) (.int j) h=some (.bl (decide (i<j)),h):=by rfl
@[simp] theorem UF(i j:Int):JE (.int i) (.int j) h=some (.bl (decide (i<=j)),h):=by rfl
@[simp] theorem KQ(i j:Int):IQ (.int i) (.int j) h=some (.bl (decide (j<=i)),h):=by rfl
theorem PF{i j:Int}(c:Vx i j):iE (.int i) (.int j) h=some (.int (i*j),h):=by simp only[iE,oI,if_pos c]
theorem SD{i j:Int}(c:zI i j):yC (.int i) (.int j) h=some (.int (i/j),h):=by simp only[yC,oI,if_pos c]
theorem yB{i j:Int}(c:0<j):nB (.int i) (.int j) h=some (.int (i%j),h):=by simp only[nB,oI,if_pos c]
theorem L7{i j:Int}(c:AI i j):fD (.int i) (.int j) h=some (.int (i^j.toNat),h):=by simp only[fD,oI,if_pos c]
@[simp] theorem jE(i j:Int):XA (.int i) (.int j) h=some (.bl (decide (i=j)),h):=by show some (Dt.bl (decide (V.int i=V.int j)),h)=_;simp
@[simp] theorem II(i j:Int):VC (.int i) (.int j) h=some (.bl (!decide (i=j)),h):=by show some (Dt.bl (!decide (V.int i=V.int j)),h)=_;simp
@[simp] theorem fB(i j:Str):XA (.str i) (.str j) h=some (.bl (decide (i=j)),h):=by show some (Dt.bl (decide (V.str i=V.str j)),h)=_;simp
@[simp] theorem wU(i j:Str):VC (.str i) (.str j) h=some (.bl (!decide (i=j)),h):=by show some (Dt.bl (!decide (V.str i=V.str j)),h)=_;simp
theorem T8{xs ys:List Dt}(c:DF xs ys=true):XA (.tup xs) (.tup ys) h=some (.bl (wC xs ys),h):=by simp only[XA,if_pos c]
@[simp] theorem UH{α:Type}(xs:List α)(k:Nat):Rq xs (k:Int)=xs[k]?:=by
 unfold Rq zH;rw[if_pos (by omega)];by_cases hk:k<xs.length
 · rw[if_pos (by omega)];simp
 · rw[if_neg (by omega)];simp;omega
@[simp] theorem cD{α:Type}(xs:List α):Rq xs 0=xs[0]?:=UH xs 0
@[simp] theorem mD{α:Type}(xs:List α):Rq xs 1=xs[1]?:=UH xs 1
@[simp] theorem DC(xs:List Dt)(i:Int):pA (.tup xs) (.int i) h=(Rq xs i).map fun d=>(d,h):=by rfl
@[simp] theorem vU(xs:List Dt)(i:Int):pA (.lst xs) (.int i) h=(Rq xs i).map fun d=>(d,h):=by rfl
theorem K7{n:Nat}{xs:List Dt}(e:h[n]?=some (.lst xs))(i:Int):pA (.ref n) (.int i) h=(Rq xs i).map fun d=>(d,h):=by simp only[pA,SE,lB,e,zf]
noncomputable def yV(g:RS):Rs->Option Rs
 | .nx l h=>g l h
 | r=>some r
@[simp] theorem DA(g:RS):yV g (.nx l h)=g l h:=by rfl
@[simp] theorem sB(g:RS)(d:Dt):yV g (.rt d h)=some (.rt d h):=by rfl
@[simp] theorem vA(f g:RS):lA f g l h=aB (f l h) (yV g):=by
 unfold aB;unfold lA
 congr 1
@[simp] theorem QA:NA l h=some (.nx l h):=by rfl
@[simp] theorem qB(i:Nat):SA i f l h=aB (f l h) fun r=>some (.nx (l.set i (some r.1)) r.2):=by rfl
@[simp] theorem eG:rD f l h=aB (f l h) fun r=>some (.nx l r.2):=by rfl
@[simp] theorem HA:BA f l h=aB (f l h) fun r=>some (.rt r.1 r.2):=by rfl
@[simp] theorem GA(t:RT)(f g:RS):zB t f g l h=aB (t l h) fun r=>if r.1=true then f l r.2 else g l r.2:=by rfl
noncomputable def vG:Option Rs->Option (Dt×HI)
 | some (.rt d h')=>some (d,h')
 | some (.nx _ h')=>some (.non,h')
 | _=>none
@[simp] theorem EA(d:Dt):vG (some (.rt d h))=some (d,h):=by rfl
@[simp] theorem mT:vG (some (.nx l h))=some (.non,h):=by rfl
@[simp] theorem V9{c:Prop}[Decidable c](a b:Option Rs):vG (if c then a else b)=if c then vG a else vG b:=by split<;>rfl
@[simp] theorem OA(n N:Nat)(body:RS)(ds:List Dt):FB n N body ds h=if ds.length=n then vG (body (ds.map some++List.replicate (N-n) none) h)else none:=by unfold FB vG;rfl
@[simp] theorem dB(F:kB)(Fv:List Dt)(g:RA):KA F Fv g l h=aB (g l h) fun r=>F (r.1++Fv) r.2:=by rfl
noncomputable def RU(go:LI->HI->Option Rs):Rs->Option Rs
 | .nx l h=>go l h
 | .ct l h=>go l h
 | .bk l h=>some (.nx l h)
 | .rt d h=>some (.rt d h)
@[simp] theorem QP(go:LI->HI->Option Rs):RU go (.nx l h)=go l h:=by rfl
@[simp] theorem R9(go:LI->HI->Option Rs):RU go (.ct l h)=go l h:=by rfl
@[simp] theorem RP(go:LI->HI->Option Rs)(d:Dt):RU go (.rt d h)=some (.rt d h):=by rfl
def MC(bd:RG)(body:RS):List Dt->LI->HI->Option Rs
 | [],l,h=>some (.nx l h)
 | x::xs,l,h=>(bd x l).bind fun l1=>(body l1 h).bind (RU (MC bd body xs))
theorem VR(bd:RG)(body:RS)(xs:List Dt):∀(n k:Nat)(l:LI)(h:HI),n=(xs.length-k)+1->k<=xs.length->xC bd body (.vals xs) n k l h=MC bd body (xs.drop k) l h:=by
 intro n
 induction n with
 | zero=>intro k l h e;omega
 | succ n ih=>
  intro k l h e hk;unfold xC;simp only[Src.at];by_cases hl:k<xs.length
  · rw[getElem?_eq_getElem hl,drop_eq_getElem_cons hl];simp only[MC]
    congr 1
    funext l1
    congr 1
    funext r
    cases r with
    | nx l' h'=>exact ih (k+1) l' h' (by omega) (by omega)
    | ct l' h'=>exact ih (k+1) l' h' (by omega) (by omega)
    | bk l' h'=>rfl
    | rt d h'=>rfl
  · rw[getElem?_eq_none (by omega),drop_eq_nil_of_le (by omega)];rfl
theorem W9{g:RI}{xs:List Dt}{h':HI}(e:g l h=some (.vals xs,h'))(bd:RG)(body:RS):gD g bd body l h=MC bd body xs l h':=by unfold gD;rw[e];simp only[zf,Src.fuel];exact VR bd body xs _ 0 _ _ (by omega) (by omega)
@[simp] theorem OD(i:Nat)(d:Dt):bB i d l=some (l.set i (some d)):=by rfl
def vE(bd:RG)(body:RS)(l:LI):Src×HI->Option Rs:=fun r=>xC bd body r.1 (r.1.fuel r.2) 0 l r.2
@[simp] theorem FD(g:RI)(bd:RG)(body:RS):gD g bd body l h=aB (g l h) (vE bd body l):=by rfl
@[simp] theorem AE(bd:RG)(body:RS)(xs:List Dt):vE bd body l (.vals xs,h)=MC bd body xs l h:=by unfold vE;simp only[Src.fuel];exact VR bd body xs _ 0 _ _ (by omega) (by omega)
noncomputable def sV:Dt×HI->Option (Src×HI)
 | (.int j,h)=>if -(2^62)<=j/\j<2^62 then some (.vals ((List.range j.toNat).map fun(k:Nat)=>Dt.int (k:Int)),h)else none
 | _=>none
@[simp] theorem RJ:JL f l h=aB (f l h) sV:=by
 unfold aB;unfold JL
 congr 1
 funext r
 obtain⟨d,h⟩:=r;cases d<;>rfl
theorem F5{j:Int}(a:-(2^62)<=j)(b:j<2^62):sV (.int j,h)=some (.vals ((List.range j.toNat).map fun(k:Nat)=>Dt.int (k:Int)),h):=if_pos ⟨a,b⟩
noncomputable def tV:Dt->Dt×HI->Option (Src×HI)
 | .int i,(.int j,h)=>if -(2^62)<=i/\i<2^62/\-(2^62)<=j/\j<2^62 then some (.vals ((List.range (j-i).toNat).map fun(k:Nat)=>Dt.int (i+(k:Int))),h)else none
 | _,_=>none
@[simp] theorem a8:KU f g l h=aB (f l h) fun r=>aB (g l r.2) (tV r.1):=by
 unfold aB;unfold KU
 congr 1
 funext r
 obtain⟨d,h⟩:=r
 congr 1
 funext q
 obtain⟨d',h'⟩:=q;cases d<;>cases d'<;>rfl
theorem G5{i j:Int}(a:-(2^62)<=i)(a':i<2^62)(b:-(2^62)<=j)(b':j<2^62):tV (.int i) (.int j,h)=some (.vals ((List.range (j-i).toNat).map fun(k:Nat)=>Dt.int (i+(k:Int))),h):=if_pos ⟨a,a',b,b'⟩
def MI:Dt×HI->Option (Src×HI)
 | (.lst xs,h)=>some (.vals xs,h)
 | (.ref n,h)=>if 0<Src.fuel (.rf n) h then some (.rf n,h)else none
 | _=>none
@[simp] theorem kE(xs:List Dt):MI (.lst xs,h)=some (.vals xs,h):=by rfl
@[simp] theorem NC:UC f l h=aB (f l h) MI:=by
 unfold aB;unfold UC EQ;cases f l h with
 | none=>rfl
 | some r=>obtain⟨d,h⟩:=r;cases d<;>first | rfl | (simp[MI,Src.fuel];done)
noncomputable def dD(bd:RG)(tc:RT)(te:RE):List Dt->LI->HI->Option (List Dt×HI)
 | [],_,h=>some ([],h)
 | x::xs,l,h=>(bd x l).bind fun l1=>(tc l1 h).bind fun b=>if b.1=true then(te l1 b.2).bind fun r=>(dD bd tc te xs l1 r.2).bind fun q=>some (r.1::q.1,q.2)
  else dD bd tc te xs l1 b.2
theorem oX(bd:RG)(tc:RT)(te:RE)(xs:List Dt)(hx:xs.length<sizeLine):∀(n k:Nat)(l:LI)(h:HI)(ys:List Dt),n=(xs.length-k)+1->k<=xs.length->ys.length<=k->
 BD bd tc te (.vals xs) n k l h ys=(dD bd tc te (xs.drop k) l h).bind fun q=>some (ys++q.1,q.2):=by
 intro n
 induction n with
 | zero=>intro k l h ys e;omega
 | succ n ih=>
  intro k l h ys e hk hy;unfold BD;simp only[Src.at];by_cases hl:k<xs.length
  · rw[getElem?_eq_getElem hl,drop_eq_getElem_cons hl];simp only[dD];cases bd xs[k] l with
    | none=>rfl
    | some l1=>
     simp only[zf];cases tc l1 h with
     | none=>rfl
     | some b=>
      simp only[zf];by_cases hb:b.1=true
      · simp only[if_pos hb];cases te l1 b.2 with
        | none=>rfl
        | some r=>
         simp only[zf];rw[if_pos (by omega),ih (k+1) l1 r.2 _ (by omega) (by omega) (by simp;omega)];cases dD bd tc te (xs.drop (k+1)) l1 r.2 with
         | none=>rfl
         | some q=>simp
      · simp only[if_neg hb];exact ih (k+1) l1 b.2 ys (by omega) (by omega) (by omega)
  · rw[getElem?_eq_none (by omega),drop_eq_nil_of_le (by omega)];simp[dD]
def iF(bd:RG)(tc:RT)(te:RE)(l:LI):Src×HI->Option (List Dt×HI):=fun r=>BD bd tc te r.1 (r.1.fuel r.2) 0 l r.2 []
theorem ZF(bd:RG)(tc:RT)(te:RE){xs:List Dt}(hx:xs.length<sizeLine):iF bd tc te l (.vals xs,h)=dD bd tc te xs l h:=by unfold iF;simp only[Src.fuel];rw[oX bd tc te xs hx _ 0 _ _ _ (by omega) (by omega) (by simp)];rw[drop_zero];cases dD bd tc te xs l h<;>simp
@[simp] theorem BF(g:RI)(bd:RG)(tc:RT)(te:RE)(cap:List (Option Nat)):QD g bd tc te cap l h=aB (aB (g l h) (iF bd tc te (UD l cap))) fun q=>some (.lst q.1,q.2):=by unfold aB;unfold QD iF;rw[Option.bind_assoc]
@[simp] theorem bT(g:RI)(bd:RG)(tc:RT)(te:RE)(cap:List (Option Nat)):UG g bd tc te cap l h=aB (aB (g l h) (iF bd tc te (UD l cap))) fun q=>some (.ref q.2.length,q.2++[.lst q.1]):=by unfold aB;unfold UG iF;rw[Option.bind_assoc]
@[simp] theorem dP:dC l h=some (true,h):=by rfl
@[simp] theorem BE:UD l []=[]:=by rfl
@[simp] theorem EE(cap:List (Option Nat)):UD l (none::cap)=none::UD l cap:=by rfl
@[simp] theorem eJ(j:Nat)(cap:List (Option Nat)):UD l (some j::cap)=(l[j]?).join::UD l cap:=by rfl
theorem OO{α:Type}{te:RE}{i:Nat}{tc:RT}(D:α->Dt)(p:α->Bool)(F:α->Dt)(h:HI):∀(xs:List α)(l:LI),(∀x∈xs,tc (l.set i (some (D x))) h=some (p x,h)/\(p x=true->te (l.set i (some (D x))) h=some (F x,h)))->
 dD (bB i) tc te (xs.map D) l h=some ((xs.filter p).map F,h)
 | [],_,_=>rfl
 | x::xs,l,H=>by
  have hx:=H x (by simp);have ih:=OO D p F h xs (l.set i (some (D x))) (te:=te) (tc:=tc) (i:=i) (fun y hy=>by
   rw[set_set];exact H y (by simp[hy]))
  simp only[Zr,dD,OD,zf,hx.1];by_cases hp:p x=true
  · simp only[hp,if_true,hx.2 hp,zf,ih];simp[hp]
  · simp only[hp];rw[if_neg (by simp),ih];simp[hp]
theorem fJ{α:Type}{te:RE}{i:Nat}{tc:RT}(D:α->Dt)(F:α->Dt)(h:HI)(xs:List α)(l:LI)(H:∀x∈xs,tc (l.set i (some (D x))) h=some (true,h)/\te (l.set i (some (D x))) h=some (F x,h)) :
 dD (bB i) tc te (xs.map D) l h=some (xs.map F,h):=by
 rw[OO D (fun _=>true) F h xs l fun x hx=>⟨(H x hx).1,fun _=>(H x hx).2⟩,filter_eq_self.mpr (by simp)]
@[simp] theorem HC(F:Dt->HI->Option (Dt×HI)):GC F f l h=aB (f l h) fun r=>F r.1 r.2:=by rfl
@[simp] theorem AJ(xs:List Dt):YB (.lst xs) h=some (.int xs.length,h):=by rfl
@[simp] theorem y3(xs:List Dt):YB (.tup xs) h=some (.int xs.length,h):=by rfl
theorem zP{n:Nat}{xs:List Dt}(e:h[n]?=some (.lst xs)):YB (.ref n) h=some (.int xs.length,h):=by simp only[YB,SE,lB,e,vf]
@[simp] theorem VO(xs:List Dt):YG (.lst xs) h=some (.ref h.length,h++[.lst xs]):=by rfl
@[simp] theorem T9(T:String):vC T f l h=aB (f l h) fun r=>(tE r.2 r.1).map fun t=>(.bl (eM t T),r.2):=by rfl
@[simp] theorem S9 (b:Int):tE h (.int b)=some "int" :=by rfl
@[simp] theorem Q9:eM "int" "int" =true:=by decide +kernel
@[simp] theorem P9:eM "int" "bool" =false:=by decide +kernel
noncomputable def b9:Dt×HI->Option (Option Int×HI)
 | (.int i,h)=>some (some i,h)
 | _=>none
@[simp] theorem J2(i:Int):b9 (.int i,h)=some (some i,h):=by rfl
@[simp] theorem d8:MQ f l h=aB (f l h) b9:=by
 unfold aB;unfold MQ
 congr 1
 funext r
 obtain⟨d,h⟩:=r;cases d<;>rfl
@[simp] theorem Z7(lo hi:RO):iV f lo hi l h=aB (f l h) fun r=>aB (lo l r.2) fun o=>aB (hi l o.2) fun u=>(lB u.2 r.1).map fun xs=>(.lst (tH xs o.1 u.1),u.2):=by rfl
@[simp] theorem FO(xs:List Dt):lB h (.lst xs)=some xs:=by rfl
theorem IK{n:Nat}{xs:List Dt}(e:h[n]?=some (.lst xs)):lB h (.ref n)=some xs:=by simp only[lB,e]
@[simp] theorem X9:sizeLine=16777216:=by rfl
noncomputable def WL(g:RE)(l:LI):Dt×HI->Option (Dt×HI)
 | (.ref n,h)=>(match h[n]? with
  | some (.lst _)=>(g l h).bind fun q=>match q.2[n]? with
   | some (.lst xs)=>if xs.length<sizeLine then some (.non,q.2.set n (.lst (xs++[q.1])))else none
   | _=>none
  | _=>none)
 | _=>none
@[simp] theorem PK:bE f g l h=aB (f l h) (WL g l):=by
 unfold aB;unfold bE
 congr 1
 funext r
 obtain⟨d,h⟩:=r;cases d<;>(try rfl)
theorem PH{n:Nat}{xs ys:List Dt}{d:Dt}{h':HI}(e:h[n]?=some (.lst ys))(eg:g l h=some (d,h'))(e':h'[n]?=some (.lst xs))(c:xs.length<sizeLine):WL g l (.ref n,h)=some (.non,h'.set n (.lst (xs++[d]))):=by simp only[WL,e,eg,zf,e',if_pos c]
end
noncomputable def Pass(I:LI->HI->Prop):Rs->Prop
 | .nx l h=>I l h
 | .ct l h=>I l h
 | _=>False
theorem JO{α:Type}{i:Nat}{body:RS}(D:α->Dt)(I:LI->HI->Prop)(xs:List α)(H:∀x∈xs,∀l h,I l h->∃r,body (l.set i (some (D x))) h=some r/\Pass I r) :
 ∀l h,I l h->∃l' h',MC (bB i) body (xs.map D) l h=some (.nx l' h')/\I l' h':=by
 induction xs with
 | nil=>intro l h i;exact⟨l,h,rfl,i⟩
 | cons x xs ih=>
  intro l h i;obtain⟨r,e,p⟩:=H x (by simp) l h i;cases r with
  | nx l2 h2=>obtain⟨l',h',e',i'⟩:=ih (fun y hy=>H y (by simp[hy])) l2 h2 p;exact⟨l',h',by simp[MC,e,e'],i'⟩
  | ct l2 h2=>obtain⟨l',h',e',i'⟩:=ih (fun y hy=>H y (by simp[hy])) l2 h2 p;exact⟨l',h',by simp[MC,e,e'],i'⟩
  | bk l2 h2=>exact p.elim
  | rt d h2=>exact p.elim
section
variable{l:LI}{h:HI}{f g:RE}
@[simp] theorem N9(bs:List Bool):PD (bs.map Dt.bl)=some bs:=by
 induction bs with
 | nil=>rfl
 | cons n ns ih=>simp[PD,ih]
theorem qU(bs:List Bool):wH (.lst (bs.map Dt.bl)) h=some (.bl (bs.all id),h):=by simp[wH,lB]
@[simp] theorem w5(i j:Nat)(a b:Dt):tI i j (.tup [a,b]) l=some ((l.set i (some a)).set j (some b)):=by rfl
end
theorem HG{h:HI}{n:Nat}{xs:List Dt}(e:h[n]?=some (.lst xs)):MI (.ref n,h)=some (.rf n,h):=by
 have:0<Src.fuel (.rf n) h:=by simp only[Src.fuel,e];omega
 simp only[MI,if_pos this]
section
variable{l:LI}{h:HI}{f g fe fo fi fa fb:RE}
def pM(l:LI)(v o:Dt):Dt×HI->Option Rs
 | (.int k,h)=>(match o with
  | .ref n=>(match h[n]? with
   | some (.lst xs)=>(zH xs.length k).bind fun j=>some (.nx l (h.set n (.lst (xs.set j v))))
   | _=>none)
  | _=>none)
 | _=>none
@[simp] theorem D5:HJ fe fo fi l h=aB (fe l h) fun v=>aB (fo l v.2) fun o=>aB (fi l o.2) (pM l v.1 o.1):=by
 unfold aB HJ
 congr 1
 funext v
 congr 1
 funext o
 congr 1
 funext i
 obtain⟨d,h⟩:=o;obtain⟨k,h⟩:=i;cases k<;>cases d<;>rfl
theorem Y1{n k:Nat}(hk:k<n):zH n (k:Int)=some k:=by unfold zH;rw[if_pos (by omega),if_pos (by omega)];simp
theorem iT{n k:Nat}{xs:List Dt}{v:Dt}(e:h[n]?=some (.lst xs))(hk:k<xs.length):pM l v (.ref n) (.int (k:Int),h)=some (.nx l (h.set n (.lst (xs.set k v)))):=by simp only[pM,e,Y1 hk,zf]
noncomputable def bM(fa:RE)(l:LI):Dt×HI->Option (Dt×HI)
 | (.ref n,h)=>(match h[n]? with
  | some (.lst _)=>(fa l h).bind fun q=>match q.1 with
   | .ref m=>(match q.2[n]?,q.2[m]? with
    | some (.lst xs),some (.lst ys)=>if xs.length+ys.length<=sizeLine then some (.non,q.2.set n (.lst (xs++ys)))else none
    | _,_=>none)
   | _=>none
  | _=>none)
 | _=>none
@[simp] theorem cT:YK fo fa l h=aB (fo l h) (bM fa l):=by
 unfold aB YK
 congr 1
 funext r
 obtain⟨d,h⟩:=r;cases d<;>(try rfl)
theorem jS{n m:Nat}{xs ys zs:List Dt}{h':HI}(e:h[n]?=some (.lst zs))(eg:fa l h=some (.ref m,h'))(e1:h'[n]?=some (.lst xs))(e2:h'[m]?=some (.lst ys))(c:xs.length+ys.length<=sizeLine):bM fa l (.ref n,h)=some (.non,h'.set n (.lst (xs++ys))):=by simp only[bM,e,eg,zf,e1,e2,if_pos c]
end
theorem SK{α:Type}{i:Nat}{body:RS}(D:α->Dt)(S:Nat->LI->HI->Prop):∀(xs:List α)(k0:Nat)(_:∀(k:Nat) x,xs[k]?=some x->∀l h,S (k0+k) l h->∃r,body (l.set i (some (D x))) h=some r/\Pass (S (k0+k+1)) r)(l:LI)(h:HI),S k0 l h->
 ∃l' h',MC (bB i) body (xs.map D) l h=some (.nx l' h')/\S (k0+xs.length) l' h'
 | [],k0,_,l,h,s=>⟨l,h,rfl,s⟩
 | x::xs,k0,H,l,h,s=>by
  obtain⟨r,e,p⟩:=H 0 x rfl l h s;have H':∀(k:Nat) y,xs[k]?=some y->∀l h,S (k0+1+k) l h->∃r,body (l.set i (some (D y))) h=some r/\Pass (S (k0+1+k+1)) r:=by intro k y hy l h s;have:=H (k+1) y (by simpa using hy) l h (by rw[show k0+(k+1)=k0+1+k by omega];exact s);rw[show k0+(k+1)+1=k0+1+k+1 by omega]at this;exact this
  cases r with
  | nx l2 h2=>obtain⟨l',h',e',i'⟩:=SK D S xs (k0+1) H' l2 h2 p;exact⟨l',h',by simp[MC,e,e'],by rw[Xr,show k0+(xs.length+1)=k0+1+xs.length by omega];exact i'⟩
  | ct l2 h2=>obtain⟨l',h',e',i'⟩:=SK D S xs (k0+1) H' l2 h2 p;exact⟨l',h',by simp[MC,e,e'],by rw[Xr,show k0+(xs.length+1)=k0+1+xs.length by omega];exact i'⟩
  | bk l2 h2=>exact p.elim
  | rt d h2=>exact p.elim
theorem aQ{α:Type}{i n:Nat}{body:RS}(D:α->Dt)(S:Nat->LI->HI->Prop)(xs:List α)(hS:∀k l h,S k l h->h[n]?=some (.lst (xs.map D)))(H:∀(k:Nat) x,xs[k]?=some x->∀l h,S k l h->∃r,body (l.set i (some (D x))) h=some r/\Pass (S (k+1)) r)
 (l:LI) (h:HI) (h0:S 0 l h):∃l' h',vE (bB i) body l (.rf n,h)=some (.nx l' h')/\S xs.length l' h':=by
 have go:∀(f k:Nat)(l:LI)(h:HI),S k l h->f=xs.length-k+1->k<=xs.length->∃l' h',xC (bB i) body (.rf n) f k l h=some (.nx l' h')/\S xs.length l' h':=by
  intro f
  induction f with
  | zero=>intro k l h _ e;omega
  | succ f ih=>
   intro k l h i0 e hk;unfold xC;simp only[Src.at,hS k l h i0,getElem?_map];by_cases hl:k<xs.length
   · rw[getElem?_eq_getElem hl];obtain⟨r,e1,p1⟩:=H k xs[k] (getElem?_eq_getElem hl) l h i0;simp only[vf,OD,zf,e1];cases r with
     | nx l2 h2=>exact ih (k+1) l2 h2 p1 (by omega) (by omega)
     | ct l2 h2=>exact ih (k+1) l2 h2 p1 (by omega) (by omega)
     | bk l2 h2=>exact p1.elim
     | rt d h2=>exact p1.elim
   · rw[getElem?_eq_none (by omega)];have:k=xs.length:=by omega
     subst this;exact⟨l,h,rfl,i0⟩
 have hf:Src.fuel (.rf n) h=xs.length-0+1:=by simp only[Src.fuel,hS 0 l h h0,length_map];omega
 unfold vE;exact go _ 0 l h h0 hf (Nat.zero_le _)
section
variable{l:LI}{h:HI}{fo fi fe f fa:RE}
end
noncomputable def pQ(I:LI->HI->Prop)(E:Dt->HI->Prop):Rs->Prop
 | .nx l h=>I l h
 | .rt d h=>E d h
 | _=>False
theorem J5{α:Type}{i n:Nat}{body:RS}(D:α->Dt)(S:Nat->LI->HI->Prop)(E:Dt->HI->Prop)(xs:List α)(hS:∀k l h,S k l h->h[n]?=some (.lst (xs.map D)))(H:∀(k:Nat) x,xs[k]?=some x->∀l h,S k l h->∃r,body (l.set i (some (D x))) h=some r/\pQ (S (k+1)) E r)
 (l:LI) (h:HI) (h0:S 0 l h):∃r,vE (bB i) body l (.rf n,h)=some r/\pQ (S xs.length) E r:=by
 have go:∀(f k:Nat)(l:LI)(h:HI),S k l h->f=xs.length-k+1->k<=xs.length->∃r,xC (bB i) body (.rf n) f k l h=some r/\pQ (S xs.length) E r:=by
  intro f
  induction f with
  | zero=>intro k l h _ e;omega
  | succ f ih=>
   intro k l h i0 e hk;unfold xC;simp only[Src.at,hS k l h i0,getElem?_map];by_cases hl:k<xs.length
   · rw[getElem?_eq_getElem hl];obtain⟨r,e1,p1⟩:=H k xs[k] (getElem?_eq_getElem hl) l h i0;simp only[vf,OD,zf,e1];cases r with
     | nx l2 h2=>exact ih (k+1) l2 h2 p1 (by omega) (by omega)
     | rt d h2=>exact⟨_,rfl,p1⟩
     | bk l2 h2=>exact p1.elim
     | ct l2 h2=>exact p1.elim
   · rw[getElem?_eq_none (by omega)];have:k=xs.length:=by omega
     subst this;exact⟨_,rfl,i0⟩
 have hf:Src.fuel (.rf n) h=xs.length-0+1:=by simp only[Src.fuel,hS 0 l h h0,length_map];omega
 unfold vE;exact go _ 0 l h h0 hf (Nat.zero_le _)
section
variable{l:LI}{h:HI}{f g fo fe:RE}{ga:RA}
def cM(x f:Str):Dt×HI->Option (Dt×HI)
 | (.ref n,h)=>(match h[n]? with
  | some (.ins y fs)=>if y=x then(uC f fs).bind fun d=>some (d,h)else none
  | _=>none)
 | _=>none
@[simp] theorem mF(x k:Str):fE x k fo l h=aB (fo l h) (cM x k):=by
 unfold aB fE
 congr 1
 funext r
 obtain⟨d,h⟩:=r;cases d<;>(try rfl)
theorem yF{x k:Str}{n:Nat}{fs:List (Str×Dt)}{d:Dt}(e:h[n]?=some (.ins x fs))(ef:uC k fs=some d):cM x k (.ref n,h)=some (d,h):=by simp only[cM,e,if_true,ef,zf]
def qQ(x f:Str)(v:Dt)(l:LI):Dt×HI->Option Rs
 | (.ref n,h)=>(match h[n]? with
  | some (.ins y fs)=>if y=x/\fs.length<1000 then some (.nx l (h.set n (.ins y (QE f v fs))))else none
  | _=>none)
 | _=>none
@[simp] theorem L6(x k:Str):TJ x k fo fe l h=aB (fe l h) fun r=>aB (fo l r.2) (qQ x k r.1 l):=by
 unfold aB TJ
 congr 1
 funext r
 congr 1
 funext q
 obtain⟨d,h⟩:=q;cases d<;>(try rfl)
theorem BR{x k:Str}{n:Nat}{fs:List (Str×Dt)}{v:Dt}(e:h[n]?=some (.ins x fs))(hl:fs.length<1000):qQ x k v l (.ref n,h)=some (.nx l (h.set n (.ins x (QE k v fs)))):=by simp only[qQ,e,true_and,if_pos hl]
noncomputable def uU(n:Nat):Dt×HI->Option (Dt×HI)
 | (.non,h)=>some (.ref n,h)
 | _=>none
@[simp] theorem LX(n:Nat):uU n (.non,h)=some (.ref n,h):=by rfl
@[simp] theorem K6(x:Str)(F:kB):sL x F ga l h=aB (ga l h) fun r=>aB (F (.ref r.2.length::r.1) (r.2++[.ins x []])) (uU r.2.length):=by
 unfold aB sL
 congr 1
 funext r
 congr 1
 funext q
 obtain⟨d,h⟩:=q;cases d<;>(try rfl)
def UP(x m:Str)(F:kB)(ga:RA)(l:LI):Dt×HI->Option (Dt×HI)
 | (.ref n,h)=>(match h[n]? with
  | some (.ins y fs)=>if y=x/\uC m fs=none then(ga l h).bind fun q=>F (.ref n::q.1) q.2 else none
  | _=>none)
 | _=>none
@[simp] theorem ED(x m:Str)(F:kB):nE x m F fo ga l h=aB (fo l h) (UP x m F ga l):=by
 unfold aB nE
 congr 1
 funext r
 obtain⟨d,h⟩:=r;cases d<;>(try rfl)
theorem YE{x m:Str}{F:kB}{n:Nat}{fs:List (Str×Dt)}(e:h[n]?=some (.ins x fs))(hm:uC m fs=none):UP x m F ga l (.ref n,h)=aB (ga l h) fun q=>F (.ref n::q.1) q.2:=by simp only[UP,e,true_and,if_pos hm];rfl
def cK(fb:RE)(l:LI):Dt×HI->Option (Dt×HI):=fun r=>(fb l r.2).bind fun q=>match r.1,q.1 with
 | .lst xs,.bl b=>(PD xs).bind fun bs=>some (.int ((bs.countP (· ==b):Nat):Int),q.2)
 | _,_=>none
@[simp] theorem aT(fa fb:RE):lP fa fb l h=aB (fa l h) (cK fb l):=by rfl
theorem vS{fb:RE}{bs:List Bool}{b:Bool}(e:fb l h=some (.bl b,h)):cK fb l (.lst (bs.map Dt.bl),h)=some (.int ((bs.countP (· ==b):Nat):Int),h):=by
 have q:PD (bs.map Dt.bl)=some bs:=by
  induction bs with
  | nil=>rfl
  | cons n ns ih=>simp only[Zr,PD,ih,vf]
 simp only[cK,e,zf,q]
def eQ:Dt×HI->Option (Src×HI)
 | (.lst xs,h)=>some (.vals (iH 0 xs),h)
 | (.ref n,h)=>(match h[n]? with
  | some (.lst _)=>some (.en n,h)
  | _=>none)
 | _=>none
@[simp] theorem A5:wL f l h=aB (f l h) eQ:=by
 unfold aB wL
 congr 1
 funext r
 obtain⟨d,h⟩:=r;cases d<;>(try rfl)
theorem RX{n:Nat}{xs:List Dt}(e:h[n]?=some (.lst xs)):eQ (.ref n,h)=some (.en n,h):=by simp only[eQ,e]
end
theorem N8{α:Type}{i j n:Nat}{body:RS}(D:α->Dt)(S:Nat->LI->HI->Prop)(xs:List α)(hS:∀k l h,S k l h->h[n]?=some (.lst (xs.map D)))(H:∀(k:Nat) x,xs[k]?=some x->∀l h,S k l h->∃r,body ((l.set i (some (.int (k:Int)))).set j (some (D x))) h=some r/\Pass (S (k+1)) r)
 (l:LI) (h:HI) (h0:S 0 l h):∃l' h',vE (tI i j) body l (.en n,h)=some (.nx l' h')/\S xs.length l' h':=by
 have go:∀(f k:Nat)(l:LI)(h:HI),S k l h->f=xs.length-k+1->k<=xs.length->∃l' h',xC (tI i j) body (.en n) f k l h=some (.nx l' h')/\S xs.length l' h':=by
  intro f
  induction f with
  | zero=>intro k l h _ e;omega
  | succ f ih=>
   intro k l h i0 e hk;unfold xC;simp only[Src.at,hS k l h i0,getElem?_map];by_cases hl:k<xs.length
   · rw[getElem?_eq_getElem hl];obtain⟨r,e1,p1⟩:=H k xs[k] (getElem?_eq_getElem hl) l h i0;simp only[vf,w5,zf,e1];cases r with
     | nx l2 h2=>exact ih (k+1) l2 h2 p1 (by omega) (by omega)
     | ct l2 h2=>exact ih (k+1) l2 h2 p1 (by omega) (by omega)
     | bk l2 h2=>exact p1.elim
     | rt d h2=>exact p1.elim
   · rw[getElem?_eq_none (by omega)];have:k=xs.length:=by omega
     subst this;exact⟨l,h,rfl,i0⟩
 have hf:Src.fuel (.en n) h=xs.length-0+1:=by simp only[Src.fuel,hS 0 l h h0,length_map];omega
 unfold vE;exact go _ 0 l h h0 hf (Nat.zero_le _)
end SM
namespace L2
section
variable{X:Cx}{a b c d:Expr}{ta tb tc td:TE}{pos:Pos}
noncomputable def Q3(r r' r'':R2)(ta tb tc td:TE):TE:=fun σ H Q=>ta σ H fun x H1=>tb σ H1 fun y H2=>r x y H2 fun z H3=>∃k,z=.bl k/\
 (if k=true then tc σ H3 fun y' H4=>r' y y' H4 fun z' H5=>∃k',z'=.bl k'/\(if k'=true then td σ H5 fun w' H6=>r'' y' w' H6 Q else Q (.bl false) H5)else Q (.bl false) H3)
theorem cZ{o1 o2 o3:CmpOp}{r r' r'':R2}(h1:xq X (compareOp o1) r)(h2:xq X (compareOp o2) r')(h3:xq X (compareOp o3) r'')(ha:PE X a ta)(hb:PE X b tb)(hc:PE X c tc)(hd:PE X d td)
 (hm:lastMarks [o1,o2,o3] [b,c,d]=false:=by with_unfolding_all rfl):PE X (.Compare a [o1,o2,o3] [b,c,d] pos) (Q3 r r' r'' ta tb tc td):=by
 intro pins s σ H Q I h;refine Compare_chain (WA (ha pins s σ H _ I h) fun v s1 ⟨x,H1,I1,r1,q1⟩=>chain_link (WA (hb pins s1 σ H1 _ I1 q1) fun u s2 ⟨y,H2,I2,r2,q2⟩=>WA (h1 pins s2 σ H2 x y v u _ I2 r1 r2 q2) fun d s3 zz=>?_)) hm;obtain⟨z,H3,I3,r3,k,e,q3⟩:=zz;subst e;cases r3;refine wpAny_truthy_bool ?_;cases k with
 | false=>exact ite_ff ⟨.bl false,H3,I3,rfl,q3⟩
 | true=>
  refine ite_tt (chain_link (WA (hc pins s3 σ H3 _ I3 q3) fun u4 s4 ⟨y4,H4,I4,r4,q4⟩=>WA (h2 pins s4 σ H4 y y4 u u4 _ I4 r2 r4 q4) fun d5 s5 zz=>?_));obtain⟨z5,H5,I5,r5,k5,e5,q5⟩:=zz;subst e5;cases r5;refine wpAny_truthy_bool ?_;cases k5 with
  | false=>exact ite_ff ⟨.bl false,H5,I5,rfl,q5⟩
  | true=>exact ite_tt (chain_last (WA (hd pins s5 σ H5 _ I5 q5) fun u6 s6 ⟨y6,H6,I6,r6,q6⟩=>h3 pins s6 σ H6 y4 y6 u4 u6 Q I6 r4 r6 q6))
end
end L2
namespace SM
section
variable{X:Cx}{a b c d e:Expr}{fa fb fc fd f:RE}{p pos apos cpos:Pos}
noncomputable def QG(o o' yr:RC)(fa fb fc fd:RE):RE:=fun l h=>(fa l h).bind fun r=>(fb l r.2).bind fun q=>(o r.1 q.1 q.2).bind fun z=>match z.1 with
 | .bl true=>(fc l z.2).bind fun y=>(o' q.1 y.1 y.2).bind fun z2=>match z2.1 with
  | .bl true=>(fd l z2.2).bind fun w=>yr y.1 w.1 w.2
  | .bl false=>some (.bl false,z2.2)
  | _=>none
 | .bl false=>some (.bl false,z.2)
 | _=>none
theorem QR{p1 p2 p3:CmpOp}{r r' r'':RC}(ho:OM X (compareOp p1) r)(ho':OM X (compareOp p2) r')(ho'':OM X (compareOp p3) r'')(ha:EM X a fa)(hb:EM X b fb)(hc:EM X c fc)(hd:EM X d fd)
 (hm:lastMarks [p1,p2,p3] [b,c,d]=false:=by with_unfolding_all rfl):EM X (.Compare a [p1,p2,p3] [b,c,d] pos) (QG r r' r'' fa fb fc fd):=by
 with_unfolding_all
  exact PE.imp (cZ ho ho' ho'' ha hb hc hd hm) fun σ H Q zz=>by
   obtain⟨ρ,l,h,d,h',S,L,e,k⟩:=zz;obtain⟨⟨d1,h1⟩,e1,e⟩:=kA e;obtain⟨⟨d2,h2⟩,e2,e⟩:=kA e;obtain⟨⟨d3,h3⟩,e3,e⟩:=kA e;refine⟨ρ,l,h,d1,h1,S,L,e1,fun ρ1 x H1 R1 S1 E1=>⟨ρ1,l,h1,d2,h2,S1,L.ext E1,e2,fun ρ2 y H2 R2 S2 E2=>⟨ρ2,h2,d1,d2,d3,h3,S2,cj.ext E2 _ R1,R2,e3,fun ρ3 v H3 R3 S3 E3=>?_⟩⟩⟩;cases d3 with
   | bl q=>
    refine⟨q,fj.mp R3,?_⟩;cases q with
    | true=>
     dsimp only at e;obtain⟨⟨d4,h4⟩,e4,e⟩:=kA e;obtain⟨⟨d5,h5⟩,e5,e⟩:=kA e;refine yE ⟨ρ3,l,h3,d4,h4,S3,(L.ext (E1.trans (E2.trans E3))),e4,fun ρ4 u H4 R4 S4 E4=>⟨ρ4,h4,d2,d4,d5,h5,S4,cj.ext (E3.trans E4) _ R2,R4,e5,fun ρ5 v5 H5 R5 S5 E5=>?_⟩⟩;cases d5 with
     | bl q5=>
      refine⟨q5,fj.mp R5,?_⟩;cases q5 with
      | true=>dsimp only at e;obtain⟨⟨d6,h6⟩,e6,e⟩:=kA e;exact yE ⟨ρ5,l,h5,d6,h6,S5,(L.ext (E1.trans (E2.trans (E3.trans (E4.trans E5))))),e6,fun ρ6 u6 H6 R6 S6 E6=>⟨ρ6,h6,d4,d6,d,h',S6,cj.ext (E5.trans E6) _ R4,R6,e,k.ext (E1.trans (E2.trans (E3.trans (E4.trans (E5.trans E6)))))⟩⟩
      | false=>cases e;exact xE (k ρ5 _ H5 (fj.mpr rfl) S5 (E1.trans (E2.trans (E3.trans (E4.trans E5)))))
     | _=>cases e
    | false=>cases e;exact xE (k ρ3 _ H3 (fj.mpr rfl) S3 (E1.trans (E2.trans E3)))
   | _=>cases e
end
end SM
namespace L2
open Builtin Builtin.Str
section
variable{X:Cx}
end
end L2
namespace SM
section
variable{X:Cx}{a b e:Expr}{fa fb f:RE}{p1 p2 pos apos cpos:Pos}
end
end SM
namespace L2
section
variable{X:Cx}{tg:Expr}
end
end L2
namespace SM
section
variable{X:Cx}{a b e:Expr}{fa fb f:RE}{p1 p2 pos apos cpos:Pos}
def nL(fa fb:RE):RE:=fun l h=>(fa l h).bind fun r=>(fb l r.2).bind fun q=>match r.1 with
 | .str z=>(lB q.2 q.1).bind fun xs=>(mG xs).bind fun ts=>if PySem.JoinOk z ts=true then some (.str (Str.join z ts),q.2)else none
 | _=>none
theorem yY (ho:EM X a fa) (hb:EM X b fb) (hbase:attributeBase a "join" X.env (eval a X.env)=eval a X.env:=by rfl)
 (hline:(apos.endLine==cpos.line)=true:=by rfl) (hs:oB b=true:=by rfl) :
 EM X (.Call (.Attribute a "join" apos) [b] [] cpos) (nL fa fb):=by
 with_unfolding_all
  exact PE.imp (QJ PySem.F.plainAttrs_str PySem.F.slot_str_join PySem.F.type_str_join D0 ho (FC hb tD (pB hs _ _)) hbase (pJ hs) hline (pB hs _ _)) fun σ H Q zz=>by
   obtain⟨ρ,l,h,d,h',S,L,e,k⟩:=zz;obtain⟨⟨d1,h1⟩,e1,e⟩:=kA e;obtain⟨⟨d2,h2⟩,e2,e⟩:=kA e;refine⟨ρ,l,h,d1,h1,S,L,e1,fun ρ1 v H1 R1 S1 E1=>?_⟩;dsimp only at e;split at e
   · cases kj.mp R1;refine⟨rfl,ρ1,l,h1,d2,h2,S1,L.ext E1,e2,fun ρ2 y H2 R2 S2 E2=>?_⟩;obtain⟨xs,e3,e⟩:=kA e;obtain⟨ts,e4,e⟩:=kA e;obtain⟨ok,e⟩:=yH e;cases e;obtain⟨p,vs,zz,sq,rs⟩:=dF S2 R2 e3;subst zz;have:=DZ e4 rs;subst this;exact⟨_,p,ts,rfl,rfl,sq,ok,k ρ2 _ H2 (kj.mpr rfl) S2 (E1.trans E2)⟩
   · cases e
def CD(fo fa:RE):RE:=fun l h=>(fo l h).bind fun r=>(lB r.2 r.1).bind fun _=>(fa l r.2).bind fun q=>(lB q.2 r.1).bind fun xs=>if lF xs q.1=true then(hE xs q.1).map fun j=>(.int (j:Nat),q.2)else none
theorem GK (hu:X.A.units+64<cLine) (ho:EM X a fa) (hb:EM X b fb) (hbase:attributeBase a "index" X.env (eval a X.env)=eval a X.env:=by rfl)
 (hline:(apos.endLine==cpos.line)=true:=by rfl) (hs:oB b=true:=by rfl) :
 EM X (.Call (.Attribute a "index" apos) [b] [] cpos) (CD fa fb):=by
 with_unfolding_all exact PE.imp (QJ PySem.F.plainAttrs_list PySem.F.slot_list_index PySem.F.type_list_index (UY hu) ho (FC hb tD (pB hs _ _)) hbase (pJ hs) hline (pB hs _ _)) fun σ H Q zz=>by obtain⟨ρ,l,h,d,h',S,L,e,k⟩:=zz;obtain⟨⟨d1,h1⟩,e1,e⟩:=kA e;obtain⟨xs0,e0,e⟩:=kA e;obtain⟨⟨d2,h2⟩,e2,e⟩:=kA e;obtain⟨xs,e3,e⟩:=kA e;obtain⟨ok,e⟩:=yH e;obtain⟨j,q,e⟩:=Option.map_eq_some_iff.mp e;cases e;refine⟨ρ,l,h,d1,h1,S,L,e1,fun ρ1 v H1 R1 S1 E1=>?_⟩;obtain⟨x,Hr,z,Cr,_⟩:=dF S1 R1 e0;subst z;refine⟨.inl ⟨rfl,Hr,Cr⟩,ρ1,l,h1,d2,h2,S1,L.ext E1,e2,fun ρ2 y H2 R2 S2 E2=>?_⟩;obtain⟨x',ws,z,sq,rs⟩:=dF S2 (cj.ext E2 _ R1) e3;cases z;exact⟨ρ2,xs,d2,y,x,ws,j,rfl,rfl,by rw[if_neg Gf];exact sq,rs,R2,ok,q,k ρ2 _ H2 (dj.mpr rfl) S2 (E1.trans E2)⟩
def GI:RC:=fun a b h=>(lB h b).bind fun xs=>if lF xs a=true then some (.bl (xs.any fun x=>GB x a),h)else none
theorem f7(hu:X.A.units+64<cLine):OM X (compareOp .In) GI:=by
 with_unfolding_all
  exact fun pins s σ H x y v u Q I rx ry zz=>by
   obtain⟨ρ,h,d1,d2,d,h',S,R1,R2,e,k⟩:=zz;obtain⟨xs,e1,e⟩:=kA e;obtain⟨ok,e⟩:=yH e;cases e;obtain⟨p,ws,z,sq,rs⟩:=dF S R2 e1;subst z;cases ry;simp only[lF,Bool.and_eq_true,decide_eq_true_eq]at ok;obtain⟨its,rv,pl,hz⟩:=I.list sq;obtain⟨f,g1,g2⟩:=sU I X.A.in1 ok.1.1 ok.1.2 (by have:=iJ X.A;omega) rs R1 rv rx;have hl:its.length=xs.length:=by rw[<- rv.length,rs.length]
   refine SeqAt.in_listAt f pl.isList (fun w hw=>g2 w (by simpa using hw)) ⟨.bl _,H,I,rfl,?_⟩;have:its.toArray.any f=xs.any fun x=>GB x d1:=by
    rw[show its.toArray.any f=its.any f by simp];have em:its.map f=xs.map fun x=>GB x d1:=by apply ext_getElem (by simp[hl]);intro n h1 h2;rw[getElem_map,getElem_map,g1 n (by simpa using h1)];unfold yI;rw[getElem?_eq_getElem (by simpa using h2)]
    have:=congrArg (fun l=>l.any id) em;simpa[any_map]using this
   rw[this];exact k ρ _ H (fj.mpr rfl) S (Ext.refl _ _)
end
section
variable{X:Cx}{tg:Expr}
end
end SM
namespace L2
section
variable{prog:Program}{w:World}{A:Around}{E:Value->Shared->Prop}{s:Shared}
end
section
variable{X:Cx}
end
end L2
namespace SM
section
variable{X:Cx}
end
end SM
namespace G
def top(i:Nat):Stmt:=PySem.Challenge.pw_spanways_k26_a_book_kept.main.body.getD i (.Pass ⟨0,0,0,0⟩)
noncomputable abbrev oQ:Dt:=(.int 8191)
noncomputable abbrev eP:Dt:=(.int 60)
noncomputable abbrev LO:Dt:=(.int 6)
noncomputable abbrev dO:Dt:=(.int 6)
noncomputable abbrev EK:Dt:=(.int 1000000000000000000)
noncomputable def Zj:List (Str×Bool):=[("BadText",false),("Twice",false),("NoLabel",false),("NoName",false),("TooMany",false),("BadFact",true)]
noncomputable def aq:List (Str×Bool):=[("BadText",true),("Twice",false),("NoLabel",false),("NoName",false),("TooMany",false),("BadFact",false)]
noncomputable def gq:List (Str×Bool):=[("BadText",false),("Twice",false),("NoLabel",true),("NoName",false),("TooMany",false),("BadFact",false)]
noncomputable def Bq:List (Str×Bool):=[("BadText",false),("Twice",false),("NoLabel",false),("NoName",true),("TooMany",false),("BadFact",false)]
noncomputable def jq:List (Str×Bool):=[("BadText",false),("Twice",false),("NoLabel",false),("NoName",false),("TooMany",true),("BadFact",false)]
noncomputable def Hq:List (Str×Bool):=[("BadText",false),("Twice",true),("NoLabel",false),("NoName",false),("TooMany",false),("BadFact",false)]
noncomputable def Pj:List (Str×Bool):=[("BadText",true),("Twice",true),("NoLabel",true),("NoName",true),("TooMany",true),("BadFact",true)]
noncomputable def NL:List Str:=["Twice", "TooMany", "NoLabel", "NoName", "BadFact"]
abbrev ZQ:Stmt:=DE (top 49) 0
abbrev wM:Stmt:=DE (top 50) 0
abbrev MM:Stmt:=DE (top 51) 0
abbrev yM:Stmt:=DE (top 52) 0
abbrev JN:Stmt:=top 26
def xN:RE:=e2 pA (eV 0) (eC (.int 1))
def yN:RT:=Gj (e2 XA (e2 pA (eV 0) (eC (.int 0))) (eC (.str "one")))
def BN:RS:=BA (QD (UC (eV 0)) (bB 0) yN xN [none])
def tK:kB:=FB 1 1 BN
abbrev KN:Stmt:=top 60
def CN:RS:=BA (QG JE JE JE (eC (.int 0)) (eV 0) (eV 1) (eC EK))
def uK:kB:=FB 2 2 CN
abbrev ZN:Stmt:=top 61
def gO:RS:=lA (zB (Gj (e2 IQ (GC YB (eV 0)) (eC eP))) (BA (eC (.bl false))) NA) (BA (OL (e2 VC (e2 pA (eV 1) (eC (.int 0))) (eC (.str "one"))) (e2 JQ (GC YB (KA tK [] (bA (eV 0) jA))) (eC LO))))
def aJ:kB:=FB 2 2 gO
abbrev bO:Stmt:=top 63
def ZI(R:kB):RS:=rD (YK (eV 1) (KA R [] (bA (eV 2) jA)))
def WF (R:kB):RS:=lA (zB (Gj (e2 XA (e2 pA (eV 0) (eC (.int 0))) (eC (.str "ways")))) (BA (vH (bA (e2 pA (eV 0) (eC (.int 1))) (bA (e2 pA (eV 0) (eC (.int 3))) jA)))) NA) (lA (zB (Gj (e2 XA (e2 pA (eV 0) (eC (.int 0))) (eC (.str "long")))) (BA (vH (bA (e2 pA (eV 0) (eC (.int 1))) jA))) NA) (lA (SA 1 (vH jA)) (lA (gD (UC (e2 pA (eV 0) (eC (.int 1)))) (bB 2) (ZI R)) (BA (eV 1)))))
def XD(n:Nat):kB:=Nat.rec (fun _ _=>none) (fun _ R=>FB 1 3 (WF R)) n
abbrev aO:Stmt:=top 64
def GH(R:kB):RE:=KA R [] (bA (eV 0) jA)
def bG (R:kB):RS:=lA (zB (Gj (e2 XA (e2 pA (eV 0) (eC (.int 0))) (eC (.str "ways")))) (BA (DH (e2 VC (e2 pA (eV 0) (eC (.int 1))) (e2 pA (eV 0) (eC (.int 3)))) (iG JE JE (eC (.int 0)) (e2 pA (eV 0) (eC (.int 2))) (eC oQ)))) NA) (lA (zB (Gj (e2 XA (e2 pA (eV 0) (eC (.int 0))) (eC (.str "long")))) (BA (KA uK [] (bA (e2 pA (eV 0) (eC (.int 2))) (bA (e2 pA (eV 0) (eC (.int 3))) jA)))) NA) (BA (DH (iG JE JE (eC (.int 1)) (GC YB (e2 pA (eV 0) (eC (.int 1)))) (eC dO)) (GC wH (QD (UC (e2 pA (eV 0) (eC (.int 1)))) (bB 0) dC ((GH R)) [none])))))
def lE(n:Nat):kB:=Nat.rec (fun _ _=>none) (fun _ R=>FB 1 1 (bG R)) n
abbrev RN:Stmt:=top 65
def XM(R:kB):RE:=KA R [] (bA (eV 0) (bA (eV 1) jA))
def FG (R:kB):RS:=lA (zB (Gj (e2 XA (e2 pA (eV 0) (eC (.int 0))) (eC (.str "ways")))) (BA (mB (bA (eC (.str "ways")) (bA (JJ (eV 1) (e2 pA (eV 0) (eC (.int 1)))) (bA (e2 pA (eV 0) (eC (.int 2))) (bA (JJ (eV 1) (e2 pA (eV 0) (eC (.int 3)))) jA)))))) NA) (lA (zB (Gj (e2 XA (e2 pA (eV 0) (eC (.int 0))) (eC (.str "long")))) (BA (mB (bA (eC (.str "long")) (bA (JJ (eV 1) (e2 pA (eV 0) (eC (.int 1)))) (bA (e2 pA (eV 0) (eC (.int 2))) (bA (e2 pA (eV 0) (eC (.int 3))) jA)))))) NA) (BA (mB (bA (eC (.str "one")) (bA (QD (UC (e2 pA (eV 0) (eC (.int 1)))) (bB 0) dC ((XM R)) [none,some 1]) jA)))))
def uF(n:Nat):kB:=Nat.rec (fun _ _=>none) (fun _ R=>FB 2 2 (FG R)) n
abbrev EO:Stmt:=top 66
def dJ:RS:=BA (RV (Gj (e2 XA (e2 pA (eV 0) (eC (.int 0))) (eC (.str "one")))) (mB (bA (eC (.str "one")) (bA (GC YG (e2 pA (eV 0) (eC (.int 1)))) jA))) (eV 0))
def OH:kB:=FB 1 1 dJ
abbrev kN:Stmt:=DE (top 67) 0
def xM:RS:=wI (eV 2) (fE "Book" "numbers" (eV 0)) (eV 3)
def jN:RS:=lA (TJ "Book" "numbers" (eV 0) gH) (lA (gD (wL (eV 1)) (tI 2 3) xM) (TJ "Book" "kept" (eV 0) gH))
def QI:kB:=FB 2 4 jN
abbrev qN:Stmt:=DE (top 67) 3
def SI:RS:=zB (Gj (uE false (eV 2) (fE "Book" "numbers" (eV 0)))) (JI "NoName" "word" (114) (eV 2)) NA
def wN:RS:=lA (gD (UC (KA (XD 3) [] (bA (eV 1) jA))) (bB 2) SI) (lA (zB (EC (Gj (KA (lE 3) [] (bA (eV 1) jA)))) (VJ "BadFact" (eC (.str "two alike names, a number out of range, or a group of no fact or of too many"))) NA) (BA (KA (uF 3) [] (bA (eV 1) (bA (fE "Book" "numbers" (eV 0)) jA)))))
def XE:kB:=FB 2 3 wN
abbrev MN:Stmt:=DE (top 67) 5
def qK:RE:=KA OH [] (bA (eV 0) jA)
def rN:RS:=BA (tL (UG (BP (fE "Book" "kept" (eV 0))) (bB 0) dC qK [none]))
def tF:kB:=FB 1 1 rN
abbrev VN:Stmt:=DE (top 67) 1
def eO:RS:=lA (zB (Gj (uE true (eV 1) (fE "Book" "kept" (eV 0)))) (JI "Twice" "word" (114) (eV 1)) NA) (lA (UJ 3 (nE "Book" "let_in" XE (eV 0) (bA (eV 2) jA))) (lA (zB (EC (Gj (KA aJ [] (bA (qE "Book" "facts" tF (eV 0)) (bA (eV 3) jA))))) (VJ "TooMany" (eC (.str "no more facts, or groups, than these are kept"))) NA) (wI (eV 3) (fE "Book" "kept" (eV 0)) (eV 1))))
def XF:kB:=FB 3 4 eO
abbrev FN:Stmt:=DE (top 67) 2
def sK:RS:=lA (zB (Gj (uE false (eV 1) (fE "Book" "kept" (eV 0)))) (JI "NoLabel" "word" (114) (eV 1)) NA) (rD (KJ (fE "Book" "kept" (eV 0)) (eV 1)))
def aG:kB:=FB 2 2 sK
abbrev pN:Stmt:=DE (top 67) 4
def vN:RS:=BA (GC lJ (fE "Book" "kept" (eV 0)))
def ND:kB:=FB 1 1 vN
abbrev LN:Stmt:=DE (top 67) 7
def vK:RS:=lA (UJ 5 (nE "Book" "let_in" XE (eV 0) (bA (mB (bA (eC (.str "ways")) (bA (eV 1) (bA (eV 2) (bA (eV 3) jA))))) jA))) (BA cU)
def GG:kB:=FB 5 6 vK
abbrev aN:Stmt:=top 69
def PM:RS:=lA (zB (Gj (e2 JQ (eV 1) (GC YB (eV 0)))) (BA (e2 pA (eV 0) (eV 1))) NA) (BA (eC (.int 0)))
def AG:kB:=FB 2 2 PM
abbrev NN:Stmt:=top 70
def sN:RS:=lA (SA 2 (e2 nB (e2 iE (e2 AD (e2 AD (e2 nB (eV 0) (eC (.int 1000000007))) (e2 iE (eC (.int 7)) (eV 1))) (eC (.int 1))) (eC (.int 48271))) (eC (.int 2147483647)))) (BA (e2 nB (e2 iE (eV 2) (e2 AD (e2 AD (e2 nB (eV 2) (eC (.int 1009))) (eV 1)) (eC (.int 3)))) (eC (.int 998244353))))
def aD:kB:=FB 2 3 sN
abbrev fN:Stmt:=top 71
def DM:RE:=e2 pA (eV 2) (e2 nB (e2 yC (eV 1) (eC (.int 98))) (eC (.int 26)))
def UI:RS:=lA (SA 2 (eC (.str "abcdefghijklmnopqrstuvwxyz"))) (lA (SA 0 (e2 nB (eV 0) (eC (.int 1000003)))) (lA (zB (jI (Gj (e2 XA (e2 nB (e2 yC (eV 0) (eC (.int 5))) (eC (.int 4))) (eC (.int 1)))) (Gj (e2 JQ (eV 1) (eC (.int 26))))) (BA (e2 pA (eV 2) (e2 nB (e2 AD (eV 1) (e2 yC (eV 0) (eC (.int 20)))) (eC (.int 26))))) NA) (lA (SA 3 (e2 AD (eC (.int 2)) (e2 nB (e2 AD (eV 0) (e2 iE (eV 1) (e2 nB (e2 yC (eV 0) (eC (.int 7))) (eC (.int 2))))) (eC (.int 7))))) (lA (SA 4 (e2 nB (e2 yC (eV 0) (eC (.int 14))) (eV 3))) (lA (SA 5 (UG (JL (eV 3)) (bB 0) dC DM [none,some 0,some 2])) (lA (HJ (e2 pA (eV 2) (e2 nB (e2 yC (eV 1) (eC (.int 26))) (eC (.int 26)))) (eV 5) (eV 4)) (lA (HJ (e2 pA (eV 2) (e2 nB (eV 1) (eC (.int 26)))) (eV 5) (e2 nB (e2 AD (eV 4) (eC (.int 1))) (eV 3))) (BA (nL (eC (.str "")) (eV 5))))))))))
def wF:kB:=FB 2 6 UI
abbrev QN:Stmt:=top 72
def uN:RS:=BA (DH (vC "int" (eV 0)) (xG (vC "bool" (eV 0))))
def yK:kB:=FB 1 1 uN
abbrev PN:Stmt:=top 73
def YM:RS:=zB (JD (EC (Gj (vC "str" (e2 pA (eV 0) (eV 2))))) (Gj (e2 VC (e2 pA (eV 0) (eV 2)) (e2 pA (eV 1) (eV 2))))) (BA (eC (.bl false))) NA
def tN:RS:=lA (zB (JD (EC (Gj (vC "list" (eV 0)))) (Gj (e2 VC (GC YB (eV 0)) (GC YB (eV 1))))) (BA (eC (.bl false))) NA) (lA (gD (JL (GC YB (eV 1))) (bB 2) YM) (BA (eC (.bl true))))
def IH:kB:=FB 2 3 tN
abbrev NM:Stmt:=top 75
def vM(R:kB):RS:=zB (EC (Gj (KA R [] (bA (e2 pA (eV 0) (eV 2)) (bA (e2 pA (eV 1) (eV 2)) jA))))) (BA (eC (.bl false))) NA
def KM (R:kB):RS:=lA (zB (JD (EC (Gj (vC "list" (eV 0)))) (Gj (e2 VC (GC YB (eV 0)) (GC YB (eV 1))))) (BA (eC (.bl false))) NA) (lA (gD (JL (GC YB (eV 1))) (bB 2) (vM R)) (BA (eC (.bl true))))
def DG(R:kB):kB:=FB 2 3 (KM R)
abbrev BM:Stmt:=top 74
def pK(R:kB):RS:=zB (JD (EC (Gj (KA yK [] (bA (e2 pA (eV 0) (eV 2)) jA)))) (Gj (e2 VC (e2 pA (eV 0) (eV 2)) (e2 pA (eV 1) (eV 2))))) (BA (eC (.bl false))) NA
def FH (R:kB):RS:=lA (zB (JD (EC (Gj (vC "tuple" (eV 0)))) (JD (Gj (e2 VC (GC YB (eV 0)) (GC YB (eV 1)))) (JD (EC (Gj (vC "str" (e2 pA (eV 0) (eC (.int 0)))))) (Gj (e2 VC (e2 pA (eV 0) (eC (.int 0))) (e2 pA (eV 1) (eC (.int 0)))))))) (BA (eC (.bl false))) NA) (lA (zB (Gj (e2 XA (e2 pA (eV 1) (eC (.int 0))) (eC (.str "one")))) (BA (KA (DG R) [] (bA (e2 pA (eV 0) (eC (.int 1))) (bA (e2 pA (eV 1) (eC (.int 1))) jA)))) NA) (lA (gD (KU (eC (.int 1)) (eC (.int 4))) (bB 2) (pK R)) (BA (eC (.bl true)))))
def WE(n:Nat):kB:=Nat.rec (fun _ _=>none) (fun _ R=>FB 2 3 (FH R)) n
abbrev cN:Stmt:=top 76
def RM:RS:=lA (zB (Gj (e2 XA (e2 nB (eV 0) (eC (.int 9))) (eC (.int 1)))) (BA (e2 iK (OI (eC (.int 1))) (e2 iE (eV 0) (e2 fD (eC (.int 10)) (eC (.int 50)))))) NA) (lA (zB (Gj (e2 XA (e2 nB (eV 0) (eC (.int 9))) (eC (.int 2)))) (BA (e2 AD (eC (.int 8192)) (e2 iE (e2 yC (eV 0) (eC (.int 9))) (e2 fD (eC (.int 10)) (eC (.int 50)))))) NA) (BA (e2 pA (eD (bA (eC (.int 0)) (bA (eC (.int 8191)) (bA (eC (.int 1)) (bA (e2 nB (e2 yC (eV 0) (eC (.int 9))) (eC (.int 8192))) jA))))) (e2 nB (e2 yC (eV 0) (eC (.int 3))) (eC (.int 4))))))
def VI:kB:=FB 1 1 RM
abbrev dN:Stmt:=top 77
def UM:RS:=lA (zB (Gj (e2 XA (e2 nB (eV 1) (eC (.int 12))) (eC (.int 5)))) (BA (e2 pA (eD (bA (eC (.str "strange")) (bA (eC (.str "zzzzzzzzz")) (bA (eC (.str "")) jA)))) (e2 nB (e2 yC (eV 1) (eC (.int 12))) (eC (.int 3))))) NA) (BA (e2 pA (eV 0) (e2 nB (e2 yC (eV 1) (eC (.int 12))) (GC YB (eV 0)))))
def BG:kB:=FB 2 2 UM
abbrev iN:Stmt:=top 78
def VM:RS:=lA (SA 2 (KA BG [] (bA (eV 0) (bA (KA aD [] (bA (eV 1) (bA (eC (.int 1)) jA))) jA)))) (lA (SA 3 (KA BG [] (bA (eV 0) (bA (KA aD [] (bA (eV 1) (bA (eC (.int 2)) jA))) jA)))) (BA (mB (bA (eC (.str "ways")) (bA (eV 2) (bA (KA VI [] (bA (KA aD [] (bA (eV 1) (bA (eC (.int 3)) jA))) jA)) (bA (eV 3) jA)))))))
def CG:kB:=FB 2 4 VM
abbrev bN:Stmt:=top 79
def nK:RE:=KA CG [] (bA (eV 1) (bA (e2 AD (eV 2) (e2 iE (e2 iE (eC (.int 11)) (eV 0)) (eV 0))) jA))
def QM:RS:=lA (zB (Gj (e2 XA (e2 nB (eV 1) (eC (.int 4))) (eC (.int 0)))) (lA (SA 2 (e2 pA (eD (bA (e2 nB (e2 yC (eV 1) (eC (.int 4))) (eC (.int 9))) (bA (e2 nB (e2 iE (eV 1) (eC (.int 48271000000019))) (e2 fD (eC (.int 10)) (eC (.int 18)))) (bA (OI (eC (.int 1))) (bA (e2 fD (eC (.int 10)) (eC (.int 59))) jA))))) (e2 nB (e2 yC (eV 1) (eC (.int 4))) (eC (.int 4))))) (lA (SA 3 (e2 pA (eD (bA (eV 2) (bA (e2 AD (eV 2) (eC (.int 1))) (bA (e2 fD (eC (.int 10)) (eC (.int 18))) (bA (e2 iK (eV 2) (eC (.int 1))) (bA (e2 AD (e2 fD (eC (.int 10)) (eC (.int 18))) (eC (.int 1))) jA)))))) (e2 nB (e2 yC (eV 1) (eC (.int 16))) (eC (.int 5))))) (BA (mB (bA (eC (.str "long")) (bA (KA BG [] (bA (eV 0) (bA (KA aD [] (bA (eV 1) (bA (eC (.int 4)) jA))) jA))) (bA (eV 2) (bA (eV 3) jA)))))))) NA) (lA (zB (Gj (e2 XA (e2 nB (eV 1) (eC (.int 4))) (eC (.int 1)))) (BA (mB (bA (eC (.str "one")) (bA (QD (JL (e2 nB (e2 yC (eV 1) (eC (.int 4))) (eC (.int 8)))) (bB 0) dC nK [none,some 0,some 1]) jA)))) NA) (BA (KA CG [] (bA (eV 0) (bA (eV 1) jA)))))
def JH:kB:=FB 2 4 QM
abbrev gN:Stmt:=top 80
def vF:RS:=lA (zB (Gj (e2 (kM true) (e2 pA (eV 3) (eC (.int 1))) (eV 0))) (BA (e2 pA (eV 3) (eC (.int 1)))) NA) (zB (jI (Gj (e2 XA (e2 pA (eV 3) (eC (.int 0))) (eC (.str "ways")))) (Gj (e2 (kM true) (e2 pA (eV 3) (eC (.int 3))) (eV 0)))) (BA (e2 pA (eV 3) (eC (.int 3)))) NA)
def VF:RS:=lA (SA 2 (eD (bA (eV 1) jA))) (lA (zB (Gj (e2 XA (e2 pA (eV 1) (eC (.int 0))) (eC (.str "one")))) (SA 2 (e2 pA (eV 1) (eC (.int 1)))) NA) (lA (gD (UC (eV 2)) (bB 3) vF) (BA (eC .non))))
def xF:kB:=FB 2 4 VF
abbrev WN:Stmt:=top 81
def xK(R:kB):RE:=KA R [] (bA (eV 0) jA)
def EG (R:kB):RS:=lA (zB (Gj (e2 XA (e2 pA (eV 0) (eC (.int 0))) (eC (.str "long")))) (BA (xG (QG JE JE JE (eC (.int 0)) (e2 pA (eV 0) (eC (.int 2))) (e2 pA (eV 0) (eC (.int 3))) (e2 fD (eC (.int 10)) (eC (.int 18)))))) NA) (lA (zB (Gj (e2 XA (e2 pA (eV 0) (eC (.int 0))) (eC (.str "one")))) (BA (OL (xG (iG JE JE (eC (.int 1)) (GC YB (e2 pA (eV 0) (eC (.int 1)))) (eC (.int 6)))) (e2 GI (eC (.bl true)) (QD (UC (e2 pA (eV 0) (eC (.int 1)))) (bB 0) dC ((xK R)) [none])))) NA) (BA (OL (e2 XA (e2 pA (eV 0) (eC (.int 1))) (e2 pA (eV 0) (eC (.int 3)))) (xG (iG JE JE (eC (.int 0)) (e2 pA (eV 0) (eC (.int 2))) (eC (.int 8191)))))))
def VE(n:Nat):kB:=Nat.rec (fun _ _=>none) (fun _ R=>FB 1 1 (EG R)) n
abbrev XN:Stmt:=top 82
def fO:RS:=lA (zB (Gj (uE true (eV 2) (eV 1))) (BA (mB (bA (eC (.str "twice")) (bA (eV 2) jA)))) NA) (lA (SA 4 (KA xF [] (bA (eV 0) (bA (eV 3) jA)))) (lA (zB (Gj (e2 OJ (eV 4) (eC .non))) (BA (mB (bA (eC (.str "name")) (bA (eV 4) jA)))) NA) (lA (zB (Gj (KA (VE 3) [] (bA (eV 3) jA))) (BA (mB (bA (eC (.str "bad")) (bA (eC (.str "")) jA)))) NA) (BA (mB (bA (eC (.str "good")) (bA (eC (.str "")) jA)))))))
def AF:kB:=FB 4 5 fO
abbrev zM:Stmt:=top 83
def oK(R:kB):RE:=KA R [] (bA (eV 1) (bA (eV 0) jA))
def zG (R:kB):RS:=lA (zB (Gj (e2 XA (e2 pA (eV 1) (eC (.int 0))) (eC (.str "long")))) (BA (mB (bA (eC (.str "long")) (bA (CD (eV 0) (e2 pA (eV 1) (eC (.int 1)))) (bA (e2 pA (eV 1) (eC (.int 2))) (bA (e2 pA (eV 1) (eC (.int 3))) jA)))))) NA) (lA (zB (Gj (e2 XA (e2 pA (eV 1) (eC (.int 0))) (eC (.str "one")))) (BA (mB (bA (eC (.str "one")) (bA (QD (UC (e2 pA (eV 1) (eC (.int 1)))) (bB 0) dC ((oK R)) [none,some 0]) jA)))) NA) (BA (mB (bA (eC (.str "ways")) (bA (CD (eV 0) (e2 pA (eV 1) (eC (.int 1)))) (bA (e2 pA (eV 1) (eC (.int 2))) (bA (CD (eV 0) (e2 pA (eV 1) (eC (.int 3)))) jA)))))))
def zE(n:Nat):kB:=Nat.rec (fun _ _=>none) (fun _ R=>FB 2 2 (zG R)) n
abbrev IN:Stmt:=top 84
def WI:RS:=lA (zB (Gj (e2 CH (eV 0) (eC .non))) (BA (mB (bA (eC (.str "good")) (bA (eC (.str "")) jA)))) NA) (lA (SA 1 (eD (bA (gE Hq (eV 0)) (bA (gE gq (eV 0)) (bA (gE Bq (eV 0)) jA))))) (lA (SA 1 (e2 BH (eV 1) (eD (bA (gE Zj (eV 0)) (bA (gE jq (eV 0)) (bA (gE aq (eV 0)) jA)))))) (lA (zB (JD (Gj (e2 VC (lP (eV 1) (eC (.bl true))) (eC (.int 1)))) (JD (EC (Gj (gE Pj (eV 0)))) (JD (Gj (e2 pA (eV 1) (eC (.int 4)))) (Gj (e2 pA (eV 1) (eC (.int 5))))))) (BA (mB (bA (eC (.str "odd")) (bA (eC (.str "")) jA)))) NA) (lA (zB (Gj (e2 pA (eV 1) (eC (.int 3)))) (BA (mB (bA (eC (.str "bad")) (bA (eC (.str "")) jA)))) NA) (lA (zB (EC (Gj (vC "str" (uG ["Twice", "NoLabel", "NoName"] "word" (eV 0))))) (BA (mB (bA (eC (.str "odd")) (bA (eC (.str "")) jA)))) NA) (BA (mB (bA (e2 pA (eD (bA (eC (.str "twice")) (bA (eC (.str "label")) (bA (eC (.str "name")) jA)))) (CD (eV 1) (eC (.bl true)))) (bA (uG ["Twice", "NoLabel", "NoName"] "word" (eV 0)) jA)))))))))
def YD:kB:=FB 1 2 WI
abbrev YN:Stmt:=top 85
def NH:RS:=lA (SA 3 (eC .non)) (lA (WJ (nE "Book" "put" XF (eV 0) (bA (eV 1) (bA (eV 2) jA))) NL 3 4) (BA (KA YD [] (bA (eV 3) jA))))
def YF:kB:=FB 3 5 NH
abbrev ON:Stmt:=top 86
def wK:RS:=lA (SA 2 (eC .non)) (lA (WJ (nE "Book" "take" aG (eV 0) (bA (eV 1) jA)) NL 2 3) (BA (KA YD [] (bA (eV 2) jA))))
def HH:kB:=FB 2 4 wK
abbrev lN:Stmt:=top 87
def rK:RS:=lA (SA 2 (eC .non)) (lA (WJ (nE "Book" "asked" GG (eV 0) (bA (e2 pA (eV 1) (eC (.int 1))) (bA (e2 pA (eV 1) (eC (.int 2))) (bA (e2 pA (eV 1) (eC (.int 3))) (bA (eC (.int 0)) jA))))) NL 2 3) (BA (KA YD [] (bA (eV 2) jA))))
def EH:kB:=FB 2 4 rK
abbrev HN:Stmt:=top 88
def XI:RE:=eV 0
def YI:RT:=Gj (e2 XA (e2 pA (eV 0) (eC (.int 0))) (eC (.str "one")))
def AN:RS:=lA (SA 4 (KA wF [] (bA (eC (.int 7)) (bA (e2 nB (KA aD [] (bA (eV 3) (bA (eC (.int 5)) jA))) (eC (.int 12))) jA)))) (lA (zB (Gj (e2 XA (e2 nB (eV 3) (eC (.int 3))) (eC (.int 0)))) (lA (SA 5 (mB (bA (eC (.str "good")) (bA (eC (.str "")) jA)))) (lA (zB (Gj (uE false (eV 4) (eV 2))) (SA 5 (mB (bA (eC (.str "label")) (bA (eV 4) jA)))) NA) (lA (SA 6 (KA HH [] (bA (eV 0) (bA (eV 4) jA)))) (lA (zB (Gj (uE true (eV 4) (eV 2))) (rD (KJ (eV 2) (eV 4))) NA) (BA (e2 XA (eV 6) (eV 5))))))) NA) (lA (zB (Gj (e2 XA (e2 nB (eV 3) (eC (.int 7))) (eC (.int 1)))) (lA (SA 7 (KA CG [] (bA (eV 1) (bA (eV 3) jA)))) (lA (SA 5 (KA AF [] (bA (eV 1) (bA gH (bA (eV 4) (bA (eV 7) jA)))))) (BA (OL (e2 XA (e2 pA (eV 5) (eC (.int 0))) (eC (.str "good"))) (e2 XA (KA EH [] (bA (eV 0) (bA (eV 7) jA))) (eV 5)))))) NA) (lA (SA 7 (KA JH [] (bA (eV 1) (bA (e2 yC (eV 3) (eC (.int 3))) jA)))) (lA (SA 8 (GC YB (QD (UC (GC aF (eV 2))) (bB 0) YI XI [none]))) (lA (zB (jI (Gj (e2 XA (e2 pA (eV 7) (eC (.int 0))) (eC (.str "one")))) (Gj (e2 IQ (eV 8) (eC (.int 6))))) (BA (eC (.bl true))) NA) (lA (SA 5 (KA AF [] (bA (eV 1) (bA (eV 2) (bA (eV 4) (bA (eV 7) jA)))))) (lA (SA 9 (eV 7)) (lA (zB (Gj (e2 XA (e2 pA (eV 7) (eC (.int 0))) (eC (.str "one")))) (SA 9 (mB (bA (eC (.str "one")) (bA (GC YG (e2 pA (eV 7) (eC (.int 1)))) jA)))) NA) (lA (SA 6 (KA YF [] (bA (eV 0) (bA (eV 4) (bA (eV 9) jA))))) (lA (zB (Gj (e2 XA (e2 pA (eV 7) (eC (.int 0))) (eC (.str "one")))) (rD (bE (e2 pA (eV 9) (eC (.int 1))) (mB (bA (eC (.str "ways")) (bA (e2 pA (eV 1) (eC (.int 0))) (bA (eC (.int 1)) (bA (e2 pA (eV 1) (eC (.int 0))) jA))))))) NA) (lA (zB (Gj (e2 XA (e2 pA (eV 5) (eC (.int 0))) (eC (.str "good")))) (wI (KA (zE 3) [] (bA (eV 1) (bA (eV 7) jA))) (eV 2) (eV 4)) NA) (BA (e2 XA (eV 6) (eV 5))))))))))))))
def MH:kB:=FB 4 10 AN
abbrev bQ:Stmt:=top 89
def mJ:RE:=KA wF [] (bA (KA AG [] (bA (eV 1) (bA (eC (.int 1)) jA))) (bA (eV 0) jA))
def OG:RS:=zB (Gj (e2 XA (e2 pA (eV 8) (eC (.int 0))) (eC (.str "one")))) (rD (bE (e2 pA (eV 8) (eC (.int 1))) (mB (bA (eC (.str "ways")) (bA (eC (.int 0)) (bA (eC (.int 1)) (bA (eC (.int 0)) jA))))))) NA
def nJ:RS:=lA (zB (EC (Gj (KA MH [] (bA (eV 3) (bA (eV 1) (bA (eV 4) (bA (KA aD [] (bA (eV 6) (bA (eC (.int 6)) jA))) jA))))))) (BA (eC (.bl false))) NA) (lA (SA 7 (eD (bA (qE "Book" "labels" ND (eV 3)) (bA (qE "Book" "facts" tF (eV 3)) jA)))) (lA (zB (Gj (e2 XA (e2 nB (eV 6) (eC (.int 2))) (eC (.int 1)))) (lA (SA 7 (eD (bA (e2 pA (eV 7) (eC (.int 1))) (bA (qE "Book" "labels" ND (eV 3)) jA)))) (SA 7 (eD (bA (e2 pA (eV 7) (eC (.int 1))) (bA (e2 pA (eV 7) (eC (.int 0))) jA))))) NA) (lA (zB (JD (EC (Gj (KA IH [] (bA (e2 pA (eV 7) (eC (.int 0))) (bA (GC bF (eV 4)) jA))))) (EC (Gj (KA (DG (WE 3)) [] (bA (e2 pA (eV 7) (eC (.int 1))) (bA (GC aF (eV 4)) jA)))))) (BA (eC (.bl false))) NA) (lA (rD (bE (eV 5) (mB (bA (qE "Book" "labels" ND (eV 3)) (bA (GC bF (eV 4)) jA))))) (lA (rD (bE (e2 pA (eV 7) (eC (.int 0))) (eC (.str "z")))) (lA (rD (bE (e2 pA (eV 7) (eC (.int 1))) (mB (bA (eC (.str "long")) (bA (eC (.int 0)) (bA (eC (.int 1)) (bA (eC (.int 1)) jA))))))) (gD (UC (e2 pA (eV 7) (eC (.int 1)))) (bB 8) OG)))))))
def UK:RS:=zB (EC (Gj (KA IH [] (bA (e2 pA (eV 9) (eC (.int 0))) (bA (e2 pA (eV 9) (eC (.int 1))) jA))))) (BA (eC (.bl false))) NA
def CL:RS:=lA (SA 1 (QD (JL (e2 AD (eC (.int 1)) (e2 nB (KA AG [] (bA (eV 0) (bA (eC (.int 0)) jA))) (eC (.int 8))))) (bB 0) dC mJ [none,some 0])) (lA (SA 2 (GC YG (eV 1))) (lA (SA 3 (sL "Book" QI (bA (eV 2) jA))) (lA (rD (bE (eV 2) (eC (.str "strange")))) (lA (SA 4 gH) (lA (SA 5 (vH jA)) (lA (gD (UC (iV (eV 0) (MQ (eC (.int 2))) (MQ (eC (.int 62))))) (bB 6) nJ) (lA (gD (UC (eV 5)) (bB 9) UK) (BA (eC (.bl true))))))))))
def lI:kB:=FB 1 10 CL
structure Txt(K:Frag)(mg:Str->Option Value):Prop where
 iy:IB K mg "groups_in" JN ["facts"]
 jy:IB K mg "is_length" KN ["low", "high"]
 Wk:IB K mg "has_room" ZN ["facts", "fact"]
 qw:IB K mg "names_in" bO ["fact"]
 jw:IB K mg "is_sound" aO ["fact"]
 gw:IB K mg "by_numbers" RN ["fact", "numbers"]
 Qy:IB K mg "copied" EO ["fact"]
 Vy:GP K mg "Book" "Book.__init__" kN ["self", "names"]
 Fy:gG K "Book" "put" "Book.put" VN ["self", "label", "fact"]
 qy:gG K "Book" "take" "Book.take" FN ["self", "label"]
 Lk:gG K "Book" "let_in" "Book.let_in" qN ["self", "fact"]
 Jk:gG K "Book" "labels" "Book.labels" pN ["self"]
 Rk:gG K "Book" "facts" "Book.facts" MN ["self"]
 Qk:fP K "Book" "asked" "Book.asked" LN ["self", "a", "mask", "b", "most"]
 wk:IB K mg "_law_cell_at" aN ["_law_script", "_law_k"]
 Ck:IB K mg "_law_mixed" NN ["_law_number", "_law_k"]
 Xw:IB K mg "_law_name_by" fN ["_law_cell", "_law_k"]
 Gk:IB K mg "_law_whole" QN ["_law_found"]
 Ek:IB K mg "_law_texts" PN ["_law_found", "_law_due_here"]
 dw:IB K mg "_law_fact_alike" BM ["_law_found", "_law_due_here"]
 Uw:IB K mg "_law_facts_alike" NM ["_law_found", "_law_due_here"]
 Vw:IB K mg "_law_mask_by" cN ["_law_number"]
 Ww:IB K mg "_law_name_at" dN ["_law_names", "_law_number"]
 Zw:IB K mg "_law_ways_by" iN ["_law_names", "_law_number"]
 Ak:IB K mg "_law_fact_by" bN ["_law_names", "_law_number"]
 Yw:IB K mg "_law_strange" gN ["_law_names", "_law_fact"]
 iw:IB K mg "_law_bad" WN ["_law_fact"]
 Uk:IB K mg "_law_due" XN ["_law_names", "_law_kept", "_law_label", "_law_fact"]
 bw:IB K mg "_law_by_numbers" zM ["_law_names", "_law_fact"]
 Zk:IB K mg "_law_told" IN ["_law_error"]
 Vk:IB K mg "_law_put" YN ["_law_book", "_law_label", "_law_fact"]
 Dk:IB K mg "_law_taken" ON ["_law_book", "_law_label"]
 Bk:IB K mg "_law_question" lN ["_law_book", "_law_fact"]
 Nk:IB K mg "_law_deed" HN ["_law_book", "_law_names", "_law_kept", "_law_number"]
 Oz:rJ K "Book" "numbers"
 Ux:rJ K "Book" "kept"
 Wg:tG K mg "BadText" "SpanError" "BadText.__init__" "row" "row" ZQ
 Bv:tG K mg "Twice" "SpanError" "Twice.__init__" "word" "word" wM
 Zz:tG K mg "NoLabel" "SpanError" "NoLabel.__init__" "word" "word" MM
 Av:tG K mg "NoName" "SpanError" "NoName.__init__" "word" "word" yM
 Yk:ZJ K mg "TooMany"
 Xk:ZJ K mg "BadFact"
 Sy:∀C,nsIn K mainGlobals "Twice" =some (some (.ref C))->sD K C=true
 zy:∀C,nsIn K mainGlobals "TooMany" =some (some (.ref C))->sD K C=true
 uy:∀C,nsIn K mainGlobals "NoLabel" =some (some (.ref C))->sD K C=true
 Hy:∀C,nsIn K mainGlobals "NoName" =some (some (.ref C))->sD K C=true
 Gy:∀C,nsIn K mainGlobals "BadFact" =some (some (.ref C))->sD K C=true
 Yz:CQ K mg "SpanError" NL
 Ay:QL K mg "BadFact" Zj
 Cy:QL K mg "BadText" aq
 Dy:QL K mg "NoLabel" gq
 Ly:QL K mg "NoName" Bq
 Ey:QL K mg "TooMany" jq
 Ny:QL K mg "Twice" Hq
 Ik:fF K (.type "ValueError") Pj
 Pk:mg "ValueError" =none
 Zy:mg "all" =none
 Xy:mg "bool" =none
 sy:mg "enumerate" =none
 cg:mg "int" =none
 Mq:mg "isinstance" =none
 Nq:mg "len" =none
 zx:mg "list" =none
 Zx:mg "range" =none
 Cv:mg "str" =none
 Uy:mg "tuple" =none
 Yy:nH K mg "ALL" oQ
 Ry:nH K mg "FACTS" eP
 Py:nH K mg "GROUPS" LO
 Ky:nH K mg "MEMBERS" dO
 Jy:nH K mg "LONGEST" EK
section
variable{P:Program}{w:World}{K:Frag}{mg:Str->Option Value}
theorem iX:YA ["facts"] ["facts"] (sA JN):=uB
theorem jX:YA ["low", "high"] ["low", "high"] (sA KN):=uB
theorem dX:YA ["facts", "fact"] ["facts", "fact"] (sA ZN):=uB
theorem YC:YA ["fact", "found", "member"] ["fact"] (sA bO):=uB
theorem eX:YA ["fact"] ["fact"] (sA aO):=uB
theorem CW:YA ["fact", "numbers"] ["fact", "numbers"] (sA RN):=uB
theorem kZ:YA ["fact"] ["fact"] (sA EO):=uB
theorem AC:YA ["self", "names", "number", "name"] ["self", "names"] (sA kN):=uB
theorem WC:YA ["self", "fact", "name"] ["self", "fact"] (sA qN):=uB
theorem AW:YA ["self"] ["self"] (sA MN):=uB
theorem cE:YA ["self", "label", "fact", "numbered"] ["self", "label", "fact"] (sA VN):=uB
theorem gX:YA ["self", "label"] ["self", "label"] (sA FN):=uB
theorem FW:YA ["self"] ["self"] (sA pN):=uB
theorem uD:YA ["self", "a", "mask", "b", "most", "question"] ["self", "a", "mask", "b", "most"] (sA LN):=uB
theorem tW:YA ["_law_script", "_law_k"] ["_law_script", "_law_k"] (sA aN):=uB
theorem vD:YA ["_law_number", "_law_k", "_law_once"] ["_law_number", "_law_k"] (sA NN):=uB
theorem jB:YA ["_law_cell", "_law_k", "_law_some", "_law_size", "_law_place", "_law_signs"] ["_law_cell", "_law_k"] (sA fN):=uB
theorem BW:YA ["_law_found"] ["_law_found"] (sA QN):=uB
theorem wD:YA ["_law_found", "_law_due_here", "_law_k"] ["_law_found", "_law_due_here"] (sA PN):=uB
theorem gC:YA ["_law_found", "_law_due_here", "_law_k"] ["_law_found", "_law_due_here"] (sA NM):=uB
theorem kC:YA ["_law_found", "_law_due_here", "_law_k"] ["_law_found", "_law_due_here"] (sA BM):=uB
theorem uW:YA ["_law_number"] ["_law_number"] (sA cN):=uB
theorem vW:YA ["_law_names", "_law_number"] ["_law_names", "_law_number"] (sA dN):=uB
theorem bC:YA ["_law_names", "_law_number", "_law_a", "_law_b"] ["_law_names", "_law_number"] (sA iN):=uB
theorem aC:YA ["_law_names", "_law_number", "_law_low", "_law_high"] ["_law_names", "_law_number"] (sA bN):=uB
theorem EB:YA ["_law_names", "_law_fact", "_law_asked_for", "_law_member"] ["_law_names", "_law_fact"] (sA gN):=uB
theorem cX:YA ["_law_fact"] ["_law_fact"] (sA WN):=uB
theorem dE:YA ["_law_names", "_law_kept", "_law_label", "_law_fact", "_law_word"] ["_law_names", "_law_kept", "_law_label", "_law_fact"] (sA XN):=uB
theorem fW:YA ["_law_names", "_law_fact"] ["_law_names", "_law_fact"] (sA zM):=uB
theorem IC:YA ["_law_error", "_law_kinds"] ["_law_error"] (sA IN):=uB
theorem XC:YA ["_law_book", "_law_label", "_law_fact", "_law_kept", "e"] ["_law_book", "_law_label", "_law_fact"] (sA YN):=uB
theorem qC:YA ["_law_book", "_law_label", "_law_kept", "e"] ["_law_book", "_law_label"] (sA ON):=uB
theorem PB:YA ["_law_book", "_law_fact", "_law_kept", "e"] ["_law_book", "_law_fact"] (sA lN):=uB
theorem JA:YA ["_law_book", "_law_names", "_law_kept", "_law_number", "_law_label", "_law_due_here", "_law_told_here", "_law_fact", "_law_groups", "_law_handed"] ["_law_book", "_law_names", "_law_kept", "_law_number"] (sA HN):=uB
theorem cC:YA ["_law_script", "_law_names", "_law_handed", "_law_book", "_law_kept", "_law_held", "_law_cell", "_law_told_here", "_law_fact", "_law_pair"] ["_law_script"] (sA bQ):=uB
theorem dW:YA ["self", "word"] ["self", "word"] (sA wM):=uB
theorem aW:YA ["self", "word"] ["self", "word"] (sA MM):=uB
theorem eW:YA ["self", "word"] ["self", "word"] (sA yM):=uB
variable(T:Txt K mg)(b:Heap)
include T
theorem vX:CI P w K mg b 1 "Twice" "word" (114):=nP (k:=0) T.Bv dW rfl (.three (by decide) (by decide)) (.inr rfl) (fun _=>rfl) fun _ _ _ _ _ _ _=>rfl
theorem KW:CI P w K mg b 1 "NoLabel" "word" (114):=nP (k:=0) T.Zz aW rfl (.three (by decide) (by decide)) (.inr rfl) (fun _=>rfl) fun _ _ _ _ _ _ _=>rfl
theorem YW:CI P w K mg b 1 "NoName" "word" (114):=nP (k:=0) T.Av eW rfl (.two (by decide)) (.inr rfl) (fun _=>rfl) fun _ _ _ _ _ _ _=>rfl
theorem xW:pC P w K mg b 1 1 "groups_in" tK:=
 RB (k:=0) (body:=BN) T.iy iX rfl rfl fun _ _ _ _ _ _ _ hr=>wA (IA (SG (Nc:=["fact"]) rfl (mE (aA 0)) (by decide +kernel) rfl (by decide +kernel) (by rfl) (by exact trivial) (fun _ _ _ _=>JC 0 (show(["fact"]:List Str).Nodup by decide +kernel)) (fun _ _ _ _=>aU (iB (xB hr.units) (oA (aA 0) dA) MA)) (fun _ _ _ _=>oA (aA 0) dA)))
theorem yW:pC P w K mg b 1 2 "is_length" uK:=
 RB (k:=0) (body:=CN) T.jy jX rfl rfl fun _ _ _ _ _ _ _ hr=>wA (IA (QR TD TD TD dA (aA 0) (aA 1) (xJ rfl T.Jy)))
theorem NW:pC P w K mg b 2 2 "has_room" aJ:=
 RB (k:=1) (body:=gO) T.Wk dX rfl rfl fun _ _ _ _ _ _ _ hr=>uA (cB (iB yU (DD rfl T.Nq (aA 0)) (xJ rfl T.Ry)) (wA (IA QC)) ZA) (wA (IA (uL (EF (HF hr.units) (oA (aA 1) dA) MA) (VG (EF WP (DD rfl T.Nq (rB (xW T b) hr (cA (aA 0) rA))) (xJ rfl T.Py))))))
theorem qW {R:kB} {k:Nat} (hk:0<=k) (hR:pC P w K mg b k 1 "names_in" R):pC P w K mg b (k+1) 1 "names_in" (FB 1 3 (WF R)):=
 RB (k:=k) (body:=WF R) T.qw YC rfl rfl fun _ _ _ _ _ _ _ hr=>uA (cB (iB (xB hr.units) (oA (aA 0) dA) MA) (wA (IA (iL (cA (oA (aA 0) dA) (cA (oA (aA 0) dA) rA))))) ZA) (uA (cB (iB (xB hr.units) (oA (aA 0) dA) MA) (wA (IA (iL (cA (oA (aA 0) dA) rA)))) ZA) (uA (vB 1 YC.nd (iL rA)) (uA (LF PassesOwn.never rfl (mE (oA (aA 0) dA)) (JC 2 YC.nd) (wA (CF (PX (aA 1) (cF hR hr (by omega) rfl (cA (aA 2) rA)))))) (wA (IA (aA 1))))))
theorem eR:∀n:Nat,pC P w K mg b (0+n) 1 "names_in" (XD n)
 | 0=>dI T.qw
 | n+1=>qW T b (Nat.le_add_right _ _) (eR n)
theorem pW {R:kB} {k:Nat} (hk:1<=k) (hR:pC P w K mg b k 1 "is_sound" R):pC P w K mg b (k+1) 1 "is_sound" (FB 1 1 (bG R)):=
 RB (k:=k) (body:=bG R) T.jw eX rfl rfl fun _ _ _ _ _ _ _ hr=>uA (cB (iB (xB hr.units) (oA (aA 0) dA) MA) (wA (IA (xP (EF (HF hr.units) (oA (aA 0) dA) (oA (aA 0) dA)) (VG (OK TD TD dA (oA (aA 0) dA) (xJ rfl T.Yy)))))) ZA) (uA (cB (iB (xB hr.units) (oA (aA 0) dA) MA) (wA (IA (cF (yW T b) hr (by omega) rfl (cA (oA (aA 0) dA) (cA (oA (aA 0) dA) rA))))) ZA) (wA (IA (xP (OK TD TD dA (DD rfl T.Nq (oA (aA 0) dA)) (xJ rfl T.Ky)) (VG (D4 rfl rfl T.Zy (SG (Nc:=["member"]) rfl (mE (oA (aA 0) dA)) (by decide +kernel) rfl (by decide +kernel) (by rfl) (by exact trivial) (fun _ _ _ _=>JC 0 (show(["member"]:List Str).Nodup by decide +kernel)) (fun _ _ _ _=>jG) (fun _ _ _ _=>cF hR hr (by omega) rfl (cA (aA 0) rA)))))))))
theorem iR:∀n:Nat,pC P w K mg b (1+n) 1 "is_sound" (lE n)
 | 0=>dI T.jw
 | n+1=>pW T b (Nat.le_add_right _ _) (iR n)
theorem kW {R:kB} {k:Nat} (hk:0<=k) (hR:pC P w K mg b k 2 "by_numbers" R):pC P w K mg b (k+1) 2 "by_numbers" (FB 2 2 (FG R)):=
 RB (k:=k) (body:=FG R) T.gw CW rfl rfl fun _ _ _ _ _ _ _ hr=>uA (cB (iB (xB hr.units) (oA (aA 0) dA) MA) (wA (IA (TB (cA MA (cA (mP hr.units (aA 1) (oA (aA 0) dA)) (cA (oA (aA 0) dA) (cA (mP hr.units (aA 1) (oA (aA 0) dA)) rA))))))) ZA) (uA (cB (iB (xB hr.units) (oA (aA 0) dA) MA) (wA (IA (TB (cA MA (cA (mP hr.units (aA 1) (oA (aA 0) dA)) (cA (oA (aA 0) dA) (cA (oA (aA 0) dA) rA))))))) ZA) (wA (IA (TB (cA MA (cA (SG (Nc:=["member", "numbers"]) rfl (mE (oA (aA 0) dA)) (by decide +kernel) rfl (by decide +kernel) (by rfl) (by exact⟨⟨rfl,.inl rfl,.inl rfl,rfl⟩,trivial⟩) (fun _ _ _ _=>JC 0 (show(["member", "numbers"]:List Str).Nodup by decide +kernel)) (fun _ _ _ _=>jG) (fun _ _ _ _=>cF hR hr (by omega) rfl (cA (aA 0) (cA (aA 1) rA)))) rA))))))
theorem bR:∀n:Nat,pC P w K mg b (0+n) 2 "by_numbers" (uF n)
 | 0=>dI T.gw
 | n+1=>kW T b (Nat.le_add_right _ _) (bR n)
theorem BX:pC P w K mg b 1 1 "copied" OH:=
 RB (k:=0) (body:=dJ) T.Qy kZ rfl rfl fun _ _ _ _ _ _ _ hr=>wA (IA (M8 (iB (xB hr.units) (oA (aA 0) dA) MA) (TB (cA MA (cA (nO rfl T.zx (oA (aA 0) dA)) rA))) (aA 0)))
theorem eY:RL P w K mg b 1 2 "Book" QI:=
 by unfold QI;exact A2 (k:=0) (body:=jN) T.Vy AC rfl rfl fun _ _ _ _ _ _ _ hr=>uA (gU T.Oz (aA 0) ZK) (uA (LF PassesOwn.never rfl (N1 rfl T.sy (aA 1)) (F3 2 3 rfl AC.nd) (wA (rP hr.units (aA 2) (FF T.Oz (aA 0)) (aA 3)))) (wA (gU T.Ux (aA 0) ZK)))
theorem cR:nG P w K mg b 5 2 "Book" "let_in" XE:=
 by unfold XE;exact xO (k:=4) (body:=wN) T.Lk WC rfl rfl fun _ _ _ _ _ _ _ hr=>JG (z8 ⟨rfl,rfl,rfl⟩ rfl (mE (rB (eR T b 3) hr (cA (aA 1) rA))) (JC 2 WC.nd) (eF (MJ (kO hr.units (aA 2) (FF T.Oz (aA 0))) (eF (KO (YW T b) rfl hr (by decide) rfl (aA 2) T.Hy)) (wJ ZA)))) (JG (MJ (HD (KC (rB (iR T b 3) hr (cA (aA 1) rA)))) (eF (IR T.Xk rfl rfl MA T.Gy)) (wJ ZA)) (eF (HL (IA (rB (bR T b 3) hr (cA (aA 1) (cA (FF T.Oz (aA 0)) rA)))))))
theorem dR:bK P w K mg b 2 1 "Book" "facts" tF:=
 by unfold tF;exact tT (k:=1) (body:=rN) T.Rk AW rfl rfl fun _ _ _ _ _ _ _ hr=>wA (IA (X0 (xY (Nc:=["fact"]) rfl (MZ (FF T.Ux (aA 0))) (by decide +kernel) rfl (by decide +kernel) (by rfl) (by exact trivial) (fun _ _ _ _=>JC 0 (show(["fact"]:List Str).Nodup by decide +kernel)) (fun _ _ _ _=>jG) (fun _ _ _ _=>rB (BX T b) hr (cA (aA 0) rA)))))
theorem zW:nG P w K mg b 6 3 "Book" "put" XF:=
 by unfold XF;exact xO (k:=5) (body:=eO) T.Fy cE rfl rfl fun _ _ _ _ _ _ _ hr=>JG (MJ (JP hr.units (aA 1) (FF T.Ux (aA 0))) (eF (KO (vX T b) rfl hr (by decide) rfl (aA 1) T.Sy)) (wJ ZA)) (JG (JT (cR T b) hr (by decide) (aA 0) (cA (aA 2) rA) cE.nd 3) (JG (MJ (HD (KC (rB (NW T b) hr (cA (cJ (dR T b) hr (by decide) (aA 0)) (cA (aA 3) rA))))) (eF (IR T.Yk rfl rfl MA T.zy)) (wJ ZA)) (eF (HL (rP hr.units (aA 3) (FF T.Ux (aA 0)) (aA 1))))))
theorem lW:nG P w K mg b 3 2 "Book" "take" aG:=
 by unfold aG;exact xO (k:=2) (body:=sK) T.qy gX rfl rfl fun _ _ _ _ _ _ _ hr=>JG (MJ (kO hr.units (aA 1) (FF T.Ux (aA 0))) (eF (KO (KW T b) rfl hr (by decide) rfl (aA 1) T.uy)) (wJ ZA)) (eF (HL (CF (HS (FF T.Ux (aA 0)) (aA 1)))))
theorem JM:bK P w K mg b 1 1 "Book" "labels" ND:=
 by unfold ND;exact tT (k:=0) (body:=vN) T.Jk FW rfl rfl fun _ _ _ _ _ _ _ hr=>wA (IA (QX rfl rfl T.zx (FF T.Ux (aA 0))))
theorem sW:nG P w K mg b 6 5 "Book" "asked" GG:=
 by unfold GG;exact RY (k:=5) (body:=vK) T.Qk uD rfl rfl fun _ _ _ _ _ _ _ hr=>JG (JT (cR T b) hr (by decide) (aA 0) (cA (TB (cA MA (cA (aA 1) (cA (aA 2) (cA (aA 3) rA))))) rA) uD.nd 5) (eF (HL (IA zY)))
theorem XQ:pC P w K mg b 1 2 "_law_cell_at" AG:=
 RB (k:=0) (body:=PM) T.wk tW rfl rfl fun _ _ _ _ _ _ _ hr=>uA (cB (iB WP (aA 1) (DD rfl T.Nq (aA 0))) (wA (IA (oA (aA 0) (aA 1)))) ZA) (wA (IA dA))
theorem KH:pC P w K mg b 1 2 "_law_mixed" aD:=
 RB (k:=0) (body:=sN) T.Ck vD rfl rfl fun _ _ _ _ _ _ _ hr=>uA (vB 2 vD.nd (AA BB (AA GF (AA ZD (AA ZD (AA BB (aA 0) dA) (AA GF dA (aA 1))) dA) dA) dA)) (wA (IA (AA BB (AA GF (aA 2) (AA ZD (AA ZD (AA BB (aA 2) dA) (aA 1)) dA)) dA)))
theorem YQ:pC P w K mg b 1 2 "_law_name_by" wF:=
 RB (k:=0) (body:=UI) T.Xw jB rfl rfl fun _ _ _ _ _ _ _ hr=>uA (vB 2 jB.nd MA) (uA (vB 0 jB.nd (AA BB (aA 0) dA)) (uA (cB (WM.tm (KP (iB (xB hr.units) (AA BB (AA iD (aA 0) dA) dA) dA) (qP (iB WP (aA 1) dA)))) (wA (IA (oA (aA 2) (AA BB (AA ZD (aA 1) (AA iD (aA 0) dA)) dA)))) ZA) (uA (vB 3 jB.nd (AA ZD dA (AA BB (AA ZD (aA 0) (AA GF (aA 1) (AA BB (AA iD (aA 0) dA) dA))) dA))) (uA (vB 4 jB.nd (AA BB (AA iD (aA 0) dA) (aA 3))) (uA (fX (Nc:=["_law_x", "_law_cell", "_law_some"]) 5 rfl jB.nd (gJ rfl T.Zx (aA 3)) (by decide +kernel) rfl (by decide +kernel) (by rfl) (by exact⟨⟨rfl,.inl rfl,.inl rfl,rfl⟩,⟨⟨rfl,.inl rfl,.inl rfl,rfl⟩,trivial⟩⟩) (fun _ _ _ _=>JC 0 (show(["_law_x", "_law_cell", "_law_some"]:List Str).Nodup by decide +kernel)) (fun _ _ _ _=>jG) (fun _ _ _ _=>oA (aA 2) (AA BB (AA iD (aA 1) dA) dA)) (by rfl)) (uA (US (oA (aA 2) (AA BB (AA iD (aA 1) dA) dA)) (aA 5) (aA 4)) (uA (US (oA (aA 2) (AA BB (aA 1) dA)) (aA 5) (AA BB (AA ZD (aA 4) dA) (aA 3))) (wA (IA (yY MA (aA 5)))))))))))
theorem nW:pC P w K mg b 1 1 "_law_whole" yK:=
 RB (k:=0) (body:=uN) T.Gk BW rfl rfl fun _ _ _ _ _ _ _ hr=>wA (IA (xP (kG rfl T.Mq rfl T.cg PyProof.Rows.boot_int (by decide) (aA 0)) (VG (jL (kG rfl T.Mq rfl T.Xy PyProof.Rows.boot_bool (by decide) (aA 0))))))
theorem aR:pC P w K mg b 1 2 "_law_texts" IH:=
 RB (k:=0) (body:=tN) T.Ek wD rfl rfl fun _ _ _ _ _ _ _ hr=>uA (cB (WM.tm (IE (HD (KC (kG rfl T.Mq rfl T.zx PyProof.Rows.boot_list (by decide) (aA 0)))) (dH (iB (HF hr.units) (DD rfl T.Nq (aA 0)) (DD rfl T.Nq (aA 1)))))) (wA (IA QC)) ZA) (uA (LF PassesOwn.never rfl (gJ rfl T.Zx (DD rfl T.Nq (aA 1))) (JC 2 wD.nd) (wA (cB (WM.tm (IE (HD (KC (kG rfl T.Mq rfl T.Cv PyProof.Rows.boot_str (by decide) (oA (aA 0) (aA 2))))) (dH (iB (HF hr.units) (oA (aA 0) (aA 2)) (oA (aA 1) (aA 2)))))) (wA (IA QC)) ZA))) (wA (IA QC)))
theorem VQ {R:kB} {k:Nat} (hk:1<=k) (hR:pC P w K mg b k 2 "_law_fact_alike" R):pC P w K mg b (k+1) 2 "_law_facts_alike" (DG R):=
 by unfold DG;exact RB (k:=k) (body:=KM R) T.Uw gC rfl rfl fun _ _ _ _ _ _ _ hr=>uA (cB (WM.tm (IE (HD (KC (kG rfl T.Mq rfl T.zx PyProof.Rows.boot_list (by decide) (aA 0)))) (dH (iB (HF hr.units) (DD rfl T.Nq (aA 0)) (DD rfl T.Nq (aA 1)))))) (wA (IA QC)) ZA) (uA (LF PassesOwn.never rfl (gJ rfl T.Zx (DD rfl T.Nq (aA 1))) (JC 2 gC.nd) (wA (cB (HD (KC (cF hR hr (by omega) rfl (cA (oA (aA 0) (aA 2)) (cA (oA (aA 1) (aA 2)) rA))))) (wA (IA QC)) ZA))) (wA (IA QC)))
theorem ZV {R:kB} {k:Nat} (hk:1<=k) (hR:pC P w K mg b k 2 "_law_fact_alike" R):pC P w K mg b (k+2) 2 "_law_fact_alike" (FB 2 3 (FH R)):=
 RB (k:=k+1) (body:=FH R) T.dw kC rfl rfl fun _ _ _ _ _ _ _ hr=>uA (cB (WM.tm (IE (HD (KC (kG rfl T.Mq rfl T.Uy PyProof.Rows.boot_tuple (by decide) (aA 0)))) (IE (iB (HF hr.units) (DD rfl T.Nq (aA 0)) (DD rfl T.Nq (aA 1))) (IE (HD (KC (kG rfl T.Mq rfl T.Cv PyProof.Rows.boot_str (by decide) (oA (aA 0) dA)))) (dH (iB (HF hr.units) (oA (aA 0) dA) (oA (aA 1) dA))))))) (wA (IA QC)) ZA) (uA (cB (iB (xB hr.units) (oA (aA 1) dA) MA) (wA (IA (cF (VQ T b hk hR) hr (by omega) rfl (cA (oA (aA 0) dA) (cA (oA (aA 1) dA) rA))))) ZA) (uA (LF PassesOwn.never rfl (aY rfl T.Zx dA dA) (JC 2 kC.nd) (wA (cB (WM.tm (IE (HD (KC (cF (nW T b) hr (by omega) rfl (cA (oA (aA 0) (aA 2)) rA)))) (dH (iB (HF hr.units) (oA (aA 0) (aA 2)) (oA (aA 1) (aA 2)))))) (wA (IA QC)) ZA))) (wA (IA QC))))
theorem UQ:∀n:Nat,pC P w K mg b (1+2*n) 2 "_law_fact_alike" (WE n)
 | 0=>dI T.dw
 | n+1=>ZV T b (Nat.le_add_right _ _) (UQ n)
theorem iW:pC P w K mg b 1 1 "_law_mask_by" VI:=
 RB (k:=0) (body:=RM) T.Vw uW rfl rfl fun _ _ _ _ _ _ _ hr=>uA (cB (iB (xB hr.units) (AA BB (aA 0) dA) dA) (wA (IA (AA iU (OT dA) (AA GF (aA 0) (AA cH dA dA))))) ZA) (uA (cB (iB (xB hr.units) (AA BB (aA 0) dA) dA) (wA (IA (AA ZD dA (AA GF (AA iD (aA 0) dA) (AA cH dA dA))))) ZA) (wA (IA (oA (FE (cA dA (cA dA (cA dA (cA (AA BB (AA iD (aA 0) dA) dA) rA))))) (AA BB (AA iD (aA 0) dA) dA)))))
theorem FM:pC P w K mg b 1 2 "_law_name_at" BG:=
 RB (k:=0) (body:=UM) T.Ww vW rfl rfl fun _ _ _ _ _ _ _ hr=>uA (cB (iB (xB hr.units) (AA BB (aA 1) dA) dA) (wA (IA (oA (FE (cA MA (cA MA (cA MA rA)))) (AA BB (AA iD (aA 1) dA) dA)))) ZA) (wA (IA (oA (aA 0) (AA BB (AA iD (aA 1) dA) (DD rfl T.Nq (aA 0))))))
theorem HM:pC P w K mg b 2 2 "_law_ways_by" CG:=
 RB (k:=1) (body:=VM) T.Zw bC rfl rfl fun _ _ _ _ _ _ _ hr=>uA (vB 2 bC.nd (rB (FM T b) hr (cA (aA 0) (cA (rB (KH T b) hr (cA (aA 1) (cA dA rA))) rA)))) (uA (vB 3 bC.nd (rB (FM T b) hr (cA (aA 0) (cA (rB (KH T b) hr (cA (aA 1) (cA dA rA))) rA)))) (wA (IA (TB (cA MA (cA (aA 2) (cA (rB (iW T b) hr (cA (rB (KH T b) hr (cA (aA 1) (cA dA rA))) rA)) (cA (aA 3) rA))))))))
theorem gW:pC P w K mg b 3 2 "_law_fact_by" JH:=
 RB (k:=2) (body:=QM) T.Ak aC rfl rfl fun _ _ _ _ _ _ _ hr=>uA (cB (iB (xB hr.units) (AA BB (aA 1) dA) dA) (uA (vB 2 aC.nd (oA (FE (cA (AA BB (AA iD (aA 1) dA) dA) (cA (AA BB (AA GF (aA 1) dA) (AA cH dA dA)) (cA (OT dA) (cA (AA cH dA dA) rA))))) (AA BB (AA iD (aA 1) dA) dA))) (uA (vB 3 aC.nd (oA (FE (cA (aA 2) (cA (AA ZD (aA 2) dA) (cA (AA cH dA dA) (cA (AA iU (aA 2) dA) (cA (AA ZD (AA cH dA dA) dA) rA)))))) (AA BB (AA iD (aA 1) dA) dA))) (wA (IA (TB (cA MA (cA (rB (FM T b) hr (cA (aA 0) (cA (rB (KH T b) hr (cA (aA 1) (cA dA rA))) rA))) (cA (aA 2) (cA (aA 3) rA))))))))) ZA) (uA (cB (iB (xB hr.units) (AA BB (aA 1) dA) dA) (wA (IA (TB (cA MA (cA (SG (Nc:=["_law_k", "_law_names", "_law_number"]) rfl (gJ rfl T.Zx (AA BB (AA iD (aA 1) dA) dA)) (by decide +kernel) rfl (by decide +kernel) (by rfl) (by exact⟨⟨rfl,.inl rfl,.inl rfl,rfl⟩,⟨⟨rfl,.inl rfl,.inl rfl,rfl⟩,trivial⟩⟩) (fun _ _ _ _=>JC 0 (show(["_law_k", "_law_names", "_law_number"]:List Str).Nodup by decide +kernel)) (fun _ _ _ _=>jG) (fun _ _ _ _=>rB (HM T b) hr (cA (aA 1) (cA (AA ZD (aA 2) (AA GF (AA GF dA (aA 0)) (aA 0))) rA)))) rA))))) ZA) (wA (IA (rB (HM T b) hr (cA (aA 0) (cA (aA 1) rA))))))
theorem jW:pC P w K mg b 1 2 "_law_strange" xF:=
 RB (k:=0) (body:=VF) T.Yw EB rfl rfl fun _ _ _ _ _ _ _ hr=>uA (vB 2 EB.nd (FE (cA (aA 1) rA))) (uA (cB (iB (xB hr.units) (oA (aA 1) dA) MA) (wA (vB 2 EB.nd (oA (aA 1) dA))) ZA) (uA (LF PassesOwn.never rfl (mE (aA 2)) (JC 3 EB.nd) (uA (cB (iB cS (oA (aA 3) dA) (aA 0)) (wA (IA (oA (aA 3) dA))) ZA) (wA (cB (WM.tm (KP (iB (xB hr.units) (oA (aA 3) dA) MA) (qP (iB cS (oA (aA 3) dA) (aA 0))))) (wA (IA (oA (aA 3) dA))) ZA)))) (wA (IA ZH))))
theorem oW {R:kB} {k:Nat} (hk:0<=k) (hR:pC P w K mg b k 1 "_law_bad" R):pC P w K mg b (k+1) 1 "_law_bad" (FB 1 1 (EG R)):=
 RB (k:=k) (body:=EG R) T.iw cX rfl rfl fun _ _ _ _ _ _ _ hr=>uA (cB (iB (xB hr.units) (oA (aA 0) dA) MA) (wA (IA (jL (QR TD TD TD dA (oA (aA 0) dA) (oA (aA 0) dA) (AA cH dA dA))))) ZA) (uA (cB (iB (xB hr.units) (oA (aA 0) dA) MA) (wA (IA (uL (jL (OK TD TD dA (DD rfl T.Nq (oA (aA 0) dA)) dA)) (VG (EF (f7 hr.units) QC (SG (Nc:=["_law_member"]) rfl (mE (oA (aA 0) dA)) (by decide +kernel) rfl (by decide +kernel) (by rfl) (by exact trivial) (fun _ _ _ _=>JC 0 (show(["_law_member"]:List Str).Nodup by decide +kernel)) (fun _ _ _ _=>jG) (fun _ _ _ _=>cF hR hr (by omega) rfl (cA (aA 0) rA)))))))) ZA) (wA (IA (uL (EF (xB hr.units) (oA (aA 0) dA) (oA (aA 0) dA)) (VG (jL (OK TD TD dA (oA (aA 0) dA) dA)))))))
theorem fR:∀n:Nat,pC P w K mg b (0+n) 1 "_law_bad" (VE n)
 | 0=>dI T.iw
 | n+1=>oW T b (Nat.le_add_right _ _) (fR n)
theorem gR:pC P w K mg b 4 4 "_law_due" AF:=
 RB (k:=3) (body:=fO) T.Uk dE rfl rfl fun _ _ _ _ _ _ _ hr=>uA (cB (JP hr.units (aA 2) (aA 1)) (wA (IA (TB (cA MA (cA (aA 2) rA))))) ZA) (uA (vB 4 dE.nd (rB (jW T b) hr (cA (aA 0) (cA (aA 3) rA)))) (uA (cB (iB M0 (aA 4) ZH) (wA (IA (TB (cA MA (cA (aA 4) rA))))) ZA) (uA (cB (KC (rB (fR T b 3) hr (cA (aA 3) rA))) (wA (IA (TB (cA MA (cA MA rA))))) ZA) (wA (IA (TB (cA MA (cA MA rA))))))))
theorem YV {R:kB} {k:Nat} (hk:0<=k) (hR:pC P w K mg b k 2 "_law_by_numbers" R):pC P w K mg b (k+1) 2 "_law_by_numbers" (FB 2 2 (zG R)):=
 RB (k:=k) (body:=zG R) T.bw fW rfl rfl fun _ _ _ _ _ _ _ hr=>uA (cB (iB (xB hr.units) (oA (aA 1) dA) MA) (wA (IA (TB (cA MA (cA (GK hr.units (aA 0) (oA (aA 1) dA)) (cA (oA (aA 1) dA) (cA (oA (aA 1) dA) rA))))))) ZA) (uA (cB (iB (xB hr.units) (oA (aA 1) dA) MA) (wA (IA (TB (cA MA (cA (SG (Nc:=["_law_member", "_law_names"]) rfl (mE (oA (aA 1) dA)) (by decide +kernel) rfl (by decide +kernel) (by rfl) (by exact⟨⟨rfl,.inl rfl,.inl rfl,rfl⟩,trivial⟩) (fun _ _ _ _=>JC 0 (show(["_law_member", "_law_names"]:List Str).Nodup by decide +kernel)) (fun _ _ _ _=>jG) (fun _ _ _ _=>cF hR hr (by omega) rfl (cA (aA 1) (cA (aA 0) rA)))) rA))))) ZA) (wA (IA (TB (cA MA (cA (GK hr.units (aA 0) (oA (aA 1) dA)) (cA (oA (aA 1) dA) (cA (GK hr.units (aA 0) (oA (aA 1) dA)) rA))))))))
theorem WQ:∀n:Nat,pC P w K mg b (0+n) 2 "_law_by_numbers" (zE n)
 | 0=>dI T.bw
 | n+1=>YV T b (Nat.le_add_right _ _) (WQ n)
theorem zN:pC P w K mg b 1 1 "_law_told" YD:=
 RB (k:=0) (body:=WI) T.Zk IC rfl rfl fun _ _ _ _ _ _ _ hr=>uA (cB (iB i7 (aA 0) ZH) (wA (IA (TB (cA MA (cA MA rA))))) ZA) (uA (vB 1 IC.nd (FE (cA (YH rfl T.Mq rfl T.Ny (aA 0)) (cA (YH rfl T.Mq rfl T.Dy (aA 0)) (cA (YH rfl T.Mq rfl T.Ly (aA 0)) rA))))) (uA (vB 1 IC.nd (AA a7 (aA 1) (FE (cA (YH rfl T.Mq rfl T.Ay (aA 0)) (cA (YH rfl T.Mq rfl T.Ey (aA 0)) (cA (YH rfl T.Mq rfl T.Cy (aA 0)) rA)))))) (uA (cB (WM.tm (IE (iB (HF hr.units) (OX (aA 1) QC) dA) (IE (HD (KC (U0 rfl T.Mq rfl T.Pk (by rfl) T.Ik (aA 0)))) (IE (KC (oA (aA 1) dA)) (dH (KC (oA (aA 1) dA))))))) (wA (IA (TB (cA MA (cA MA rA))))) ZA) (uA (cB (KC (oA (aA 1) dA)) (wA (IA (TB (cA MA (cA MA rA))))) ZA) (uA (cB (HD (KC (kG rfl T.Mq rfl T.Cv PyProof.Rows.boot_str (by decide) (iS (XH (VH T.Bv) (XH (VH T.Zz) (XH (VH T.Av) fU))) (aA 0))))) (wA (IA (TB (cA MA (cA MA rA))))) ZA) (wA (IA (TB (cA (oA (FE (cA MA (cA MA (cA MA rA)))) (GK hr.units (aA 1) QC)) (cA (iS (XH (VH T.Bv) (XH (VH T.Zz) (XH (VH T.Av) fU))) (aA 0)) rA))))))))))
theorem MW:pC P w K mg b 7 3 "_law_put" YF:=
 RB (k:=6) (body:=NH) T.Vk XC rfl rfl fun _ _ _ _ _ _ _ hr=>uA (vB 3 XC.nd ZH) (uA (sP (zW T b) T.Yz ⟨rfl,rfl,rfl⟩ hr (by decide) (fun _=>aA 0) (fun _=>cA (aA 1) (cA (aA 2) rA)) rfl XC.nd) (wA (IA (rB (zN T b) hr (cA (aA 3) rA)))))
theorem mW:pC P w K mg b 4 2 "_law_taken" HH:=
 RB (k:=3) (body:=wK) T.Dk qC rfl rfl fun _ _ _ _ _ _ _ hr=>uA (vB 2 qC.nd ZH) (uA (sP (lW T b) T.Yz ⟨rfl,rfl,rfl⟩ hr (by decide) (fun _=>aA 0) (fun _=>cA (aA 1) rA) rfl qC.nd) (wA (IA (rB (zN T b) hr (cA (aA 2) rA)))))
theorem bW:pC P w K mg b 7 2 "_law_question" EH:=
 RB (k:=6) (body:=rK) T.Bk PB rfl rfl fun _ _ _ _ _ _ _ hr=>uA (vB 2 PB.nd ZH) (uA (sP (sW T b) T.Yz ⟨rfl,rfl,rfl⟩ hr (by decide) (fun _=>aA 0) (fun _=>cA (oA (aA 1) dA) (cA (oA (aA 1) dA) (cA (oA (aA 1) dA) (cA dA rA)))) rfl PB.nd) (wA (IA (rB (zN T b) hr (cA (aA 2) rA)))))
theorem wW:pC P w K mg b 8 4 "_law_deed" MH:=
 RB (k:=7) (body:=AN) T.Nk JA rfl rfl fun _ _ _ _ _ _ _ hr=>uA (vB 4 JA.nd (rB (YQ T b) hr (cA dA (cA (AA BB (rB (KH T b) hr (cA (aA 3) (cA dA rA))) dA) rA)))) (uA (cB (iB (xB hr.units) (AA BB (aA 3) dA) dA) (uA (vB 5 JA.nd (TB (cA MA (cA MA rA)))) (uA (cB (kO hr.units (aA 4) (aA 2)) (wA (vB 5 JA.nd (TB (cA MA (cA (aA 4) rA))))) ZA) (uA (vB 6 JA.nd (rB (mW T b) hr (cA (aA 0) (cA (aA 4) rA)))) (uA (cB (JP hr.units (aA 4) (aA 2)) (wA (CF (HS (aA 2) (aA 4)))) ZA) (wA (IA (EF (xB hr.units) (aA 6) (aA 5)))))))) ZA) (uA (cB (iB (xB hr.units) (AA BB (aA 3) dA) dA) (uA (vB 7 JA.nd (rB (HM T b) hr (cA (aA 1) (cA (aA 3) rA)))) (uA (vB 5 JA.nd (rB (gR T b) hr (cA (aA 1) (cA ZK (cA (aA 4) (cA (aA 7) rA)))))) (wA (IA (uL (EF (xB hr.units) (oA (aA 5) dA) MA) (VG (EF (xB hr.units) (rB (bW T b) hr (cA (aA 0) (cA (aA 7) rA))) (aA 5)))))))) ZA) (uA (vB 7 JA.nd (rB (gW T b) hr (cA (aA 1) (cA (AA iD (aA 3) dA) rA)))) (uA (vB 8 JA.nd (DD rfl T.Nq (SG (Nc:=["_law_other"]) rfl (mE (gS rfl rfl T.zx (aA 2))) (by decide +kernel) rfl (by decide +kernel) (by rfl) (by exact trivial) (fun _ _ _ _=>JC 0 (show(["_law_other"]:List Str).Nodup by decide +kernel)) (fun _ _ _ _=>aU (iB (xB hr.units) (oA (aA 0) dA) MA)) (fun _ _ _ _=>aA 0)))) (uA (cB (WM.tm (KP (iB (xB hr.units) (oA (aA 7) dA) MA) (qP (iB yU (aA 8) dA)))) (wA (IA QC)) ZA) (uA (vB 5 JA.nd (rB (gR T b) hr (cA (aA 1) (cA (aA 2) (cA (aA 4) (cA (aA 7) rA)))))) (uA (vB 9 JA.nd (aA 7)) (uA (cB (iB (xB hr.units) (oA (aA 7) dA) MA) (wA (vB 9 JA.nd (TB (cA MA (cA (nO rfl T.zx (oA (aA 7) dA)) rA))))) ZA) (uA (vB 6 JA.nd (rB (MW T b) hr (cA (aA 0) (cA (aA 4) (cA (aA 9) rA))))) (uA (cB (iB (xB hr.units) (oA (aA 7) dA) MA) (wA (CF (LH (oA (aA 9) dA) (TB (cA MA (cA (oA (aA 1) dA) (cA dA (cA (oA (aA 1) dA) rA)))))))) ZA) (uA (cB (iB (xB hr.units) (oA (aA 5) dA) MA) (wA (rP hr.units (rB (WQ T b 3) hr (cA (aA 1) (cA (aA 7) rA))) (aA 2) (aA 4))) ZA) (wA (IA (EF (xB hr.units) (aA 6) (aA 5)))))))))))))))
theorem B3 {f:Addr} {fd:FuncData} (F:iz K "law" "law" bQ f fd):Oj P w K mg b sE 9 f fd ["_law_script"] (NI K 1 lI):=by unfold lI;exact C3 (k:=8) (body:=CL) F cC rfl rfl fun cdv A outer s H E hr=>by(unfold CL UK nJ OG mJ;exact uA (lY (Nc:=["_law_k", "_law_script"]) 1 rfl cC.nd (gJ rfl T.Zx (AA ZD dA (AA BB (rB (XQ T b) hr (cA (aA 0) (cA dA rA))) dA))) (by decide +kernel) rfl (by decide +kernel) (by rfl) (by exact⟨⟨rfl,.inl rfl,.inl rfl,rfl⟩,trivial⟩) (fun _ _ _ _=>JC 0 (show(["_law_k", "_law_script"]:List Str).Nodup by decide +kernel)) (fun _ _ _ _=>jG) (fun _ _ _ _=>rB (YQ T b) hr (cA (rB (XQ T b) hr (cA (aA 1) (cA dA rA))) (cA (aA 0) rA))) (by rfl)) (uA (vB 2 cC.nd (nO rfl T.zx (aA 1))) (uA (vB 3 cC.nd (W0 (eY T b) hr (by decide) rfl (cA (aA 2) rA))) (uA (CF (LH (aA 2) MA)) (uA (vB 4 cC.nd ZK) (uA (vB 5 cC.nd (iL rA)) (uA (LF PassesOwn.never rfl (mE (AY (aA 0) (uT dA) (uT dA))) (JC 6 cC.nd) (uA (cB (HD (KC (rB (wW T b) hr (cA (aA 3) (cA (aA 1) (cA (aA 4) (cA (rB (KH T b) hr (cA (aA 6) (cA dA rA))) rA))))))) (wA (IA QC)) ZA) (uA (vB 7 cC.nd (FE (cA (cJ (JM T b) hr (by decide) (aA 3)) (cA (cJ (dR T b) hr (by decide) (aA 3)) rA)))) (uA (cB (iB (xB hr.units) (AA BB (aA 6) dA) dA) (uA (vB 7 cC.nd (FE (cA (oA (aA 7) dA) (cA (cJ (JM T b) hr (by decide) (aA 3)) rA)))) (wA (vB 7 cC.nd (FE (cA (oA (aA 7) dA) (cA (oA (aA 7) dA) rA)))))) ZA) (uA (cB (WM.tm (IE (HD (KC (rB (aR T b) hr (cA (oA (aA 7) dA) (cA (fS rfl rfl T.zx (aA 4)) rA))))) (dH (HD (KC (rB (VQ T b (by omega) (UQ T b 3)) hr (cA (oA (aA 7) dA) (cA (gS rfl rfl T.zx (aA 4)) rA)))))))) (wA (IA QC)) ZA) (uA (CF (LH (aA 5) (TB (cA (cJ (JM T b) hr (by decide) (aA 3)) (cA (fS rfl rfl T.zx (aA 4)) rA))))) (uA (CF (LH (oA (aA 7) dA) MA)) (uA (CF (LH (oA (aA 7) dA) (TB (cA MA (cA dA (cA dA (cA dA rA))))))) (wA (LF PassesOwn.never rfl (mE (oA (aA 7) dA)) (JC 8 cC.nd) (wA (cB (iB (xB hr.units) (oA (aA 8) dA) MA) (wA (CF (LH (oA (aA 8) dA) (TB (cA MA (cA dA (cA dA (cA dA rA)))))))) ZA)))))))))))) (uA (LF PassesOwn.never rfl (mE (aA 5)) (JC 9 cC.nd) (wA (cB (HD (KC (rB (aR T b) hr (cA (oA (aA 9) dA) (cA (oA (aA 9) dA) rA))))) (wA (IA QC)) ZA))) (wA (IA QC))))))))))
end
theorem XS(a b:Str):(a++b).cps.toList=a.cps.toList++b.cps.toList:=by rw[Str.cps_append];simp
theorem N3{a b:Str}(h:a.cps.toList=b.cps.toList):a=b:=by cases a;cases b;simp only[Str.mk.injEq];exact Array.toList_inj.mp h
theorem cY{z:Str}{ts:List Str}{B:Nat}(hB:∀t∈ts,t.length<=B)(h:ts.length*B+ts.length*z.length<=16777216):JoinOk z ts=true:=by unfold JoinOk;rw[StrLaws.joinFits hB h];rfl
section
variable{l:LI}{h:HI}{fa fb fo f:RE}
def LU(a:Dt)(q:Dt×HI):Option (Dt×HI):=match a with
 | .str z=>(lB q.2 q.1).bind fun xs=>(mG xs).bind fun ts=>if PySem.JoinOk z ts=true then some (.str (Str.join z ts),q.2)else none
 | _=>none
theorem B5:nL fa fb l h=aB (fa l h) fun r=>aB (fb l r.2) (LU r.1):=by
 unfold aB nL
 congr 1
theorem kT:∀ts:List Str,mG (ts.map Dt.str)=some ts
 | []=>rfl
 | t::ts=>by simp only[Zr,mG,kT ts,vf]
theorem P6{z:Str}{d:Dt}{ts:List Str}(e:lB h d=some (ts.map Dt.str))(ok:JoinOk z ts=true):LU (.str z) (d,h)=some (.str (Str.join z ts),h):=by simp only[LU,e,zf,kT,if_pos ok]
theorem XR:∀{nm:List Str}{i:Nat}(_:nm.Nodup)(hi:i<nm.length),hE (nm.map Dt.str) (.str nm[i])=some i
 | [],i,_,hi=>absurd hi (by simp)
 | x::nm,0,_,_=>by simp[hE,GB]
 | x::nm,i+1,nd,hi=>by
  have nd':=nodup_cons.mp nd;have hi':i<nm.length:=by simpa using hi
  have ne:¬x=nm[i]:=fun e=>nd'.1 (e ▸ getElem_mem hi')
  have e:GB (.str x) (.str nm[i])≠true:=by simpa[GB]using ne
  show(if GB (.str x) (.str nm[i])=true then some 0 else(hE (nm.map Dt.str) (.str nm[i])).map (· + 1))=some (i+1);rw[if_neg e,XR nd'.2 hi'];rfl
theorem wR:∀ts:List Str,lC (ts.map Dt.str)=true
 | []=>rfl
 | t::ts=>by simp only[Zr,lC,LA,wR ts,Bool.and_self]
theorem yS:∀ts:List Str,OC (ts.map Dt.str)<=1
 | []=>by simp[OC]
 | t::ts=>by have:=yS ts;simp only[Zr,OC,RF];omega
theorem J1{d:Dt}{nm:List Str}{i:Nat}(e1:fo l h=some (d,h))(e2:lB h d=some (nm.map Dt.str))(nd:nm.Nodup)(hi:i<nm.length)(e3:fa l h=some (.str nm[i],h)):CD fo fa l h=some (.int (i:Nat),h):=by
 have ok:lF (nm.map Dt.str) (.str nm[i])=true:=by have:=yS nm;simp only[lF,wR,LA,Bool.and_self,Bool.true_and,decide_eq_true_eq];omega
 simp only[CD,e1,zf,e2,e3,if_pos ok,XR nd hi,vf]
theorem mR:∀ts:List Str,oE (ts.map Dt.str)=some (ts.map V.str)
 | []=>rfl
 | t::ts=>by simp only[Zr,oE,TC,mR ts,vf,zf]
theorem nS(s:Str):∀ts:List Str,wQ (.str s) (ts.map V.str)=decide (s∈ts)
 | []=>rfl
 | t::ts=>by
  have ih:=nS s ts;unfold wQ at ih ⊢;rw[Zr,any_cons,ih];by_cases e:t=s
  · subst e;simp[YJ]
  · have e':¬s=t:=fun z=>e z.symm
    simp[YJ,e,e']
theorem V1{d:Dt}{nm:List Str}(s:Str)(n:Bool)(e:SE h d=some (nm.map Dt.str)):kM n (.str s) d h=some (.bl (if n then !decide (s∈nm)else decide (s∈nm)),h):=by simp only[kM,TC,zf,e,mR,nS]
end
theorem GJ{c:Nat}(hc:c<=1000)(h:HI):sV (.int (c:Nat),h)=some (.vals ((List.range c).map fun(k:Nat)=>Dt.int (k:Int)),h):=by have er:=F5 (h:=h) (show(-(2^62):Int)<=(c:Int) by omega) (show(c:Int)<2^62 by omega);simp only[Int.toNat_natCast]at er;exact er
theorem dY(z x:Str){ys:List Str}(h:ys ≠ []):Str.join z (x::ys)=x++z++Str.join z ys:=by
 cases ys with
 | nil=>exact absurd rfl h
 | cons y r=>rfl
theorem sJ {i:Nat} (hi:i<26) (h:HI):pA (.str "abcdefghijklmnopqrstuvwxyz") (.int (i:Nat)) h=some (.str ⟨#[97+i]⟩,h):=by
 have t:∀i<26,(Str.ofString "abcdefghijklmnopqrstuvwxyz").cps.toList[i]?=some (97+i):=by decide
 simp only[pA];rw[if_pos (by decide),SM.UH,t i hi];rfl
theorem xX:∀xs:List Nat,Str.join (Str.ofString "") (xs.map fun x=>(⟨#[x]⟩:Str))=⟨xs.toArray⟩:=by
 intro xs;apply N3;have e0:(Str.ofString "").cps.toList=[]:=by decide
 induction xs with
 | nil=>rfl
 | cons x xs ih=>
  cases xs with
  | nil=>rfl
  | cons y r=>rw[Zr,dY _ _ (by simp),XS,XS,e0,ih];simp
noncomputable def Lq(c k:Nat):Nat:=2+(c+k*(c/7%2))%7
def Wq(c k:Nat):Nat:=c/14%Lq c k
def CC(c k:Nat):List Nat:=if c/5%4=1 then [97+(k+c/20)%26]else((List.replicate (Lq c k) (97+c/98%26)).set (Wq c k) 97).set ((Wq c k+1)%Lq c k) (97+k)
def RD(c k:Nat):Str:=⟨(CC c k).toArray⟩
theorem rQ(c k:Nat):2<=Lq c k/\Lq c k<=8/\Wq c k<Lq c k/\(Wq c k+1)%Lq c k<Lq c k/\Wq c k≠(Wq c k+1)%Lq c k:=by
 have h1:2<=Lq c k:=by unfold Lq;omega
 have h2:Lq c k<=8:=by unfold Lq;omega
 have h3:Wq c k<Lq c k:=Nat.mod_lt _ (by omega);refine⟨h1,h2,h3,Nat.mod_lt _ (by omega),?_⟩;by_cases q:Wq c k+1<Lq c k
 · rw[Nat.mod_eq_of_lt q];omega
 · rw[show Wq c k+1=Lq c k by omega,Nat.mod_self];omega
theorem A4(n:Int){c k:Nat}(hc:n%1000003=(c:Int))(hk:k<8)(h:HI):∃g,wF [.int n,.int (k:Nat)] h=some (.str (RD c k),h++g):=by
 have m0:=fun(h:HI)=>yB (h:=h) (i:=n) (j:=1000003) (by decide)
 rw[hc]at m0;have d5:=fun(h:HI)=>SD (h:=h) (i:=(c:Int)) (j:=5) ⟨by decide,by decide⟩
 have m4:=fun(h:HI)=>yB (h:=h) (i:=(c:Int)/5) (j:=4) (by decide)
 have k26:decide ((k:Int)<26)=true:=decide_eq_true (by omega);by_cases q:c/5%4=1
 · have qt:decide ((c:Int)/5%4=1)=true:=decide_eq_true (by omega);have Ag:=fun(h:HI)=>SD (h:=h) (i:=(c:Int)) (j:=20) ⟨by decide,by decide⟩
   have Jw:=fun(h:HI)=>yB (h:=h) (i:=(k:Int)+(c:Int)/20) (j:=26) (by decide)
   have ce:((k:Int)+(c:Int)/20)%26=(((k+c/20)%26:Nat):Int):=by omega
   rw[ce]at Jw;have ab:=sJ (i:=(k+c/20)%26) (Nat.mod_lt _ (by decide)) h;refine⟨[],?_⟩;have en:RD c k=⟨#[97+(k+c/20)%26]⟩:=by unfold RD CC;rw[if_pos q]
   rw[en,Kf];simp only[wF,UI,OA,Xr,Yr,if_true,Zr,bf,Nat.reduceAdd,Nat.reduceSub,List.replicate,Bf,Af,vA,qB,qA,gA,nA,Vr,Wr,iA,fA,uf,jf,DA,m0,GA,JF,xA,d5,m4,jE,qt,zA,lM,k26,HA,Ag,pG,Jw,ab,sB,EA]
 · have qf:decide ((c:Int)/5%4=1)=false:=decide_eq_false (by omega);obtain⟨s1,s2,s3,s4,s5⟩:=rQ c k;have d7:=fun(h:HI)=>SD (h:=h) (i:=(c:Int)) (j:=7) ⟨by decide,by decide⟩
   have m2:=fun(h:HI)=>yB (h:=h) (i:=(c:Int)/7) (j:=2) (by decide)
   have u1:=fun(h:HI)=>PF (h:=h) (i:=(k:Int)) (j:=(c:Int)/7%2) (Or.inl ⟨by omega,by omega⟩)
   have m7:=fun(h:HI)=>yB (h:=h) (i:=(c:Int)+(k:Int)*((c:Int)/7%2)) (j:=7) (by decide)
   have es:(2:Int)+((c:Int)+(k:Int)*((c:Int)/7%2))%7=((Lq c k:Nat):Int):=by unfold Lq;rw[Int.natCast_add];rfl
   have Vh:=fun(h:HI)=>SD (h:=h) (i:=(c:Int)) (j:=14) ⟨by decide,by decide⟩
   have mp:=fun(h:HI)=>yB (h:=h) (i:=(c:Int)/14) (j:=((Lq c k:Nat):Int)) (by omega)
   have ep:(c:Int)/14%((Lq c k:Nat):Int)=((Wq c k:Nat):Int):=rfl;rw[ep]at mp;have mq:=fun(h:HI)=>yB (h:=h) (i:=((Wq c k:Nat):Int)+1) (j:=((Lq c k:Nat):Int)) (by omega)
   have eq:(((Wq c k:Nat):Int)+1)%((Lq c k:Nat):Int)=(((Wq c k+1)%Lq c k:Nat):Int):=rfl;rw[eq]at mq;have dk:=fun(h:HI)=>SD (h:=h) (i:=(k:Int)) (j:=26) ⟨by decide,by decide⟩
   have mk1:=fun(h:HI)=>yB (h:=h) (i:=(k:Int)/26) (j:=26) (by decide)
   have ek1:(k:Int)/26%26=((0:Nat):Int):=by omega
   rw[ek1]at mk1;have mk2:=fun(h:HI)=>yB (h:=h) (i:=(k:Int)) (j:=26) (by decide)
   have ek2:(k:Int)%26=((k:Nat):Int):=by omega
   rw[ek2]at mk2;have Xh:=fun(h:HI)=>SD (h:=h) (i:=(c:Int)) (j:=98) ⟨by decide,by decide⟩
   have Eh:=fun(h:HI)=>yB (h:=h) (i:=(c:Int)/98) (j:=26) (by decide)
   have jt:(c:Int)/98%26=((c/98%26:Nat):Int):=rfl;rw[jt]at Eh;have ec:=fJ (te:=DM) (tc:=dC) (i:=0) (fun(k:Nat)=>Dt.int (k:Int)) (fun _=>Dt.str ⟨#[97+c/98%26]⟩) h (List.range (Lq c k)) [none,some (.int (c:Nat)),some (.str "abcdefghijklmnopqrstuvwxyz")] fun j _=>⟨rfl,by
    simp only[DM,qA,gA,nA,jf,Vr,Wr,iA,fA,Xh,Eh,sJ (Nat.mod_lt _ (by decide))]⟩
   have hs:((List.range (Lq c k)).map fun(k:Nat)=>Dt.int (k:Int)).length<sizeLine:=by rw[length_map,length_range];exact Nat.lt_of_le_of_lt s2 (by decide)
   have r1:=GJ (c:=Lq c k) (by omega) h;obtain⟨xs,hxs⟩:∃xs:List Dt,xs=(List.range (Lq c k)).map fun _=>Dt.str ⟨#[97+c/98%26]⟩:=⟨_,rfl⟩
   have ex:xs=(List.replicate (Lq c k) (97+c/98%26)).map fun x=>Dt.str ⟨#[x]⟩:=by rw[hxs];apply ext_getElem (by simp);intro a b1 b2;simp
   rw[<- hxs]at ec;have xl:xs.length=Lq c k:=by rw[ex];simp
   have at1:(h++[Ob.lst xs])[h.length]?=some (.lst xs):=by simp
   have st1:=fun(l:LI)=>iT (l:=l) (h:=h++[Ob.lst xs]) (n:=h.length) (k:=Wq c k) (v:=.str ⟨#[97+0]⟩) at1 (by omega)
   have h2:(h++[Ob.lst xs]).set h.length (.lst (xs.set (Wq c k) (.str ⟨#[97+0]⟩)))=h++[.lst (xs.set (Wq c k) (.str ⟨#[97+0]⟩))]:=by simp
   rw[h2]at st1;have at2:(h++[Ob.lst (xs.set (Wq c k) (.str ⟨#[97+0]⟩))])[h.length]?=some (.lst (xs.set (Wq c k) (.str ⟨#[97+0]⟩))):=by simp
   have st2:=fun(l:LI)=>iT (l:=l) (h:=h++[Ob.lst (xs.set (Wq c k) (.str ⟨#[97+0]⟩))]) (n:=h.length) (k:=(Wq c k+1)%Lq c k) (v:=.str ⟨#[97+k]⟩) at2 (by rw[length_set];omega)
   have en:(xs.set (Wq c k) (.str ⟨#[97+0]⟩)).set ((Wq c k+1)%Lq c k) (.str ⟨#[97+k]⟩)=((CC c k).map fun x=>(⟨#[x]⟩:Str)).map Dt.str:=by unfold CC;rw[if_neg q,ex,map_map,<- map_set,<- map_set];rfl
   have h3:(h++[Ob.lst (xs.set (Wq c k) (.str ⟨#[97+0]⟩))]).set h.length (.lst ((xs.set (Wq c k) (.str ⟨#[97+0]⟩)).set ((Wq c k+1)%Lq c k) (.str ⟨#[97+k]⟩)))=h++[.lst (((CC c k).map fun x=>(⟨#[x]⟩:Str)).map Dt.str)]:=by rw[en];simp
   rw[h3]at st2;have nl:(CC c k).length<=8:=by unfold CC;rw[if_neg q];simp;exact s2
   have jk:=P6 (h:=h++[.lst (((CC c k).map fun x=>(⟨#[x]⟩:Str)).map Dt.str)]) (z:=Str.ofString "") (d:=.ref h.length) (ts:=(CC c k).map fun x=>(⟨#[x]⟩:Str)) (by simp[lB]) (cY (B:=1) (fun t m=>by obtain⟨x,_,rfl⟩:=mem_map.mp m;exact Hf 1) (by
    have:(Str.ofString "").length=0:=by decide
    rw[this,length_map];omega))
   rw[xX]at jk;have jk:LU (.str (Str.ofString "")) (.ref h.length,h++[.lst (((CC c k).map fun x=>(⟨#[x]⟩:Str)).map Dt.str)])=some (.str (RD c k),h++[.lst (((CC c k).map fun x=>(⟨#[x]⟩:Str)).map Dt.str)]):=jk;have Rh:=fun(h:HI)=>sJ (i:=0) (by decide) h
   have Sh:=fun(h:HI)=>sJ (i:=k) (by omega) h
   refine⟨[.lst (((CC c k).map fun x=>(⟨#[x]⟩:Str)).map Dt.str)],?_⟩;simp only[wF,UI,OA,Xr,Yr,if_true,Zr (f:=some),bf (f:=some),Nat.reduceAdd,Nat.reduceSub,List.replicate,Bf,Af,vA,qB,qA,gA,nA,Vr,Wr,iA,fA,uf,jf,DA,m0,GA,JF,xA,d5,m4,jE,qf,zA,Lf,if_false,QA,d7,m2,u1,pG,m7,es,Vh,mp,bT,RJ,r1,EE,eJ,BE,Option.join_some,ZF _ _ _ hs,ec,D5,dk,mk1,Rh,st1,mk2,Sh,mq,st2,HA,B5,jk,EA]
theorem xS{α:Type}{te:RE}{i:Nat}(D F:α->Dt)(h0:HI):∀(xs:List α)(l:LI)(e:HI),(∀x∈xs,∀e,∃g,te (l.set i (some (D x))) (h0++e)=some (F x,h0++e++g))->
 ∃g,dD (bB i) dC te (xs.map D) l (h0++e)=some (xs.map F,h0++e++g)
 | [],_,e,_=>⟨[],by simp[dD]⟩
 | x::xs,l,e,H=>by
  obtain⟨g,hx⟩:=H x (by simp) e;obtain⟨g2,ih⟩:=xS D F h0 xs (l.set i (some (D x))) (e++g) (te:=te) (i:=i) (fun y hy e=>by
   rw[set_set];exact H y (by simp[hy]) e)
  rw[<- append_assoc]at ih;refine⟨g++g2,?_⟩;simp only[Zr,dD,OD,zf,dP,hx,if_true,ih];rw[append_assoc (h0++e)]
theorem VY(c k:Nat):(RD c k).length=(CC c k).length:=by simp[RD,Str.length]
theorem sO(c k:Nat):(RD c k).cps.toList=CC c k:=by simp[RD]
theorem F0{c k x:Nat}(hk:k<8)(h:x∈CC c k):97<=x/\x<=122:=by
 unfold CC at h;split at h
 · rw[mem_singleton.mp h];omega
 · rcases mem_or_eq_of_mem_set h with h | rfl
   · rcases mem_or_eq_of_mem_set h with h | rfl
     · rw[(mem_replicate.mp h).2];omega
     · omega
   · omega
theorem VZ(c k:Nat):1<=(CC c k).length/\(CC c k).length<=8:=by
 obtain⟨s1,s2,_⟩:=rQ c k;unfold CC;split
 · simp
 · simp;omega
theorem UZ{c k k':Nat}(hk:k<8)(hk':k'<8)(e:RD c k=RD c k'):k=k':=by
 have e:=congrArg (fun s:Str=>s.cps.toList) e;rw[sO,sO]at e;unfold CC at e;by_cases q:c/5%4=1
 · rw[if_pos q,if_pos q]at e;injection e with e _
   omega
 · rw[if_neg q,if_neg q]at e;have el:=congrArg List.length e;simp only[length_set,length_replicate]at el;obtain⟨s1,s2,s3,s4,s5⟩:=rQ c k;have ep:Wq c k=Wq c k':=by unfold Wq;rw[el]
   rw[el,ep]at e s4;have e2:=congrArg (fun l:List Nat=>l[(Wq c k'+1)%Lq c k']?) e;rw[getElem?_set_self (by simpa using s4),getElem?_set_self (by simpa using s4)]at e2;injection e2 with e2
   omega
def xQ(c n:Nat):List Str:=(List.range n).map (RD c)
def fM(b:Bool)(y:Dt)(o:Dt×HI):Option (Dt×HI):=(VD y).bind fun k=>(yD o.2 o.1).map fun kvs=>(.bl ((iC kvs k).isSome==b),o.2)
theorem lG(b:Bool)(fy fo:RE)(l:LI)(h:HI):uE b fy fo l h=aB (fy l h) fun y=>aB (fo l y.2) fun o=>fM b y.1 o:=by rfl
theorem cG{b:Bool}{z:Str}{h:HI}{n:Nat}{kvs:List (FA×Dt)}(e:h[n]?=some (.dk kvs)):fM b (.str z) (.ref n,h)=some (.bl ((iC kvs (.inr z)).isSome==b),h):=by simp only[fM,VD,zf,yD,e,vf]
def kQ(o:Dt)(y:Dt×HI):Option (Dt×HI):=(VD y.1).bind fun k=>(yD y.2 o).bind fun kvs=>(iC kvs k).map fun d=>(d,y.2)
theorem AT(fo fy:RE)(l:LI)(h:HI):JJ fo fy l h=aB (fo l h) fun o=>aB (fy l o.2) fun y=>kQ o.1 y:=by rfl
theorem uO{z:Str}{h:HI}{n:Nat}{kvs:List (FA×Dt)}{d:Dt}(e:h[n]?=some (.dk kvs))(g:iC kvs (.inr z)=some d):kQ (.ref n) (.str z,h)=some (d,h):=by simp only[kQ,VD,zf,yD,e,g,vf]
def mQ(l:LI)(v o:Dt)(y:Dt×HI):Option Rs:=(VD y.1).bind fun k=>match o with
 | .ref n=>match y.2[n]? with
  | some (.dk kvs)=>if kvs.length<PySem.sizeLine then some (.nx l (y.2.set n (.dk (wG kvs k v))))else none
  | _=>none
 | _=>none
theorem bP(fe fo fy:RE)(l:LI)(h:HI):wI fe fo fy l h=aB (fe l h) fun v=>aB (fo l v.2) fun o=>aB (fy l o.2) fun y=>mQ l v.1 o.1 y:=by rfl
theorem vO{l:LI}{v:Dt}{z:Str}{h:HI}{n:Nat}{kvs:List (FA×Dt)}(e:h[n]?=some (.dk kvs))(hl:kvs.length<=1000):mQ l v (.ref n) (.str z,h)=some (.nx l (h.set n (.dk (wG kvs (.inr z) v)))):=by have:kvs.length<PySem.sizeLine:=Nat.lt_of_le_of_lt hl (by decide);simp only[mQ,VD,zf,e,if_pos this]
def lQ(fy:RE)(l:LI)(o:Dt×HI):Option (Dt×HI):=match o.1 with
 | .ref n=>match o.2[n]? with
  | some (.dk _)=>aB (fy l o.2) fun y=>(VD y.1).bind fun k=>match y.2[n]? with
   | some (.dk kvs)=>(iC kvs k).map fun d=>(d,y.2.set n (.dk (OF kvs k)))
   | _=>none
  | _=>none
 | _=>none
theorem CT(fo fy:RE)(l:LI)(h:HI):KJ fo fy l h=aB (fo l h) fun o=>lQ fy l o:=by rfl
theorem rS{fy:RE}{l:LI}{z:Str}{h:HI}{n:Nat}{kvs:List (FA×Dt)}{d:Dt}(e:h[n]?=some (.dk kvs))(ey:fy l h=some (.str z,h))(g:iC kvs (.inr z)=some d):lQ fy l (.ref n,h)=some (d,h.set n (.dk (OF kvs (.inr z)))):=by simp only[lQ,e,ey,fA,VD,zf,g,vf]
theorem MP(x fl:Str)(c:Int)(g:RE)(l:LI)(h:HI):JI x fl c g l h=aB (g l h) fun r=>(TF c r.1).map fun i=>.rt (.thr x fl i) r.2:=by rfl
theorem UO{z:Str}(hl:z.length<=1000)(hz:∀n∈z.cps.toList,n<1000):TF 114 (.str z)=some (.inr z):=by unfold TF;exact if_pos ⟨rfl,hl,hz⟩
theorem C5 (x:Str) (g:RE) (l:LI) (h:HI):VJ x g l h=aB (g l h) fun r=>some (.rt (.thr x "" (.inl 0)) r.2):=by unfold VJ;cases g l h<;>rfl
noncomputable def yQ(i:Nat)(l:LI)(r:Dt×HI):Option Rs:=some (match r.1 with
 | .thr x f y=>.rt (.thr x f y) r.2
 | d=>.nx (l.set i (some d)) r.2)
theorem cP(i:Nat)(f:RE)(l:LI)(h:HI):UJ i f l h=aB (f l h) fun r=>yQ i l r:=by unfold UJ;cases f l h<;>rfl
noncomputable def sF(tab:List Str)(i j:Nat)(l:LI)(q:Dt×HI):Option Rs:=match q.1 with
 | .thr x f y=>if x∈tab then some (.nx ((l.set i (some (.err x f y))).set j none) q.2)else none
 | _=>some (.nx l q.2)
theorem fG(f:RE)(tab:List Str)(i j:Nat)(l:LI)(h:HI):WJ f tab i j l h=aB (f l h) fun q=>sF tab i j l q:=by rfl
theorem QK(x m:Str)(F:kB)(fo:RE)(l:LI)(h:HI):qE x m F fo l h=nE x m F fo jA l h:=by rfl
theorem u5(f:RE)(l:LI)(h:HI):tL f l h=aB (f l h) fun r=>some (r.1,pE h r.2):=by unfold tL;cases f l h<;>rfl
noncomputable def nQ(r:Dt×HI):Option (Src×HI):=match r.1 with
 | .ref n=>match r.2[n]? with
  | some (.dk kvs)=>some (.vals (kvs.map (·.2)),r.2.set n (.Qx kvs))
  | _=>none
 | _=>none
theorem yZ(f:RE)(l:LI)(h:HI):BP f l h=aB (f l h) fun r=>nQ r:=by rfl
theorem OZ{h:HI}{n:Nat}{kvs:List (FA×Dt)}(e:h[n]?=some (.dk kvs)):nQ (.ref n,h)=some (.vals (kvs.map (·.2)),h.set n (.Qx kvs)):=by simp only[nQ,e]
theorem UX{h:HI}{n:Nat}{kvs:List (FA×Dt)}(e:h[n]?=some (.dk kvs)):bF (.ref n) h=some (.lst (kvs.map fun p=>kD p.1),h):=by simp only[bF,yD,e,vf]
structure Wy where
 a:Str
 m:Int
 b:Str
inductive Fc where
 | ways (w:Wy)
 | long (a:Str) (lo hi:Int)
 | one (ws:List Wy)
noncomputable def AB (w:Wy):Dt:=.tup [.str "ways", .str w.a,.int w.m,.str w.b]
def OB:Fc->Dt
 | .ways w=>AB w
 | .long a lo hi=>.tup [.str "long", .str a,.int lo,.int hi]
 | .one ws=>.tup [.str "one", .lst (ws.map AB)]
noncomputable def gB:Fc->List Str
 | .ways w=>[w.a,w.b]
 | .long a _ _=>[a]
 | .one ws=>ws.flatMap fun w=>[w.a,w.b]
theorem nI(a b c d:Dt):Rq [a,b,c,d] 3=some d:=rfl
theorem cI(a b c d:Dt):Rq [a,b,c,d] 2=some c:=rfl
theorem kL:decide (("long" :Str) = "ways")=false:=by decide
theorem yJ:decide (("one" :Str) = "ways")=false:=by decide
theorem WG:decide (("one" :Str) = "long")=false:=by decide
theorem zK(n:Nat):XD (n+1)=FB 1 3 (WF (XD n)):=rfl
theorem nN(n:Nat)(w:Wy)(h:HI):XD (n+1) [AB w] h=some (.ref h.length,h++[.lst [.str w.a,.str w.b]]):=by
 have s2:2<=sizeLine:=by decide
 rw[zK];simp only[WF,AB,OA,Xr,Yr,if_true,Zr,bf,Nat.reduceAdd,Nat.reduceSub,List.replicate,Bf,Af,vA,GA,xA,qA,gA,nA,Vr,Wr,iA,fA,DC,cD,mD,nI,vf,fB,decide_true,zA,HA,FJ,CA,yA,s2,sB,EA]
theorem UW(n:Nat)(a:Str)(lo hi:Int)(h:HI):XD (n+1) [OB (.long a lo hi)] h=some (.ref h.length,h++[.lst [.str a]]):=by
 have s1:1<=sizeLine:=by decide
 rw[zK];simp only[WF,OB,OA,Xr,Yr,if_true,Zr,bf,Nat.reduceAdd,Nat.reduceSub,List.replicate,Bf,Af,vA,GA,xA,qA,gA,nA,Vr,Wr,iA,fA,DC,cD,mD,vf,fB,kL,decide_true,zA,Lf,if_false,QA,DA,HA,FJ,CA,yA,s1,sB,EA]
theorem tQ{α:Type}{xs:List α}{k:Nat}{x:α}(h:xs[k]?=some x):xs.take (k+1)=xs.take k++[x]:=by rw[take_succ,h];rfl
theorem rC(h:HI)(x:Ob)(g:HI):(h++x::g)[h.length]?=some x:=by rw[Jf (Hf _),Nat.sub_self];rfl
theorem RK(h:HI)(x y:Ob)(g:HI):(h++x::g).set h.length y=h++y::g:=by rw[set_append_right _ _ (Hf _),Nat.sub_self];rfl
theorem K9(n:Nat){ws:List Wy}(hl:ws.length<=1000)(h:HI):∃g,XD (n+2) [OB (.one ws)] h=some (.ref h.length,h++.lst ((gB (.one ws)).map Dt.str)::g):=by
 obtain⟨l',h',e,y,g,rfl,rfl⟩:=SK (i:=2) (body:=ZI (XD (n+1))) AB (fun k l h'=>∃y g,l=[some (OB (.one ws)),some (.ref h.length),y]/\h'=h++.lst (((ws.take k).flatMap fun w=>[w.a,w.b]).map Dt.str)::g) ws 0 (by
  rintro k w hw l h' ⟨y,g,rfl,rfl⟩;have kl:k<ws.length:=(Df hw).1;have fl:∀xs:List Wy,(xs.flatMap fun w=>[w.a,w.b]).length=2*xs.length:=fun xs=>by
   induction xs with
   | nil=>rfl
   | cons x xs ih=>simp only[flatMap_cons,length_append,Xr,Yr,ih];omega
  have en:=nN n w (h++Ob.lst (((ws.take (0+k)).flatMap fun w=>[w.a,w.b]).map Dt.str)::g);generalize hx:((ws.take (0+k)).flatMap fun w=>[w.a,w.b]).map Dt.str=xs at en;have xl:xs.length=2*min k ws.length:=by rw[<- hx,length_map,fl,length_take,Nat.zero_add]
  have e1:(h++Ob.lst xs::g++[Ob.lst [.str w.a,.str w.b]])[h.length]?=some (.lst xs):=by rw[append_assoc];exact rC _ _ _
  have e2:(h++Ob.lst xs::g++[Ob.lst [.str w.a,.str w.b]])[(h++Ob.lst xs::g).length]?=some (.lst [.str w.a,.str w.b]):=rC _ _ _;have ek:=jS (fa:=KA (XD (n+1)) [] (bA (eV 2) jA)) (l:=[some (OB (.one ws)),some (.ref h.length),some (AB w)]) (rC h (Ob.lst xs) g) (by
   simp only[dB,CA,yA,gA,Vr,Wr,iA,fA,Kf,en]) e1 e2 (by
    rw[xl];simp[sizeLine];omega)
  have sm:(h++Ob.lst xs::g++[Ob.lst [.str w.a,.str w.b]]).set h.length (.lst (xs++[.str w.a,.str w.b]))=h++.lst (((ws.take (0+k+1)).flatMap fun w=>[w.a,w.b]).map Dt.str)::(g++[.lst [.str w.a,.str w.b]]):=by rw[append_assoc,Bf,RK,Nat.zero_add,tQ hw,flatMap_append,map_append,<- hx,Nat.zero_add];rfl
  rw[sm]at ek;refine⟨.nx [some (OB (.one ws)),some (.ref h.length),some (AB w)] _,?_,some (AB w),g++[.lst [.str w.a,.str w.b]],rfl,rfl⟩;simp only[ZI,eG,cT,gA,uf,jf,Vr,Wr,iA,fA,ek]) [some (OB (.one ws)),some (.ref h.length),none] (h++[.lst []]) ⟨none,[],rfl,by simp⟩
 rw[Nat.zero_add,take_length]at e;refine⟨g,?_⟩;rw[zK];simp only[WF,OA,Xr,Yr,if_true,Zr,bf,Nat.reduceAdd,Nat.reduceSub,List.replicate,Bf,Af,vA,GA,xA,qA,gA,nA,Vr,Wr,iA,fA,show OB (.one ws)=.tup [.str "one", .lst (ws.map AB)]from rfl,DC,cD,mD,vf,fB,yJ,WG,zA,Lf,if_false,QA,DA,qB,FJ,yA,Nat.zero_le,uf,jf,FD,NC,kE,AE];rw[show Dt.tup [.str "one", .lst (ws.map AB)]=OB (.one ws)from rfl,e];simp only[fA,DA,HA,gA,Vr,Wr,iA,EA];rfl
noncomputable def fC(w:Wy):Bool:=!decide (w.a=w.b)&&(decide (0<=w.m)&&decide (w.m<=8191))
def sC:Fc->Bool
 | .ways w=>fC w
 | .long _ lo hi=>decide (0<=lo)&&(decide (lo<=hi)&&decide (hi<=1000000000000000000))
 | .one ws=>(decide (1<=ws.length)&&decide (ws.length<=6))&&ws.all fC
theorem AK(n:Nat):lE (n+1)=FB 1 1 (bG (lE n)):=rfl
theorem oN(n:Nat)(w:Wy)(h:HI):lE (n+1) [AB w] h=some (.bl (fC w),h):=by
 rw[AK];simp only[bG,AB,OA,Xr,Yr,if_true,Zr,bf,Nat.reduceAdd,Nat.reduceSub,List.replicate,Bf,Af,Kf,vA,GA,xA,qA,gA,nA,Vr,Wr,iA,fA,DC,cD,mD,cI,nI,vf,fB,decide_true,zA,HA,NP,wU,IG,vJ,UF,qJ];unfold fC;by_cases a:w.a=w.b
 · simp[a]
 · by_cases b:0<=w.m
   · simp[a,b]
   · simp[a,b]
theorem L9(n:Nat){ws:List Wy}(hl:ws.length<=1000)(h:HI):lE (n+2) [OB (.one ws)] h=some (.bl (sC (.one ws)),h):=by
 have ca:=fJ (te:=GH (lE (n+1))) (i:=0) (tc:=dC) AB (fun w=>Dt.bl (fC w)) h ws [none] (by
  intro w _;refine⟨rfl,?_⟩;simp only[GH,dB,CA,yA,gA,jf,Vr,iA,fA,Kf,oN])
 have ck:=ZF (l:=[none]) (h:=h) (bB 0) dC (GH (lE (n+1))) (xs:=ws.map AB) (by rw[length_map];simp[sizeLine];omega);rw[ca]at ck;have fa:=qU (h:=h) (ws.map fC);rw[map_map]at fa;have Cg:wH (.lst (ws.map fun w=>Dt.bl (fC w))) h=some (.bl (ws.all fC),h):=by rw[show(ws.map fun w=>Dt.bl (fC w))=ws.map (Dt.bl ∘ fC)from rfl,fa,all_map];rfl
 rw[AK];simp only[bG,OB,OA,Xr,Yr,if_true,Zr,bf,Nat.reduceAdd,Nat.reduceSub,List.replicate,Bf,Af,Kf,vA,GA,xA,qA,gA,nA,Vr,Wr,iA,fA,DC,cD,mD,vf,fB,yJ,WG,zA,Lf,if_false,QA,DA,HA,NP,vJ,HC,AJ,length_map,UF,SM.qJ];unfold sC;by_cases a:1<=ws.length
 · by_cases b:ws.length<=6
   · have a':decide ((1:Int)<=((ws.length:Nat):Int))=true:=decide_eq_true (by omega);have b':decide (((ws.length:Nat):Int)<=6)=true:=decide_eq_true (by omega);simp only[a',b',if_true,fA,IG,HC,BF,NC,qA,gA,nA,Vr,Wr,iA,DC,mD,vf,kE,EE,BE,ck,Cg,EA,decide_eq_true a,decide_eq_true b,Bool.true_and]
   · have a':decide ((1:Int)<=((ws.length:Nat):Int))=true:=decide_eq_true (by omega);have b':decide (((ws.length:Nat):Int)<=6)=false:=decide_eq_false (by omega);simp only[a',b',if_true,fA,IG,Lf,if_false,EA,decide_eq_false b,Bool.and_false,Bool.false_and]
 · have a':decide ((1:Int)<=((ws.length:Nat):Int))=false:=decide_eq_false (by omega);simp only[a',fA,IG,Lf,if_false,EA,decide_eq_false a,Bool.false_and]
theorem MX (lo hi:Int) (h:HI):uK [.int lo,.int hi] h=some (.bl (sC (.long "" lo hi)),h):=by
 have ch:∀(l:LI) (h:HI),l[0]?=some (some (.int lo))->l[1]?=some (some (.int hi))->QG JE JE JE (eC (.int 0)) (eV 0) (eV 1) (eC EK) l h=some (.bl (sC (.long "" lo hi)),h):=fun l h e1 e2=>by
  unfold sC QG eC eV;rw[e1,e2];by_cases a:0<=lo
  · by_cases b:lo<=hi
    · simp[a,b]
    · simp[a,b]
  · simp[a]
 simp only[uK,CN,OA,Xr,Yr,if_true,Zr,bf,Nat.reduceAdd,Nat.reduceSub,List.replicate,Kf,HA];rw[ch _ _ rfl rfl];rfl
theorem IW(n:Nat)(a:Str)(lo hi:Int)(h:HI):lE (n+1) [OB (.long a lo hi)] h=some (.bl (sC (.long a lo hi)),h):=by
 have el:=fun h=>MX lo hi h
 rw[AK];simp only[bG,OB,OA,Xr,Yr,if_true,Zr,bf,Nat.reduceAdd,Nat.reduceSub,List.replicate,Bf,Af,Kf,vA,GA,xA,qA,gA,nA,Vr,Wr,iA,fA,DC,cD,mD,cI,nI,vf,fB,kL,decide_true,zA,Lf,if_false,QA,DA,HA,dB,CA,yA,el,sB,EA];rfl
noncomputable def sG (ix:Str->Nat) (w:Wy):Dt:=.tup [.str "ways", .int (ix w.a:Nat),.int w.m,.int (ix w.b:Nat)]
def UB(ix:Str->Nat):Fc->Dt
 | .ways w=>sG ix w
 | .long a lo hi=>.tup [.str "long", .int (ix a:Nat),.int lo,.int hi]
 | .one ws=>.tup [.str "one", .lst (ws.map (sG ix))]
theorem jO(n:Nat):uF (n+1)=FB 2 2 (FG (uF n)):=rfl
theorem lR(n:Nat){ix:Str->Nat}{kvs:List (FA×Dt)}{h:HI}{d:Nat}(e:h[d]?=some (.dk kvs)){w:Wy}(h1:iC kvs (.inr w.a)=some (.int (ix w.a:Nat)))(h2:iC kvs (.inr w.b)=some (.int (ix w.b:Nat))) :
 uF (n+1) [AB w,.ref d] h=some (sG ix w,h):=by
 have s4:4<=sizeLine:=by decide
 have g1:=uO e h1;have g2:=uO e h2;rw[jO];simp only[FG,AB,sG,OA,Xr,Yr,if_true,Zr,bf,Nat.reduceAdd,Nat.reduceSub,List.replicate,Bf,Af,Kf,vA,GA,xA,qA,gA,nA,Vr,Wr,iA,fA,DC,cD,mD,cI,nI,vf,fB,decide_true,zA,HA,XB,CA,yA,AT,g1,g2,s4,sB,EA]
theorem pX(n:Nat){ix:Str->Nat}{kvs:List (FA×Dt)}{h:HI}{d:Nat}(e:h[d]?=some (.dk kvs)){a:Str}(lo hi:Int)(h1:iC kvs (.inr a)=some (.int (ix a:Nat))) :
 uF (n+1) [OB (.long a lo hi),.ref d] h=some (UB ix (.long a lo hi),h):=by
 have s4:4<=sizeLine:=by decide
 have g1:=uO e h1;rw[jO];simp only[FG,OB,UB,OA,Xr,Yr,if_true,Zr,bf,Nat.reduceAdd,Nat.reduceSub,List.replicate,Bf,Af,Kf,vA,GA,xA,qA,gA,nA,Vr,Wr,iA,fA,DC,cD,mD,cI,nI,vf,fB,kL,decide_true,zA,Lf,if_false,QA,DA,HA,XB,CA,yA,AT,g1,s4,sB,EA]
theorem qV(x y:Str)(h:HI):VC (.str x) (.str y) h=some (.bl (!decide (x=y)),h):=by simp[VC,NU,TC,KI,L2.kP]
theorem R0(i:Int)(h:HI):yK [.int i] h=some (.bl true,h):=by simp[yK,uN]
theorem dU(ns:List Int)(k:Nat)(h:HI):AG [.lst (ns.map Dt.int),.int (k:Int)] h=some (.int (ns[k]?.getD 0),h):=by
 simp[AG,PM];by_cases hk:k<ns.length
 · simp[hk]
 · simp[hk]
theorem U8{h:HI}{d:Dt}{xs:List Dt}(e:lB h d=some xs)(i:Int):pA d (.int i) h=(L2.Rq xs i).map fun d=>(d,h):=by
 cases d with
 | lst ys=>cases e;rfl
 | ref n=>
  simp only[lB]at e;split at e
  · rename_i zs q;cases e;exact K7 q i
  · cases e
 | _=>cases e
theorem lL{h:HI}{d:Dt}{xs:List Dt}(e:lB h d=some xs):YB d h=some (.int xs.length,h):=by
 cases d with
 | lst ys=>cases e;rfl
 | ref n=>
  simp only[lB]at e;split at e
  · rename_i zs q;cases e;exact zP q
  · cases e
 | _=>cases e
theorem xL{h:HI}{d0:Dt}{xs:List Dt}{d:Dt}(e:lB h d0=some xs){k:Nat}(hk:xs[k]?=some d):pA d0 (.int (k:Nat)) h=some (d,h):=by rw[U8 e,SM.UH,hk];rfl
theorem FT {h:HI} {d:Dt} {xs:List Dt} (e:lB h d=some xs):tE h d=some "list" :=by
 cases d with
 | lst ys=>rfl
 | ref n=>
  simp only[lB]at e;split at e
  · rename_i zs q;simp only[tE,q]
  · cases e
 | _=>cases e
theorem fI{T t:String}{f:RE}{l:LI}{h:HI}{d:Dt}(e:f l h=some (d,h))(ht:tE h d=some t):vC T f l h=some (.bl (eM t T),h):=by simp only[vC,e,zf,ht,vf]
theorem GS{nm:List Str}(hl:nm.length<=1000){h:HI}{d0 d1:Dt}(e0:lB h d0=some (nm.map Dt.str))(e1:lB h d1=some (nm.map Dt.str)):IH [d0,d1] h=some (.bl true,h):=by
 have i0:=fI (T := "list") (f:=eV 0) (l:=[some d0,some d1,none]) (h:=h) (d:=d0) rfl (FT e0);have i0:vC "list" (eV 0) [some d0,some d1,none] h=some (.bl true,h):=i0;have l0:=lL e0;have l1:=lL e1;rw[length_map]at l0 l1;obtain⟨l',h',w,⟨y,rfl⟩,rfl⟩:=JO (i:=2) (body:=YM) (fun(k:Nat)=>Dt.int (k:Int)) (fun l h'=>(∃y,l=[some d0,some d1,y])/\h'=h) (List.range nm.length) (by
  rintro k hk l h' ⟨⟨y,rfl⟩,rfl⟩;have hk:=mem_range.mp hk;refine⟨.nx [some d0,some d1,some (.int (k:Nat))] h',?_,⟨_,rfl⟩,rfl⟩;have g0:pA d0 (.int (k:Nat)) h'=some (.str nm[k],h'):=xL e0 (by rw[getElem?_map,getElem?_eq_getElem hk];rfl);have g1:pA d1 (.int (k:Nat)) h'=some (.str nm[k],h'):=xL e1 (by rw[getElem?_map,getElem?_eq_getElem hk];rfl);have is:=fI (T := "str") (f:=e2 pA (eV 0) (eV 2)) (l:=[some d0,some d1,some (.int (k:Nat))]) (h:=h') (d:=.str nm[k]) (by simp only[qA,gA,Vr,Wr,iA,fA,g0]) rfl;have is:vC "str" (e2 pA (eV 0) (eV 2)) [some d0,some d1,some (.int (k:Nat))] h'=some (.bl true,h'):=is;simp only[YM,GA,QF,GD,xA,uf,jf,is,fA,zA,Bool.not_true,Lf,if_false,qA,gA,Vr,Wr,iA,g0,g1,qV,decide_true,QA]) [some d0,some d1,none] h ⟨⟨_,rfl⟩,rfl⟩
 simp only[IH,tN,OA,Xr,Yr,if_true,Zr (f:=some),bf (f:=some),Nat.reduceAdd,Nat.reduceSub,List.replicate,Bf,Af,vA,GA,QF,GD,xA,i0,fA,zA,Bool.not_true,Lf,if_false,qA,HC,gA,Vr,Wr,iA,l0,l1,II,decide_true,QA,DA,FD,RJ,GJ hl,AE,w,HA,nA,EA]
theorem JS(n:Nat):WE (n+1)=FB 2 3 (FH (WE n)):=rfl
theorem AX{R:kB}{s:Str}{a b c:Int}{h:HI}:∃y,MC (bB 2) (pK R) ((List.range 3).map fun(k:Nat)=>Dt.int (1+(k:Int))) [some (.tup [.str s,.int a,.int b,.int c]),some (.tup [.str s,.int a,.int b,.int c]),none] h=some (.nx [some (.tup [.str s,.int a,.int b,.int c]),some (.tup [.str s,.int a,.int b,.int c]),y] h):=by
 obtain⟨l',h',w,⟨y,rfl⟩,rfl⟩:=JO (i:=2) (body:=pK R) (fun(k:Nat)=>Dt.int (1+(k:Int))) (fun l h'=>(∃y,l=[some (.tup [.str s,.int a,.int b,.int c]),some (.tup [.str s,.int a,.int b,.int c]),y])/\h'=h) (List.range 3) (by
  rintro k hk l h' ⟨⟨y,rfl⟩,rfl⟩;have hk:=mem_range.mp hk;refine⟨.nx [some (.tup [.str s,.int a,.int b,.int c]),some (.tup [.str s,.int a,.int b,.int c]),some (.int (1+(k:Int)))] h',?_,⟨_,rfl⟩,rfl⟩;obtain⟨v,g⟩:∃v,pA (.tup [.str s,.int a,.int b,.int c]) (.int (1+(k:Int))) h'=some (.int v,h'):=by
   rcases(show k=0\/k=1\/k=2 by omega)with rfl | rfl | rfl
   · exact⟨a,rfl⟩
   · exact⟨b,rfl⟩
   · exact⟨c,rfl⟩
  simp only[pK,GA,QF,GD,xA,dB,CA,yA,uf,jf,qA,gA,Vr,Wr,iA,fA,g,Kf,R0,zA,Bool.not_true,Lf,if_false,II,decide_true,QA]) _ h ⟨⟨none,rfl⟩,rfl⟩
 exact⟨y,w⟩
theorem q9(h:HI):tV (.int 1) (.int 4,h)=some (.vals ((List.range 3).map fun(k:Nat)=>Dt.int (1+(k:Int))),h):=G5 (by decide) (by decide) (by decide) (by decide)
theorem EN (n:Nat) {s:Str} {a b c:Int} (hs:s ≠ "one") (h:HI):WE (n+1) [.tup [.str s,.int a,.int b,.int c],.tup [.str s,.int a,.int b,.int c]] h=some (.bl true,h):=by obtain⟨y,w⟩:=AX (R:=WE n) (s:=s) (a:=a) (b:=b) (c:=c) (h:=h);have i0:vC "tuple" (eV 0) [some (.tup [.str s,.int a,.int b,.int c]),some (.tup [.str s,.int a,.int b,.int c]),none] h=some (.bl true,h):=rfl;have g0:pA (.tup [.str s,.int a,.int b,.int c]) (.int 0) h=some (.str s,h):=rfl;have i1:vC "str" (e2 pA (eV 0) (eC (.int 0))) [some (.tup [.str s,.int a,.int b,.int c]),some (.tup [.str s,.int a,.int b,.int c]),none] h=some (.bl true,h):=fI (d:=.str s) (by simp only[qA,gA,nA,Vr,iA,fA,g0]) rfl;have ns:decide (s=Str.ofString "one")=false:=decide_eq_false hs;rw[JS];simp only[FH,OA,Xr,Yr,if_true,Zr (f:=some),bf (f:=some),Nat.reduceAdd,Nat.reduceSub,List.replicate,Bf,Af,vA,GA,QF,GD,xA,i0,fA,zA,Bool.not_true,Lf,if_false,qA,HC,gA,nA,Vr,Wr,iA,y3,II,decide_true,i1,g0,qV,QA,DA,fB,ns,FD,a8,q9,AE,w,HA,EA]
theorem nR{α:Type}{R:kB}{h:HI}{d0 d1:Dt}(xs:List α)(D E:α->Dt)(e0:lB h d0=some (xs.map D))(e1:lB h d1=some (xs.map E))(hl:xs.length<=1000)(H:∀x∈xs,R [D x,E x] h=some (.bl true,h)):DG R [d0,d1] h=some (.bl true,h):=by
 have i0:vC "list" (eV 0) [some d0,some d1,none] h=some (.bl true,h):=fI (T := "list") (f:=eV 0) (l:=[some d0,some d1,none]) (h:=h) (d:=d0) rfl (FT e0);have l0:=lL e0;have l1:=lL e1;rw[length_map]at l0 l1;obtain⟨l',h',w,⟨y,rfl⟩,rfl⟩:=JO (i:=2) (body:=vM R) (fun(k:Nat)=>Dt.int (k:Int)) (fun l h'=>(∃y,l=[some d0,some d1,y])/\h'=h) (List.range xs.length) (by
  rintro k hk l h' ⟨⟨y,rfl⟩,rfl⟩;have hk:=mem_range.mp hk;refine⟨.nx [some d0,some d1,some (.int (k:Nat))] h',?_,⟨_,rfl⟩,rfl⟩;have g0:pA d0 (.int (k:Nat)) h'=some (D xs[k],h'):=xL e0 (by rw[getElem?_map,getElem?_eq_getElem hk];rfl);have g1:pA d1 (.int (k:Nat)) h'=some (E xs[k],h'):=xL e1 (by rw[getElem?_map,getElem?_eq_getElem hk];rfl);have r:=H xs[k] (getElem_mem hk);simp only[vM,GA,GD,xA,dB,CA,yA,uf,jf,qA,gA,Vr,Wr,iA,fA,g0,g1,Kf,r,zA,Bool.not_true,Lf,if_false,QA]) [some d0,some d1,none] h ⟨⟨_,rfl⟩,rfl⟩
 simp only[DG,KM,OA,Xr,Yr,if_true,Zr (f:=some),bf (f:=some),Nat.reduceAdd,Nat.reduceSub,List.replicate,Bf,Af,vA,GA,QF,GD,xA,i0,fA,zA,Bool.not_true,Lf,if_false,qA,HC,gA,Vr,Wr,iA,l0,l1,II,decide_true,QA,DA,FD,RJ,GJ hl,AE,w,HA,nA,EA]
theorem QH(n:Int){k:Nat}(hk:k<=1000)(h:HI):∃M:Nat,M<998244353/\aD [.int n,.int (k:Nat)] h=some (.int (M:Nat),h):=by
 have m1:=fun(h:HI)=>yB (h:=h) (i:=n) (j:=1000000007) (by decide)
 have u1:=fun(h:HI)=>PF (h:=h) (i:=7) (j:=(k:Int)) (Or.inl ⟨by decide,by decide⟩)
 have u2:=fun(h:HI)=>PF (h:=h) (i:=n%1000000007+7*(k:Int)+1) (j:=48271) (Or.inr ⟨by decide,by decide⟩)
 have m2:=fun(h:HI)=>yB (h:=h) (i:=(n%1000000007+7*(k:Int)+1)*48271) (j:=2147483647) (by decide)
 generalize hO:(n%1000000007+7*(k:Int)+1)*48271%2147483647=O at m2;have O0:0<=O:=by rw[<- hO];exact Int.emod_nonneg _ (by decide)
 have O1:O<2147483647:=by rw[<- hO];exact Int.emod_lt_of_pos _ (by decide)
 have m3:=fun(h:HI)=>yB (h:=h) (i:=O) (j:=1009) (by decide)
 have u3:=fun(h:HI)=>PF (h:=h) (i:=O) (j:=O%1009+(k:Int)+3) (Or.inl ⟨by omega,by omega⟩)
 have m4:=fun(h:HI)=>yB (h:=h) (i:=O*(O%1009+(k:Int)+3)) (j:=998244353) (by decide)
 obtain⟨M,hM⟩:=Int.eq_ofNat_of_zero_le (Int.emod_nonneg (O*(O%1009+(k:Int)+3)) (show(998244353:Int)≠0 by decide));have M1:=Int.emod_lt_of_pos (O*(O%1009+(k:Int)+3)) (show(0:Int)<998244353 by decide);rw[hM]at m4 M1;refine⟨M,by omega,?_⟩;simp only[aD,sN,OA,Xr,Yr,if_true,Zr,bf,Nat.reduceAdd,Nat.reduceSub,List.replicate,Bf,Af,vA,qB,qA,gA,nA,Vr,Wr,iA,fA,m1,u1,pG,u2,m2,uf,jf,DA,HA,m3,u3,m4,EA]
theorem NR{α:Type}{te:RE}{i n:Nat}(D F:α->Dt)(xs:List α)(l:LI)(h:HI)(e:h[n]?=some (.lst (xs.map D)))(hx:xs.length<sizeLine)(H:∀x∈xs,te (l.set i (some (D x))) h=some (F x,h)) :
 iF (bB i) dC te l (.rf n,h)=some (xs.map F,h):=by
 have go:∀(m k:Nat)(l':LI),(∀d,l'.set i d=l.set i d)->m=xs.length-k+1->k<=xs.length->BD (bB i) dC te (.rf n) m k l' h ((xs.take k).map F)=some (xs.map F,h):=by
  intro m
  induction m with
  | zero=>intro k l' _ e;omega
  | succ m ih=>
   intro k l' hl' hm hk;unfold BD;simp only[Src.at,e,getElem?_map];by_cases hlt:k<xs.length
   · rw[getElem?_eq_getElem hlt];have hx':=H xs[k] (getElem_mem hlt);have ln:((xs.take k).map F).length<sizeLine:=by rw[length_map,length_take];omega
     simp only[vf,OD,zf,dP,if_true,hl',hx',if_pos ln];have:=ih (k+1) (l.set i (some (D xs[k]))) (fun d=>by rw[set_set]) (by omega) (by omega);rw[take_add_one,getElem?_eq_getElem hlt,map_append]at this;exact this
   · rw[getElem?_eq_none (by omega)];have:k=xs.length:=by omega
     subst this;simp only[Option.map_none,take_length]
 have hf:Src.fuel (.rf n) h=xs.length-0+1:=by simp only[Src.fuel,e,length_map];omega
 unfold iF;have:=go (xs.length-0+1) 0 l (fun _=>rfl) rfl (Nat.zero_le _);simp only[hf];exact this
theorem zJ:decide (("ways" :Str) = "one")=false:=by decide
theorem yP:decide (("long" :Str) = "one")=false:=by decide
structure Nj(h:HI)(n d k:Nat)(nums kept:List (FA×Dt)):Prop where
 ob:h[n]?=some (.ins "Book" [("numbers", .ref d),("kept", .ref k)])
 nu:h[d]?=some (.dk nums)
 ke:h[k]?=some (.dk kept)
theorem WT {x y:Dt}:uC "numbers" [("numbers",x),("kept",y)]=some x:=by rfl
theorem eI {x y:Dt}:uC "kept" [("numbers",x),("kept",y)]=some y:=by rfl
theorem VB{h:HI}{n:Nat}{o:Ob}(e:h[n]?=some o)(g:HI):(h++g)[n]?=some o:=by rw[Ef (Df e).1];exact e
theorem Nj.app{h:HI}{n d k:Nat}{nums kept:List (FA×Dt)}(B:Nj h n d k nums kept)(g:HI):Nj (h++g) n d k nums kept:=⟨VB B.ob g,VB B.nu g,VB B.ke g⟩
noncomputable def bD:Fc->Prop
 | .one ws=>ws.length<=1000
 | _=>True
noncomputable def ID(s:Str):Prop:=s.length<=1000/\∀n∈s.cps.toList,n<1000
def hD(m:Nat):Fc->Dt
 | .one _=>.tup [.str "one", .ref m]
 | f=>OB f
def hAt(h:HI)(m:Nat):Fc->Prop
 | .one ws=>h[m]?=some (.lst (ws.map AB))
 | _=>True
theorem hAt.app{h:HI}{m:Nat}{f:Fc}(a:hAt h m f)(g:HI):hAt (h++g) m f:=by
 cases f with
 | one ws=>exact VB (show h[m]?=_ from a) g
 | _=>trivial
theorem n9(xs:List Wy):(xs.flatMap fun w=>[w.a,w.b]).length=2*xs.length:=by
 induction xs with
 | nil=>rfl
 | cons x xs ih=>simp only[flatMap_cons,length_append,Xr,Yr,ih];omega
theorem HW (n:Nat) {ws:List Wy} (hl:ws.length<=1000) {h:HI} {m:Nat} (hm:h[m]?=some (.lst (ws.map AB))):∃g,XD (n+2) [.tup [.str "one", .ref m]] h=some (.ref h.length,h++.lst ((gB (.one ws)).map Dt.str)::g):=by
 obtain⟨l',h',e,y,g,rfl,rfl⟩:=aQ (i:=2) (n:=m) (body:=ZI (XD (n+1))) AB (fun k l h'=>∃y g,l=[some (.tup [.str "one", .ref m]),some (.ref h.length),y]/\h'=h++.lst (((ws.take k).flatMap fun w=>[w.a,w.b]).map Dt.str)::g) ws (by
  rintro k l h' ⟨y,g,rfl,rfl⟩;exact VB hm _) (by
  rintro k w hw l h' ⟨y,g,rfl,rfl⟩;have kl:k<ws.length:=(Df hw).1;have en:=nN n w (h++Ob.lst (((ws.take k).flatMap fun w=>[w.a,w.b]).map Dt.str)::g);generalize hx:((ws.take k).flatMap fun w=>[w.a,w.b]).map Dt.str=xs at en;have xl:xs.length=2*min k ws.length:=by rw[<- hx,length_map,n9,length_take]
  have e1:(h++Ob.lst xs::g++[Ob.lst [.str w.a,.str w.b]])[h.length]?=some (.lst xs):=by rw[append_assoc];exact rC _ _ _
  have e2:(h++Ob.lst xs::g++[Ob.lst [.str w.a,.str w.b]])[(h++Ob.lst xs::g).length]?=some (.lst [.str w.a,.str w.b]):=rC _ _ _;have ek:=jS (fa:=KA (XD (n+1)) [] (bA (eV 2) jA)) (l:=[some (.tup [.str "one", .ref m]),some (.ref h.length),some (AB w)]) (rC h (Ob.lst xs) g) (by
   simp only[dB,CA,yA,gA,Vr,Wr,iA,fA,Kf,en]) e1 e2 (by
    rw[xl];simp[sizeLine];omega)
  have sm:(h++Ob.lst xs::g++[Ob.lst [.str w.a,.str w.b]]).set h.length (.lst (xs++[.str w.a,.str w.b]))=h++.lst (((ws.take (k+1)).flatMap fun w=>[w.a,w.b]).map Dt.str)::(g++[.lst [.str w.a,.str w.b]]):=by rw[append_assoc,Bf,RK,tQ hw,flatMap_append,map_append,<- hx];rfl
  rw[sm]at ek;refine⟨.nx [some (.tup [.str "one", .ref m]),some (.ref h.length),some (AB w)] _,?_,some (AB w),g++[.lst [.str w.a,.str w.b]],rfl,rfl⟩;simp only[ZI,eG,cT,gA,uf,jf,Vr,Wr,iA,fA,ek]) [some (.tup [.str "one", .ref m]),some (.ref h.length),none] (h++[.lst []]) ⟨none,[],rfl,by simp⟩
 rw[take_length]at e;refine⟨g,?_⟩;have sk:=HG (h:=h++[.lst []]) (VB hm _);rw[zK];simp only[WF,OA,Xr,Yr,if_true,Zr,bf,Nat.reduceAdd,Nat.reduceSub,List.replicate,Bf,Af,vA,GA,xA,qA,gA,nA,Vr,Wr,iA,fA,DC,cD,mD,vf,fB,yJ,WG,zA,Lf,if_false,QA,DA,qB,FJ,yA,Nat.zero_le,uf,jf,FD,NC,sk,e,HA,EA];rfl
theorem JW (n:Nat) {ws:List Wy} (hl:ws.length<=1000) {h:HI} {m:Nat} (hm:h[m]?=some (.lst (ws.map AB))):lE (n+2) [.tup [.str "one", .ref m]] h=some (.bl (sC (.one ws)),h):=by
 have ck:=NR (te:=GH (lE (n+1))) (i:=0) AB (fun w=>Dt.bl (fC w)) ws [none] h hm (by simp[sizeLine];omega) (by
  intro w _;simp only[GH,dB,CA,yA,gA,jf,Vr,iA,fA,Kf,oN])
 have fa:=qU (h:=h) (ws.map fC);rw[map_map]at fa;have Cg:wH (.lst (ws.map fun w=>Dt.bl (fC w))) h=some (.bl (ws.all fC),h):=by rw[show(ws.map fun w=>Dt.bl (fC w))=ws.map (Dt.bl ∘ fC)from rfl,fa,all_map];rfl
 have sk:=HG hm;have lf:=zP hm;rw[length_map]at lf;rw[AK];simp only[bG,OA,Xr,Yr,if_true,Zr,bf,Nat.reduceAdd,Nat.reduceSub,List.replicate,Bf,Af,Kf,vA,GA,xA,qA,gA,nA,Vr,Wr,iA,fA,DC,cD,mD,vf,fB,yJ,WG,zA,Lf,if_false,QA,DA,HA,NP,vJ,HC,lf,UF,SM.qJ];unfold sC;by_cases a:1<=ws.length
 · by_cases b:ws.length<=6
   · have a':decide ((1:Int)<=((ws.length:Nat):Int))=true:=decide_eq_true (by omega);have b':decide (((ws.length:Nat):Int)<=6)=true:=decide_eq_true (by omega);simp only[a',b',if_true,fA,IG,HC,BF,NC,qA,gA,nA,Vr,Wr,iA,DC,mD,vf,sk,EE,BE,ck,Cg,EA,decide_eq_true a,decide_eq_true b,Bool.true_and]
   · have a':decide ((1:Int)<=((ws.length:Nat):Int))=true:=decide_eq_true (by omega);have b':decide (((ws.length:Nat):Int)<=6)=false:=decide_eq_false (by omega);simp only[a',b',if_true,fA,IG,Lf,if_false,EA,decide_eq_false b,Bool.and_false,Bool.false_and]
 · have a':decide ((1:Int)<=((ws.length:Nat):Int))=false:=decide_eq_false (by omega);simp only[a',fA,IG,Lf,if_false,EA,decide_eq_false a,Bool.false_and]
theorem qX(n:Nat){ix:Str->Nat}{kvs:List (FA×Dt)}{h:HI}{d m:Nat}(e:h[d]?=some (.dk kvs)){ws:List Wy}(hl:ws.length<=1000)(hm:h[m]?=some (.lst (ws.map AB)))(hk:∀s∈gB (.one ws),iC kvs (.inr s)=some (.int (ix s:Nat))) :
 uF (n+2) [.tup [.str "one", .ref m],.ref d] h=some (UB ix (.one ws),h):=by
 have s2:2<=sizeLine:=by decide
 have ck:=NR (te:=XM (uF (n+1))) (i:=0) AB (sG ix) ws [none,some (.ref d)] h hm (by simp[sizeLine];omega) (by
  intro w hw;have en:=lR n e (ix:=ix) (w:=w) (hk _ (mem_flatMap.mpr ⟨w,hw,by simp⟩)) (hk _ (mem_flatMap.mpr ⟨w,hw,by simp⟩));simp only[XM,dB,CA,yA,gA,jf,Vr,Wr,iA,fA,Kf,en])
 have sk:=HG hm;rw[jO];simp only[FG,UB,OA,Xr,Yr,if_true,Zr,bf,Nat.reduceAdd,Nat.reduceSub,List.replicate,Bf,Af,Kf,vA,GA,xA,qA,gA,nA,Vr,Wr,iA,fA,DC,cD,mD,vf,fB,yJ,WG,zA,Lf,if_false,QA,DA,HA,XB,CA,yA,BF,NC,sk,EE,eJ,BE,Option.join_some,ck,s2,EA]
theorem V2{f:Fc}(hs:bD f){h:HI}{m:Nat}(a:hAt h m f):∃g,XD 3 [hD m f] h=some (.ref h.length,h++.lst ((gB f).map Dt.str)::g):=by
 cases f with
 | ways w=>exact⟨[],nN 2 w h⟩
 | long x lo hi=>exact⟨[],UW 2 x lo hi h⟩
 | one ws=>exact HW 1 hs a
theorem W2{f:Fc}(hs:bD f){h:HI}{m:Nat}(a:hAt h m f):lE 3 [hD m f] h=some (.bl (sC f),h):=by
 cases f with
 | ways w=>exact oN 2 w h
 | long x lo hi=>exact IW 2 x lo hi h
 | one ws=>exact JW 1 hs a
theorem J8{f:Fc}(hs:bD f){ix:Str->Nat}{kvs:List (FA×Dt)}{h:HI}{d m:Nat}(a:hAt h m f)(e:h[d]?=some (.dk kvs))(hk:∀s∈gB f,iC kvs (.inr s)=some (.int (ix s:Nat))):uF 3 [hD m f,.ref d] h=some (UB ix f,h):=by
 cases f with
 | ways w=>exact lR 2 e (hk _ (by simp[gB])) (hk _ (by simp[gB]))
 | long x lo hi=>exact pX 2 e lo hi (hk _ (by simp[gB]))
 | one ws=>exact qX 1 e hs a hk
theorem pY{α:Type}{te:RE}{tc:RT}{i n:Nat}(D F:α->Dt)(p:α->Bool)(xs:List α)(l:LI)(h:HI)(e:h[n]?=some (.lst (xs.map D)))(hx:xs.length<sizeLine)(H:∀x∈xs,tc (l.set i (some (D x))) h=some (p x,h)/\(p x=true->te (l.set i (some (D x))) h=some (F x,h))) :
 iF (bB i) tc te l (.rf n,h)=some ((xs.filter p).map F,h):=by
 have go:∀(m k:Nat)(l':LI),(∀d,l'.set i d=l.set i d)->m=xs.length-k+1->k<=xs.length->BD (bB i) tc te (.rf n) m k l' h (((xs.take k).filter p).map F)=some ((xs.filter p).map F,h):=by
  intro m
  induction m with
  | zero=>intro k l' _ e;omega
  | succ m ih=>
   intro k l' hl' hm hk;unfold BD;simp only[Src.at,e,getElem?_map];by_cases hlt:k<xs.length
   · rw[getElem?_eq_getElem hlt];have hx':=H xs[k] (getElem_mem hlt);have ln:(((xs.take k).filter p).map F).length<sizeLine:=by rw[length_map];exact Nat.lt_of_le_of_lt (Nat.le_trans (length_filter_le _ _) (by rw[length_take];omega)) hx
     have nx:=ih (k+1) (l.set i (some (D xs[k]))) (fun d=>by rw[set_set]) (by omega) (by omega);rw[take_add_one,getElem?_eq_getElem hlt,filter_append,map_append]at nx;by_cases hp:p xs[k]=true
     · simp only[vf,OD,zf,hl',hx'.1,hp,if_true,hx'.2 hp,if_pos ln];simpa[hp]using nx
     · have hp:p xs[k]=false:=by simpa using hp
       simp only[vf,OD,zf,hl',hx'.1,hp,Lf,if_false];simpa[hp]using nx
   · rw[getElem?_eq_none (by omega)];have:k=xs.length:=by omega
     subst this;simp only[Option.map_none,take_length]
 have hf:Src.fuel (.rf n) h=xs.length-0+1:=by simp only[Src.fuel,e,length_map];omega
 unfold iF;have:=go (xs.length-0+1) 0 l (fun _=>rfl) rfl (Nat.zero_le _);simp only[hf];exact this
theorem dL(l:LI)(h:HI):gH l h=some (.ref h.length,h++[.dk []]):=by rfl
theorem pS(p:FA×Dt)(kvs:List (FA×Dt))(k:FA):iC (p::kvs) k=if p.1=k then some p.2 else iC kvs k:=by
 by_cases c:p.1=k
 · simp[iC,find?_cons,c]
 · simp[iC,find?_cons,c]
theorem Uq{k:FA}:∀{kvs:List (FA×Dt)},iC kvs k=none↔k∉kvs.map (·.1)
 | []=>by simp[iC]
 | p::kvs=>by
  have ih:=Uq (k:=k) (kvs:=kvs);rw[pS];by_cases c:p.1=k
  · simp[c]
  · have c':¬k=p.1:=fun z=>c z.symm
    rw[if_neg c,ih,Zr,mem_cons];simp[c']
theorem WO{kvs:List (FA×Dt)}{k:FA}(d:Dt)(e:iC kvs k=none):wG kvs k d=kvs++[(k,d)]:=by have e:=Uq.mp e;unfold wG;rw[if_neg];intro h;obtain⟨p,hp,q⟩:=any_eq_true.mp h;exact e (mem_map.mpr ⟨p,hp,of_decide_eq_true q⟩)
noncomputable def HB:Nat->List Str->List (FA×Dt)
 | _,[]=>[]
 | k,s::ss=>(.inr s,.int (k:Nat))::HB (k+1) ss
theorem tO:∀(k:Nat)(nm:List Str),(HB k nm).map (·.1)=nm.map Sum.inr
 | _,[]=>rfl
 | k,s::ss=>by simp only[HB,Zr,tO (k+1) ss]
theorem n0(k:Nat)(nm:List Str):(HB k nm).length=nm.length:=by have:=congrArg List.length (tO k nm);simpa using this
theorem bS:∀(k:Nat)(nm:List Str)(s:Str),HB k (nm++[s])=HB k nm++[(.inr s,.int ((k+nm.length:Nat):Int))]
 | _,[],_=>rfl
 | k,x::nm,s=>by simp only[Bf,HB,bS (k+1) nm s,Xr];rw[show k+1+nm.length=k+(nm.length+1) by omega]
theorem AO{k:Nat}{nm:List Str}{s:Str}(e:s∉nm):iC (HB k nm) (.inr s)=none:=by
 rw[Uq,tO];intro m;obtain⟨x,hx,q⟩:=mem_map.mp m;injection q with q
 exact e (q ▸ hx)
noncomputable def uq(nm:List Str)(s:Str):Nat:=nm.idxOf s
theorem vP{s:Str}:∀(k:Nat){nm:List Str},s∈nm->iC (HB k nm) (.inr s)=some (.int ((k+uq nm s:Nat):Int))
 | k,[],m=>by cases m
 | k,x::nm,m=>by
  unfold uq;rw[HB,pS,idxOf_cons];by_cases e:x=s
  · subst e;simp
  · have m':s∈nm:=by
     rcases mem_cons.mp m with z | z
     · exact absurd z.symm e
     · exact z
    have ih:=vP (k+1) m';unfold uq at ih;have e1:¬(Sum.inr x:FA)=.inr s:=fun z=>e (by injection z)
    have e2:(x==s)=false:=by simpa using e
    rw[if_neg e1,ih,e2];simp only[cond_false];rw[show k+1+nm.idxOf s=k+(nm.idxOf s+1) by omega]
theorem Jz{nm:List Str}{s:Str}:(iC (HB 0 nm) (.inr s)).isSome=true↔s∈nm:=by
 by_cases m:s∈nm
 · rw[vP 0 m];simp[m]
 · rw[AO m];simp[m]
theorem ZL(h:HI)(x y:Ob)(g:HI):(h++x::y::g)[h.length+1]?=some y:=by rw[Jf (by omega),show h.length+1-h.length=1 by omega];rfl
theorem l8(h:HI)(x y z:Ob)(g:HI):(h++x::y::g).set (h.length+1) z=h++x::z::g:=by rw[set_append_right _ _ (by omega),show h.length+1-h.length=1 by omega];rfl
theorem X6{nm:List Str}(nd:nm.Nodup){i j:Nat}(hi:i<nm.length)(hj:j<nm.length)(e:nm[i]=nm[j]):i=j:=by
 have p:=pairwise_iff_getElem.mp nd;rcases Nat.lt_trichotomy i j with c | c | c
 · exact absurd e (p i j hi hj c)
 · exact c
 · exact absurd e.symm (p j i hj hi c)
theorem CP{nm:List Str}(nd:nm.Nodup){s:Str}(m:s∈nm){fo fa:RE}{l:LI}{h:HI}(e1:fo l h=some (.lst (nm.map Dt.str),h))(e3:fa l h=some (.str s,h)):CD fo fa l h=some (.int ((uq nm s:Nat):Int),h):=by have hi:nm.idxOf s<nm.length:=idxOf_lt_length_of_mem m;show CD fo fa l h=some (.int ((nm.idxOf s:Nat):Int),h);exact J1 e1 rfl nd hi (by rw[getElem_idxOf hi];exact e3)
theorem DN(n:Nat):zE (n+1)=FB 2 2 (zG (zE n)):=rfl
theorem qR(n:Nat){nm:List Str}(nd:nm.Nodup){w:Wy}(ha:w.a∈nm)(hb:w.b∈nm)(h:HI):zE (n+1) [.lst (nm.map Dt.str),AB w] h=some (sG (uq nm) w,h):=by
 have s4:4<=sizeLine:=by decide
 have i1:∀h:HI,CD (eV 0) (e2 pA (eV 1) (eC (.int 1))) [some (.lst (nm.map Dt.str)),some (.tup [.str "ways", .str w.a,.int w.m,.str w.b])] h=some (.int ((uq nm w.a:Nat):Int),h):=fun h=>CP nd ha rfl rfl
 have i3:∀h:HI,CD (eV 0) (e2 pA (eV 1) (eC (.int 3))) [some (.lst (nm.map Dt.str)),some (.tup [.str "ways", .str w.a,.int w.m,.str w.b])] h=some (.int ((uq nm w.b:Nat):Int),h):=fun h=>CP nd hb rfl rfl
 have wl:decide (("ways" :Str) = "long")=false:=by decide
 rw[DN];simp only[zG,AB,sG,OA,Xr,Yr,if_true,Zr (f:=some),bf (f:=some),Nat.reduceAdd,Nat.reduceSub,List.replicate,Bf,Af,Kf,vA,GA,xA,qA,gA,nA,Vr,Wr,iA,fA,DC,cD,cI,vf,fB,wl,zJ,zA,Lf,if_false,QA,DA,HA,XB,CA,yA,i1,i3,s4,EA]
theorem XW(n:Nat){nm:List Str}(nd:nm.Nodup){a:Str}(ha:a∈nm)(lo hi:Int)(h:HI):zE (n+1) [.lst (nm.map Dt.str),OB (.long a lo hi)] h=some (UB (uq nm) (.long a lo hi),h):=by
 have s4:4<=sizeLine:=by decide
 have i1:∀h:HI,CD (eV 0) (e2 pA (eV 1) (eC (.int 1))) [some (.lst (nm.map Dt.str)),some (.tup [.str "long", .str a,.int lo,.int hi])] h=some (.int ((uq nm a:Nat):Int),h):=fun h=>CP nd ha rfl rfl
 rw[DN];simp only[zG,OB,UB,OA,Xr,Yr,if_true,Zr (f:=some),bf (f:=some),Nat.reduceAdd,Nat.reduceSub,List.replicate,Bf,Af,Kf,vA,GA,xA,qA,gA,nA,Vr,Wr,iA,fA,DC,cD,cI,nI,vf,fB,decide_true,zA,HA,XB,CA,yA,i1,s4,sB,EA]
theorem rX(n:Nat){nm:List Str}(nd:nm.Nodup){ws:List Wy}(hl:ws.length<=1000)(hn:∀s∈gB (.one ws),s∈nm)(h:HI):zE (n+2) [.lst (nm.map Dt.str),OB (.one ws)] h=some (UB (uq nm) (.one ws),h):=by
 have s2:2<=sizeLine:=by decide
 have ca:=fJ (te:=oK (zE (n+1))) (i:=0) (tc:=dC) AB (sG (uq nm)) h ws [none,some (.lst (nm.map Dt.str))] (by
  intro w hw;refine⟨rfl,?_⟩;have en:=qR n nd (w:=w) (hn _ (mem_flatMap.mpr ⟨w,hw,by simp⟩)) (hn _ (mem_flatMap.mpr ⟨w,hw,by simp⟩)) h;simp only[oK,dB,CA,yA,gA,jf,Vr,Wr,iA,fA,Kf,en])
 have ck:=ZF (l:=[none,some (.lst (nm.map Dt.str))]) (h:=h) (bB 0) dC (oK (zE (n+1))) (xs:=ws.map AB) (by rw[length_map];simp[sizeLine];omega);rw[ca]at ck;rw[DN];simp only[zG,OB,UB,OA,Xr,Yr,if_true,Zr (f:=some),bf (f:=some),Nat.reduceAdd,Nat.reduceSub,List.replicate,Bf,Af,Kf,vA,GA,xA,qA,gA,nA,Vr,Wr,iA,fA,DC,cD,mD,vf,fB,WG,decide_true,zA,Lf,if_false,QA,DA,HA,XB,CA,yA,BF,NC,kE,EE,eJ,BE,Option.join_some,ck,s2,sB,EA]
theorem t4{nm:List Str}(nd:nm.Nodup){f:Fc}(hs:bD f)(hn:∀s∈gB f,s∈nm)(h:HI):zE 3 [.lst (nm.map Dt.str),OB f] h=some (UB (uq nm) f,h):=by
 cases f with
 | ways w=>exact qR 2 nd (hn _ (by simp[gB])) (hn _ (by simp[gB])) h
 | long a lo hi=>exact XW 2 nd (hn _ (by simp[gB])) lo hi h
 | one ws=>exact rX 1 nd hs hn h
noncomputable def wB(nm:List Str)(xs:List Str):Option Str:=xs.find? fun s=>!decide (s∈nm)
theorem ER{nm xs:List Str}(h:wB nm xs=none):∀s∈xs,s∈nm:=fun s m=>by have:=find?_eq_none.mp h s m;simpa using this
theorem tX{h:HI}{n d k m:Nat}{nm:List Str}{kept:List (FA×Dt)}(B:Nj h n d k (HB 0 nm) kept){xs:List Str}(hm:h[m]?=some (.lst (xs.map Dt.str)))(ok:∀s∈xs,ID s)(x1:Option Dt) :
 ∃y,vE (bB 2) SI [some (.ref n),x1,none] (.rf m,h)=some (match wB nm xs with | some s=>.rt (.thr "NoName" "word" (.inr s)) h | none=>.nx [some (.ref n),x1,y] h):=by
 have fk:=yF (x := "Book") (k := "numbers") B.ob WT;obtain⟨r,e,er⟩:=J5 (i:=2) (n:=m) (body:=SI) Dt.str (fun k l h'=>h'=h/\(∃y,l=[some (.ref n),x1,y])/\wB nm xs=wB nm (xs.drop k)) (fun dd h'=>h'=h/\∃s,wB nm xs=some s/\dd=.thr "NoName" "word" (.inr s)) xs (by
  rintro k l h' ⟨rfl,_⟩;exact hm) (by
  rintro k s hs l h' ⟨rfl,⟨y,rfl⟩,hk⟩;have ki:=cG (b:=false) (z:=s) B.nu;have sm:=mem_of_getElem? hs;obtain⟨kl,es⟩:=Df hs;rw[drop_eq_getElem_cons kl,es]at hk;by_cases q:s∈nm
  · have q2:(iC (HB 0 nm) (.inr s)).isSome=true:=Jz.mpr q;rw[q2]at ki;refine⟨.nx [some (.ref n),x1,some (.str s)] h',?_,rfl,⟨_,rfl⟩,?_⟩
    · simp only[SI,GA,xA,lG,mF,gA,uf,jf,Vr,Wr,iA,fA,fk,ki,zA,Bool.true_eq_false,beq_eq_false_iff_ne,ne_eq,not_false_eq_true,if_false,QA];rfl
    · rw[hk];unfold wB;rw[find?_cons_of_neg (by simpa using q)]
  · have q2:(iC (HB 0 nm) (.inr s)).isSome=false:=by rw[AO q];rfl
    rw[q2]at ki;obtain⟨o1,o2⟩:=ok s sm;refine⟨.rt (.thr "NoName" "word" (.inr s)) h',?_,rfl,s,?_,rfl⟩
    · have ev:=UO o1 o2;simp only[SI,GA,xA,lG,mF,gA,uf,jf,Vr,Wr,iA,fA,fk,ki,beq_self_eq_true,zA,if_true,MP,ev,vf]
    · rw[hk];unfold wB;rw[find?_cons_of_pos (by simpa using q)]) [some (.ref n),x1,none] h ⟨rfl,⟨_,rfl⟩,rfl⟩
 cases r with
 | nx l h'=>obtain⟨rfl,⟨y,rfl⟩,hk⟩:=er;rw[drop_length]at hk;refine⟨y,?_⟩;rw[hk];exact e
 | rt dd h'=>obtain⟨rfl,s,hs,rfl⟩:=er;refine⟨none,?_⟩;rw[hs];exact e
 | bk l h'=>exact er.elim
 | ct l h'=>exact er.elim
inductive DI(nm:List Str)(f:Fc):Dt->Prop
 | name {s:Str}:wB nm (gB f)=some s->DI nm f (.thr "NoName" "word" (.inr s))
 | bad:wB nm (gB f)=none->sC f=false->DI nm f (.thr "BadFact" "" (.inl 0))
 | good:wB nm (gB f)=none->sC f=true->DI nm f (UB (uq nm) f)
theorem oU{h:HI}{n d k m:Nat}{nm:List Str}{kept:List (FA×Dt)}(B:Nj h n d k (HB 0 nm) kept){f:Fc}(hs:bD f)(a:hAt h m f)(ok:∀s∈gB f,ID s) :
 ∃g dd,XE [.ref n,hD m f] h=some (dd,h++g)/\DI nm f dd:=by
 obtain⟨g,en⟩:=V2 hs a;obtain⟨h1,hh1⟩:∃h1:HI,h1=h++.lst ((gB f).map Dt.str)::g:=⟨_,rfl⟩
 rw[<- hh1]at en;have B1:Nj h1 n d k (HB 0 nm) kept:=hh1 ▸ B.app _;have a1:hAt h1 m f:=hh1 ▸ a.app _;have hm:h1[h.length]?=some (.lst ((gB f).map Dt.str)):=by rw[hh1];exact rC _ _ _
 obtain⟨y,e⟩:=tX B1 hm ok (some (hD m f));have es:=W2 hs a1;have fk:=yF (x := "Book") (k := "numbers") B1.ob WT;have sk:=HG hm;generalize hX:XE [.ref n,hD m f] h=X;simp only[XE,wN,OA,Xr,Yr,if_true,Zr,bf,Nat.reduceAdd,Nat.reduceSub,List.replicate,Bf,Af,vA,FD,NC,dB,CA,yA,gA,Vr,Wr,iA,fA,Kf,en,sk,e]at hX;cases c:wB nm (gB f)with
 | some s=>rw[c]at hX;simp only[sB,EA]at hX;exact⟨_,_,by rw[<- hX,hh1],.name c⟩
 | none=>
  rw[c]at hX;simp only[DA,vA,GA,GD,xA,dB,CA,yA,gA,Vr,Wr,iA,fA,Kf,es,zA]at hX;cases q:sC f with
  | false=>rw[q]at hX;simp only[Bool.not_false,if_true,C5,nA,fA,sB,EA]at hX;exact⟨_,_,by rw[<- hX,hh1],.bad c q⟩
  | true=>rw[q]at hX;have eb:=J8 hs (ix:=uq nm) a1 B1.nu (fun s hs'=>by rw[vP 0 (ER c s hs'),Nat.zero_add]);simp only[Bool.not_true,Lf,if_false,QA,fA,DA,HA,dB,CA,yA,gA,mF,Vr,Wr,iA,Kf,fk,eb,EA]at hX;exact⟨_,_,by rw[<- hX,hh1],.good c q⟩
def Dq(b:Nat)(h:HI)(ix:Str->Nat):Fc->Dt->Prop
 | .one ws,d=>∃m,d=.tup [.str "one", .ref m]/\b<=m/\h[m]?=some (.lst (ws.map (sG ix)))
 | f,d=>d=UB ix f
theorem Dq.app{b:Nat}{h:HI}{ix:Str->Nat}{f:Fc}{d:Dt}(a:Dq b h ix f d)(g:HI):Dq b (h++g) ix f d:=by
 cases f with
 | one ws=>obtain⟨m,e1,e2,e3⟩:=a;exact⟨m,e1,e2,VB e3 g⟩
 | ways w=>exact a
 | long x lo hi=>exact a
theorem uY(ix:Str->Nat)(f:Fc)(h:HI):∃g d,OH [UB ix f] h=some (d,h++g)/\Dq h.length (h++g) ix f d:=by
 have s2:2<=sizeLine:=by decide
 cases f with
 | ways w=>refine⟨[],UB ix (.ways w),?_,rfl⟩;simp only[OH,dJ,UB,sG,OA,Xr,Yr,if_true,Zr,bf,Nat.reduceAdd,Nat.reduceSub,List.replicate,Kf,HA,ZP,xA,qA,gA,nA,Vr,iA,fA,DC,cD,vf,fB,zJ,zA,Lf,if_false,EA]
 | long a lo hi=>refine⟨[],UB ix (.long a lo hi),?_,rfl⟩;simp only[OH,dJ,UB,OA,Xr,Yr,if_true,Zr,bf,Nat.reduceAdd,Nat.reduceSub,List.replicate,Kf,HA,ZP,xA,qA,gA,nA,Vr,iA,fA,DC,cD,vf,fB,yP,zA,Lf,if_false,EA]
 | one ws=>refine⟨[.lst (ws.map (sG ix))],.tup [.str "one", .ref h.length],?_,h.length,rfl,Hf _,rC _ _ _⟩;simp only[OH,dJ,UB,OA,Xr,Yr,if_true,Zr (f:=some),bf (f:=some),Nat.reduceAdd,Nat.reduceSub,List.replicate,Kf,HA,ZP,xA,qA,gA,nA,Vr,Wr,iA,fA,DC,cD,mD,vf,fB,decide_true,zA,XB,CA,yA,HC,VO,s2,EA]
theorem EZ{h:HI}{k:Nat}{kvs:List (FA×Dt)}(e:h[k]?=some (.dk kvs))(g:HI):pE h (h.set k (.Qx kvs)++g)=h++g:=by
 apply ext_getElem?;intro n;rw[GO];have kl:=(Df e).1;by_cases nl:n<h.length
 · rw[Ef (by rw[length_set];exact nl),Ef nl];by_cases z:n=k
   · subst z;rw[e,getElem?_set_self kl]
   · rw[getElem?_set_ne (Ne.symm z)];cases h[n]? with
     | none=>rfl
     | some o=>cases o<;>rfl
 · rw[getElem?_eq_none (by omega:h.length<=n),Jf (by rw[length_set];omega),Jf (by omega),length_set]
theorem BS{α:Type}{te:RE}{i b:Nat}{R:HI->α->Dt->Prop}(D:α->Dt)(mono:∀h g x d,R h x d->R (h++g) x d):∀(xs:List α)(l:LI)(h:HI),(∀x∈xs,∀h,∃g d,te (l.set i (some (D x))) h=some (d,h++g)/\(b<=h.length->R (h++g) x d))->b<=h.length->
 ∃g ds,dD (bB i) dC te (xs.map D) l h=some (ds,h++g)/\ds.length=xs.length/\∀p∈xs.zip ds,R (h++g) p.1 p.2
 | [],_,h,_,_=>⟨[],[],by simp[dD],rfl,fun p m=>by cases m⟩
 | x::xs,l,h,H,hb=>by
  obtain⟨g,d,hx,hr⟩:=H x (by simp) h;obtain⟨g2,ds,e2,hl,hR⟩:=BS (b:=b) (R:=R) D mono xs (l.set i (some (D x))) (h++g) (te:=te) (i:=i) (fun y hy h=>by
   rw[set_set];exact H y (by simp[hy]) h) (by rw[length_append];omega)
  refine⟨g++g2,d::ds,?_,by simp[hl],fun p m=>?_⟩
  · simp only[Zr,dD,OD,zf,dP,hx,if_true,e2];rw[append_assoc]
  · rw[<- append_assoc];rcases mem_cons.mp m with z | z
    · rw[z];exact mono _ _ _ _ (hr hb)
    · exact hR p z
noncomputable def LC:Fc->Bool
 | .one _=>true
 | _=>false
noncomputable def kF:Fc->Str
 | .ways _ => "ways"
 | .long _ _ _ => "long"
 | .one _ => "one"
theorem WH (f:Fc):decide (kF f = "one")=LC f:=by
 cases f with
 | ways w=>show decide (("ways" :Str) = "one")=false;decide
 | long a lo hi=>show decide (("long" :Str) = "one")=false;decide
 | one ws=>show decide (("one" :Str) = "one")=true;decide
theorem rT(ix:Str->Nat)(f:Fc)(h:HI):pA (UB ix f) (.int 0) h=some (.str (kF f),h):=by cases f<;>rfl
theorem jP{b:Nat}{h:HI}{ix:Str->Nat}{f:Fc}{d:Dt}(a:Dq b h ix f d)(h':HI):pA d (.int 0) h'=some (.str (kF f),h'):=by
 cases f with
 | one ws=>obtain⟨m,rfl,_,_⟩:=a;rfl
 | ways w=>rw[show d=_ from a];rfl
 | long x lo hi=>rw[show d=_ from a];rfl
theorem Dq.le{b b':Nat}{h:HI}{ix:Str->Nat}{f:Fc}{d:Dt}(a:Dq b' h ix f d)(l:b<=b'):Dq b h ix f d:=by
 cases f with
 | one ws=>obtain⟨m,e1,e2,e3⟩:=a;exact⟨m,e1,by omega,e3⟩
 | ways w=>exact a
 | long x lo hi=>exact a
theorem Dq.to{b:Nat}{h h':HI}{ix:Str->Nat}{f:Fc}{d:Dt}(a:Dq b h ix f d)(t:∀m o,b<=m->h[m]?=some o->h'[m]?=some o):Dq b h' ix f d:=by
 cases f with
 | one ws=>obtain⟨m,e1,e2,e3⟩:=a;exact⟨m,e1,e2,t m _ e2 e3⟩
 | ways w=>exact a
 | long x lo hi=>exact a
structure Tells(b:Nat)(h:HI)(ix:Str->Nat)(fs:List Fc)(ds:List Dt):Prop where
 len:ds.length=fs.length
 at_:∀p∈fs.zip ds,Dq b h ix p.1 p.2
theorem Tells.app{b:Nat}{h:HI}{ix:Str->Nat}{fs:List Fc}{ds:List Dt}(T:Tells b h ix fs ds)(g:HI):Tells b (h++g) ix fs ds:=⟨T.len,fun p m=>(T.at_ p m).app g⟩
theorem TK{α β:Type}:∀(xs:List α)(ys:List β),ys.length=xs.length->(xs.zip ys).map Prod.fst=xs/\(xs.zip ys).map Prod.snd=ys
 | [],[],_=>⟨rfl,rfl⟩
 | [],_::_,h=>by simp at h
 | _::_,[],h=>by simp at h
 | x::xs,y::ys,h=>by obtain⟨a,b⟩:=TK xs ys (by simpa using h);exact⟨by rw[zip_cons_cons,Zr,a],by rw[zip_cons_cons,Zr,b]⟩
theorem FS{h:HI}{n d k:Nat}{nums kept:List (FA×Dt)}(B:Nj h n d k nums kept){ix:Str->Nat}{fs:List Fc}(hf:kept.map (·.2)=fs.map (UB ix))(hl:fs.length<=1000) :
 ∃g ds,tF [.ref n] h=some (.ref (h++g).length,h++g++[.lst ds])/\Tells h.length (h++g) ix fs ds:=by
 have kl:=(Df B.ke).1;obtain⟨g,ds,e,l1,l2⟩:=BS (te:=qK) (i:=0) (b:=h.length) (R:=fun h' f d=>Dq h.length h' ix f d) (UB ix) (fun h g x d a=>a.app g) fs [none] (h.set k (.Qx kept)) (by
  intro f _ h';obtain⟨g,d,e,c⟩:=uY ix f h';refine⟨g,d,?_,fun hb=>c.le hb⟩;simp only[qK,dB,CA,yA,gA,jf,Vr,iA,fA,Kf,e]) (by rw[length_set];exact Hf _)
 have ck:=ZF (l:=[none]) (h:=h.set k (.Qx kept)) (bB 0) dC qK (xs:=fs.map (UB ix)) (by rw[length_map];simp[sizeLine];omega);rw[e]at ck;have kv:=OZ B.ke;rw[hf]at kv;have fk:=yF (x := "Book") (k := "kept") B.ob eI;have th:=EZ B.ke (g++[.lst ds]);rw[<- append_assoc,<- append_assoc]at th;have ln:(h.set k (.Qx kept)++g).length=(h++g).length:=by simp
 refine⟨g,ds,?_,l1,fun p m=>(l2 p m).to fun m o hm e=>?_⟩
 · simp only[tF,rN,OA,Xr,Yr,if_true,Zr (f:=some),bf (f:=some),Nat.reduceAdd,Nat.reduceSub,List.replicate,Kf,HA,u5,bT,yZ,mF,gA,Vr,iA,fA,fk,kv,EE,BE,ck,th,ln,EA]
 · rw[Jf (by rw[length_set];exact hm),length_set]at e;rw[Jf hm];exact e
theorem QO{h:HI}{n d k:Nat}{nums kept:List (FA×Dt)}(B:Nj h n d k nums kept){ls:List Str}(hf:kept.map (·.1)=ls.map Sum.inr):ND [.ref n] h=some (.ref h.length,h++[.lst (ls.map Dt.str)]):=by
 have fk:=yF (x := "Book") (k := "kept") B.ob eI;have fl:lJ (.ref k) h=some (.ref h.length,h++[.lst (ls.map Dt.str)]):=by simp only[lJ,yD,B.ke,vf];rw[show kept.map (fun p=>kD p.1)=(kept.map (·.1)).map kD by rw[map_map];rfl,hf,map_map,show ls.map (kD ∘ Sum.inr)=ls.map Dt.str from rfl]
 simp only[ND,vN,OA,Xr,Yr,if_true,Zr,bf,Nat.reduceAdd,Nat.reduceSub,List.replicate,Kf,HA,HC,mF,gA,Vr,iA,fA,fk,fl,EA]
def fH(fs:List Fc)(f:Fc):Bool:=decide (fs.length<60)&&((LC f).not || decide ((fs.filter LC).length<6))
noncomputable def oM:Dt->Dt
 | .tup [_,x]=>x
 | d=>d
theorem vY{b a:Nat}{h:HI}{ix:Str->Nat}{fs:List Fc}{ds:List Dt}(T:Tells b h ix fs ds)(ha:h[a]?=some (.lst ds))(hl:fs.length<=1000):∃gs,tK [.ref a] h=some (.lst gs,h)/\gs.length=(fs.filter LC).length:=by
 obtain⟨z1,z2⟩:=TK fs ds T.len;have ck:=pY (te:=xN) (i:=0) (tc:=yN) (n:=a) Prod.snd (fun p=>oM p.2) (fun p:Fc×Dt=>LC p.1) (fs.zip ds) [none] h (by rw[z2];exact ha) (by rw[length_zip,T.len];simp[sizeLine];omega) (by
  intro p hp;have c:=T.at_ p hp;have hd:=jP c h;refine⟨?_,fun o=>?_⟩
  · simp only[yN,xA,qA,gA,nA,jf,Vr,iA,fA,hd,fB,WH,zA]
  · obtain⟨f,d⟩:=p;cases f with
    | one ws=>obtain⟨m,hd',_,_⟩:=c;have hd':d=.tup [.str "one", .ref m]:=hd';subst hd';simp only[xN,qA,gA,nA,jf,Vr,Wr,iA,fA,DC,mD,vf,oM]
    | ways w=>cases o
    | long x lo hi=>cases o)
 have sk:=HG ha;refine⟨((fs.zip ds).filter fun p=>LC p.1).map fun p=>oM p.2,?_,?_⟩
 · simp only[tK,BN,OA,Xr,Yr,if_true,Zr (f:=some),bf (f:=some),Nat.reduceAdd,Nat.reduceSub,List.replicate,Kf,HA,BF,NC,gA,Vr,iA,fA,sk,EE,BE,ck,EA]
 · rw[length_map];have:fs.filter LC=((fs.zip ds).filter fun p=>LC p.1).map Prod.fst:=by rw[show(fun p:Fc×Dt=>LC p.1)=LC ∘ Prod.fst from rfl,<- filter_map,z1]
   rw[this,length_map]
theorem B4{b a:Nat}{h:HI}{ix:Str->Nat}{fs:List Fc}{ds:List Dt}(T:Tells b h ix fs ds)(ha:h[a]?=some (.lst ds)){f:Fc}(hr:fH fs f=true):aJ [.ref a,UB ix f] h=some (.bl true,h):=by
 unfold fH at hr;rw[Bool.and_eq_true,decide_eq_true_eq]at hr;obtain⟨a1,a2⟩:=hr;obtain⟨gs,eg,gl⟩:=vY T ha (by omega);have hh:=rT ix f h;have lf:=zP ha;rw[T.len]at lf;have d:decide ((60:Int)<=((fs.length:Nat):Int))=false:=decide_eq_false (by omega);generalize hX:aJ [.ref a,UB ix f] h=X;simp only[aJ,gO,OA,Xr,Yr,if_true,Zr,bf,Nat.reduceAdd,Nat.reduceSub,List.replicate,Kf,vA,GA,xA,qA,HC,gA,nA,Vr,Wr,iA,fA,lf,KQ,d,zA,Lf,if_false,QA,DA,HA,SJ,hh,wU,WH,NG]at hX;cases q:LC f with
 | false=>rw[q]at hX;simp only[Bool.not_false,if_true,fA,EA]at hX;exact hX.symm
 | true=>
  rw[q]at hX a2;have e2:decide (((gs.length:Nat):Int)<6)=true:=decide_eq_true (by
   simp only[Bool.not_true,Bool.false_or,decide_eq_true_eq]at a2;omega)
  simp only[Bool.not_true,Lf,if_false,qA,HC,dB,CA,yA,gA,nA,Vr,iA,fA,Kf,eg,AJ,lM,e2,EA]at hX;exact hX.symm
theorem VT {x y:Dt}:uC "let_in" [("numbers",x),("kept",y)]=none:=by rfl
theorem kS {x y:Dt}:uC "facts" [("numbers",x),("kept",y)]=none:=by rfl
theorem qO {x y:Dt}:uC "labels" [("numbers",x),("kept",y)]=none:=by rfl
theorem z3 {x y:Dt}:uC "put" [("numbers",x),("kept",y)]=none:=by rfl
theorem Z0 {x y:Dt}:uC "take" [("numbers",x),("kept",y)]=none:=by rfl
theorem BY {x y:Dt}:uC "asked" [("numbers",x),("kept",y)]=none:=by rfl
noncomputable def uP:Dt->Bool
 | .thr _ _ _=>false
 | _=>true
theorem YY(ix:Str->Nat)(f:Fc):uP (UB ix f)=true:=by cases f<;>rfl
theorem M5{i:Nat}{l:LI}{d:Dt}{h:HI}(n:uP d=true):yQ i l (d,h)=some (.nx (l.set i (some d)) h):=by
 cases d with
 | thr a b c=>cases n
 | _=>rfl
theorem W1{s:Str}{ls:List Str}:(Sum.inr s:FA)∈ls.map Sum.inr↔s∈ls:=by
 constructor
 · intro m;obtain⟨x,hx,e⟩:=mem_map.mp m;injection e with e
   exact e ▸ hx
 · intro m;exact mem_map.mpr ⟨s,m,rfl⟩
theorem jJ{kept:List (FA×Dt)}{ls:List Str}(hk:kept.map (·.1)=ls.map Sum.inr){s:Str}:iC kept (.inr s)=none↔s∉ls:=by rw[Uq,hk,W1]
theorem EX{kept:List (FA×Dt)}{ls:List Str}(hk:kept.map (·.1)=ls.map Sum.inr){s:Str}:(iC kept (.inr s)).isSome=decide (s∈ls):=by
 by_cases m:s∈ls
 · cases c:iC kept (.inr s)with
   | none=>exact absurd m ((jJ hk).mp c)
   | some v=>simp[m]
 · rw[(jJ hk).mpr m];simp[m]
inductive EL(nm ls:List Str)(yj:Str)(f:Fc):Dt->Prop
 | twice:yj∈ls->EL nm ls yj f (.thr "Twice" "word" (.inr yj))
 | name {s:Str}:yj∉ls->wB nm (gB f)=some s->EL nm ls yj f (.thr "NoName" "word" (.inr s))
 | bad:yj∉ls->wB nm (gB f)=none->sC f=false->EL nm ls yj f (.thr "BadFact" "" (.inl 0))
theorem L8{h:HI}{n d k m:Nat}{nm ls:List Str}{kept:List (FA×Dt)}(B:Nj h n d k (HB 0 nm) kept){fs:List Fc}(hk:kept.map (·.1)=ls.map Sum.inr)(hf:kept.map (·.2)=fs.map (UB (uq nm))){yj:Str}(ol:ID yj){f:Fc}(hs:bD f)(a:hAt h m f)(ok:∀s∈gB f,ID s)(hr:fH fs f=true) :
 (∃g dd,XF [.ref n,.str yj,hD m f] h=some (dd,h++g)/\EL nm ls yj f dd)\/(∃g,XF [.ref n,.str yj,hD m f] h=some (.non,(h++g).set k (.dk (kept++[(.inr yj,UB (uq nm) f)])))/\yj∉ls/\wB nm (gB f)=none/\sC f=true):=by
 have fl:fs.length<60:=by unfold fH at hr;rw[Bool.and_eq_true,decide_eq_true_eq]at hr;exact hr.1
 have lk:kept.length<=1000:=by have:=congrArg List.length hf;rw[length_map,length_map]at this;omega
 have fk:=yF (x := "Book") (k := "kept") B.ob eI;have ki:=cG (b:=true) (z:=yj) B.ke;generalize hX:XF [.ref n,.str yj,hD m f] h=X;simp only[XF,eO,OA,Xr,Yr,if_true,Zr,bf,Nat.reduceAdd,Nat.reduceSub,List.replicate,Bf,Af,vA,GA,xA,lG,mF,gA,Vr,Wr,iA,fA,fk,ki,zA]at hX;cases q:iC kept (.inr yj)with
 | some v=>
  rw[q]at hX;have ev:=UO ol.1 ol.2;simp only[Option.isSome_some,beq_self_eq_true,if_true,MP,gA,Vr,Wr,iA,fA,ev,vf,sB,EA]at hX;refine .inl ⟨[],_,by rw[<- hX,Kf],.twice ?_⟩;by_cases c:yj∈ls
  · exact c
  · rw[(jJ hk).mpr c]at q;cases q
 | none=>
  have nl:=(jJ hk).mp q;rw[q]at hX;obtain⟨g,dd,el,cs⟩:=oU B hs a ok;have me:=YE (x := "Book") (m := "let_in") (F:=XE) (ga:=bA (eV 2) jA) (l:=[some (.ref n),some (.str yj),some (hD m f),none]) B.ob VT;have e0:((none:Option Dt).isSome==true)=false:=rfl;simp only[e0,Lf,if_false,QA,fA,DA,vA,cP,ED,gA,Vr,Wr,iA,me,CA,yA,el]at hX;cases cs with
  | name c=>simp only[yQ,fA,sB,EA]at hX;exact .inl ⟨g,_,hX.symm,.name nl c⟩
  | bad c1 c2=>simp only[yQ,fA,sB,EA]at hX;exact .inl ⟨g,_,hX.symm,.bad nl c1 c2⟩
  | good c1 c2=>have B1:=B.app g;obtain⟨g2,ds,ef,T⟩:=FS B1 hf (by omega);have B2:=(B1.app g2).app [.lst ds];have Ft:=yF (x := "Book") (k := "kept") B2.ob eI;have er:=B4 (T.app [.lst ds]) (a:=(h++g++g2).length) (rC _ _ _) hr;have m2:=YE (x := "Book") (m := "facts") (F:=tF) (ga:=jA) (l:=[some (.ref n),some (.str yj),some (hD m f),some (UB (uq nm) f)]) B1.ob kS;have ks:=vO (l:=[some (.ref n),some (.str yj),some (hD m f),some (UB (uq nm) f)]) (v:=UB (uq nm) f) (z:=yj) B2.ke lk;rw[WO _ q]at ks;simp only[M5 (YY (uq nm) f),fA,uf,jf,DA,vA,GA,GD,xA,dB,CA,yA,QK,ED,gA,Vr,Wr,iA,m2,ef,Kf,er,zA,Bool.not_true,Lf,if_false,QA,bP,mF,Ft,ks,mT]at hX;refine .inr ⟨g++g2++[.lst ds],?_,nl,c1,c2⟩;rw[<- hX];simp only[append_assoc]
theorem C4{h:HI}{n d k:Nat}{nums kept:List (FA×Dt)}(B:Nj h n d k nums kept){yj:Str}{v:Dt}(e:iC kept (.inr yj)=some v):aG [.ref n,.str yj] h=some (.non,h.set k (.dk (OF kept (.inr yj)))):=by have fk:=yF (x := "Book") (k := "kept") B.ob eI;have ki:=cG (b:=false) (z:=yj) B.ke;rw[e]at ki;have kp:=rS (fy:=eV 1) (l:=[some (.ref n),some (.str yj)]) B.ke rfl e;have e0:((some v).isSome==false)=false:=rfl;simp only[aG,sK,OA,Xr,Yr,if_true,Zr,bf,Nat.reduceAdd,Nat.reduceSub,List.replicate,Kf,vA,GA,xA,lG,mF,gA,Vr,Wr,iA,fA,fk,ki,e0,zA,Lf,if_false,QA,DA,eG,CT,kp];rfl
theorem X2 {h:HI} {n d k:Nat} {nums kept:List (FA×Dt)} (B:Nj h n d k nums kept) {yj:Str} (ol:ID yj) (e:iC kept (.inr yj)=none):aG [.ref n,.str yj] h=some (.thr "NoLabel" "word" (.inr yj),h):=by have fk:=yF (x := "Book") (k := "kept") B.ob eI;have ki:=cG (b:=false) (z:=yj) B.ke;rw[e]at ki;have e0:((none:Option Dt).isSome==false)=true:=rfl;have ev:=UO ol.1 ol.2;simp only[aG,sK,OA,Xr,Yr,if_true,Zr,bf,Nat.reduceAdd,Nat.reduceSub,List.replicate,Kf,vA,GA,xA,lG,mF,gA,Vr,Wr,iA,fA,fk,ki,e0,zA,MP,ev,vf,sB,EA]
theorem U2{h:HI}{n d k:Nat}{nm:List Str}{kept:List (FA×Dt)}(B:Nj h n d k (HB 0 nm) kept){w:Wy}(ok:∀s∈gB (.ways w),ID s)(bad:¬(wB nm (gB (.ways w))=none/\sC (.ways w)=true)) :
 ∃g dd,GG [.ref n,.str w.a,.int w.m,.str w.b,.int 0] h=some (dd,h++g)/\DI nm (.ways w) dd/\uP dd=false:=by
 have s4:4<=sizeLine:=by decide
 obtain⟨g,dd,el,cs⟩:=oU (m:=0) B (f:=.ways w) trivial trivial ok;have el:XE [.ref n,.tup [.str "ways", .str w.a,.int w.m,.str w.b]] h=some (dd,h++g):=el;have me:=YE (x := "Book") (m := "let_in") (F:=XE) (ga:=bA (mB (bA (eC (.str "ways")) (bA (eV 1) (bA (eV 2) (bA (eV 3) jA))))) jA) (l:=[some (.ref n),some (.str w.a),some (.int w.m),some (.str w.b),some (.int 0),none]) B.ob VT;refine⟨g,dd,?_,cs,?_⟩
 · cases cs with
   | name c=>simp only[GG,vK,OA,Xr,Yr,if_true,Zr,bf,Nat.reduceAdd,Nat.reduceSub,List.replicate,Bf,Af,vA,cP,ED,gA,nA,XB,Vr,Wr,iA,fA,me,CA,yA,s4,el,yQ,sB,EA]
   | bad c1 c2=>simp only[GG,vK,OA,Xr,Yr,if_true,Zr,bf,Nat.reduceAdd,Nat.reduceSub,List.replicate,Bf,Af,vA,cP,ED,gA,nA,XB,Vr,Wr,iA,fA,me,CA,yA,s4,el,yQ,sB,EA]
   | good c1 c2=>exact absurd ⟨c1,c2⟩ bad
 · cases cs with
   | name c=>rfl
   | bad c1 c2=>rfl
   | good c1 c2=>exact absurd ⟨c1,c2⟩ bad
theorem AU(tab:List (Str×Bool))(g:RE)(l:LI)(h:HI):gE tab g l h=aB (g l h) fun r=>(match r.1 with | .err y _ _=>(tab.lookup y).map fun b=>(Dt.bl b,r.2) | _=>none):=by rfl
theorem iQ(p:Nat)(bs:List Bool)(e:lF (bs.map Dt.bl) (.bl true)=true)(e2:hE (bs.map Dt.bl) (.bl true)=some p)(x0:Option Dt)(h:HI):CD (eV 1) (eC (.bl true)) [x0,some (.lst (bs.map Dt.bl))] h=some (.int (p:Nat),h):=by unfold CD eV eC;simp[lB,e,e2]
theorem GR (h:HI):YD [.non] h=some (.tup [.str "good", .str ""],h):=by
 have s2:2<=sizeLine:=by decide
 have ne:CH .non .non h=some (.bl true,h):=rfl;simp only[YD,WI,OA,Xr,Yr,if_true,Zr,bf,Nat.reduceAdd,Nat.reduceSub,List.replicate,Bf,Af,vA,GA,xA,qA,gA,nA,Vr,Wr,iA,fA,ne,zA,HA,XB,CA,yA,s2,sB,EA]
theorem lO{x w:Str}{t1 t2 t3:Bool}(z:Str)(h:HI)(h1:Hq.lookup x=some t1)(h2:gq.lookup x=some t2)(h3:Bq.lookup x=some t3)(h4:Zj.lookup x=some false)(h5:jq.lookup x=some false)(h6:aq.lookup x=some false)(h7:Pj.lookup x=some true)
 (hc:([t1,t2,t3,false,false,false].countP (· ==true))=1) {p:Nat} (hi:∀(x0:Option Dt) (h:HI),CD (eV 1) (eC (.bl true)) [x0,some (.lst ([t1,t2,t3,false,false,false].map Dt.bl))] h=some (.int (p:Nat),h)) (hw:Rq [Dt.str "twice", .str "label", .str "name"] (p:Int)=some (.str w)) (hx:x∈(["Twice", "NoLabel", "NoName"]:List Str)) :
 YD [.err x "word" (.inr z)] h=some (.tup [.str w,.str z],h):=by
 have s3:3<=sizeLine:=by decide
 have s2:2<=sizeLine:=by decide
 have s6:6<=sizeLine:=by decide
 have ct:=vS (l:=[some (.err x "word" (.inr z)),some (.lst ([t1,t2,t3,false,false,false].map Dt.bl))]) (h:=h) (fb:=eC (.bl true)) (bs:=[t1,t2,t3,false,false,false]) (b:=true) rfl;rw[hc]at ct;have ne:CH (.err x "word" (.inr z)) .non h=some (.bl false,h):=rfl;have cat:BH (.lst [.bl t1,.bl t2,.bl t3]) (.lst [.bl false,.bl false,.bl false]) h=some (.lst ([t1,t2,t3,false,false,false].map Dt.bl),h):=by simp[BH,lB,s6]
 have n1:VC (.int ((1:Nat):Int)) (.int 1) h=some (.bl false,h):=by rfl
 have i3:pA (.lst ([t1,t2,t3,false,false,false].map Dt.bl)) (.int 3) h=some (.bl false,h):=rfl;have i4:pA (.lst ([t1,t2,t3,false,false,false].map Dt.bl)) (.int 4) h=some (.bl false,h):=rfl;have i5:pA (.lst ([t1,t2,t3,false,false,false].map Dt.bl)) (.int 5) h=some (.bl false,h):=rfl;have xf:∀(x1:Option Dt) (h:HI),uG ["Twice", "NoLabel", "NoName"] "word" (eV 0) [some (.err x "word" (.inr z)),x1] h=some (.str z,h):=fun x1 h=>by unfold uG eV;simp only[Vr,zf];rw[if_pos ⟨hx,trivial⟩];rfl
 have xw:pA (.lst [.str "twice", .str "label", .str "name"]) (.int (p:Int)) h=some (.str w,h):=by rw[vU,hw];rfl
 have is:=fun(x1:Option Dt)=>fI (T := "str") (f:=uG ["Twice", "NoLabel", "NoName"] "word" (eV 0)) (h:=h) (xf x1 h) rfl
 have is:∀x1:Option Dt,vC "str" (uG ["Twice", "NoLabel", "NoName"] "word" (eV 0)) [some (.err x "word" (.inr z)),x1] h=some (.bl true,h):=is
 simp only[YD,WI,OA,Xr,Yr,if_true,Zr (f:=some),bf (f:=some),Nat.reduceAdd,Nat.reduceSub,List.replicate,Bf,Af,vA,GA,xA,qA,gA,nA,Vr,Wr,iA,fA,ne,zA,Lf,if_false,QA,DA,qB,aE,CA,yA,AU,h1,h2,h3,h4,h5,h6,h7,vf,s3,uf,jf,cat,QF,GD,aT,ct,n1,Bool.not_true,i3,i4,i5,is,HA,XB,hi,xw,xf,s2,EA]
theorem iY (z:Str) (h:HI):YD [.err "Twice" "word" (.inr z)] h=some (.tup [.str "twice", .str z],h):=
 lO z h (t1:=true) (t2:=false) (t3:=false) (by decide +kernel) (by decide +kernel) (by decide +kernel) (by decide +kernel) (by decide +kernel) (by decide +kernel) (by decide +kernel) rfl (fun x0 h=>iQ 0 _ (by decide +kernel) (by rfl) _ h) rfl (by simp)
theorem gY (z:Str) (h:HI):YD [.err "NoLabel" "word" (.inr z)] h=some (.tup [.str "label", .str z],h):=
 lO z h (t1:=false) (t2:=true) (t3:=false) (by decide +kernel) (by decide +kernel) (by decide +kernel) (by decide +kernel) (by decide +kernel) (by decide +kernel) (by decide +kernel) rfl (fun x0 h=>iQ 1 _ (by decide +kernel) (by rfl) _ h) rfl (by simp)
theorem FR (z:Str) (h:HI):YD [.err "NoName" "word" (.inr z)] h=some (.tup [.str "name", .str z],h):=
 lO z h (t1:=false) (t2:=false) (t3:=true) (by decide +kernel) (by decide +kernel) (by decide +kernel) (by decide +kernel) (by decide +kernel) (by decide +kernel) (by decide +kernel) rfl (fun x0 h=>iQ 2 _ (by decide +kernel) (by rfl) _ h) rfl (by simp)
theorem LS (fl:Str) (i:Sum Int Str) (h:HI):YD [.err "BadFact" fl i] h=some (.tup [.str "bad", .str ""],h):=by
 have s3:3<=sizeLine:=by decide
 have s2:2<=sizeLine:=by decide
 have s6:6<=sizeLine:=by decide
 have ct:=vS (l:=[some (.err "BadFact" fl i),some (.lst ([false,false,false,true,false,false].map Dt.bl))]) (h:=h) (fb:=eC (.bl true)) (bs:=[false,false,false,true,false,false]) (b:=true) rfl;have ct:cK (eC (.bl true)) [some (.err "BadFact" fl i),some (.lst ([false,false,false,true,false,false].map Dt.bl))] (.lst ([false,false,false,true,false,false].map Dt.bl),h)=some (.int ((1:Nat):Int),h):=ct;have ne:CH (.err "BadFact" fl i) .non h=some (.bl false,h):=rfl;have cat:BH (.lst [.bl false,.bl false,.bl false]) (.lst [.bl true,.bl false,.bl false]) h=some (.lst ([false,false,false,true,false,false].map Dt.bl),h):=by simp[BH,lB,s6]
 have n1:VC (.int ((1:Nat):Int)) (.int 1) h=some (.bl false,h):=by rfl
 have i3:pA (.lst ([false,false,false,true,false,false].map Dt.bl)) (.int 3) h=some (.bl true,h):=rfl;have i4:pA (.lst ([false,false,false,true,false,false].map Dt.bl)) (.int 4) h=some (.bl false,h):=rfl;have i5:pA (.lst ([false,false,false,true,false,false].map Dt.bl)) (.int 5) h=some (.bl false,h):=rfl;have h1:Hq.lookup ("BadFact" :Str)=some false:=by decide +kernel
 have h2:gq.lookup ("BadFact" :Str)=some false:=by decide +kernel
 have h3:Bq.lookup ("BadFact" :Str)=some false:=by decide +kernel
 have h4:Zj.lookup ("BadFact" :Str)=some true:=by decide +kernel
 have h5:jq.lookup ("BadFact" :Str)=some false:=by decide +kernel
 have h6:aq.lookup ("BadFact" :Str)=some false:=by decide +kernel
 have h7:Pj.lookup ("BadFact" :Str)=some true:=by decide +kernel
 simp only[YD,WI,OA,Xr,Yr,if_true,Zr (f:=some),bf (f:=some),Nat.reduceAdd,Nat.reduceSub,List.replicate,Bf,Af,vA,GA,xA,qA,gA,nA,Vr,Wr,iA,fA,ne,zA,Lf,if_false,QA,DA,qB,aE,CA,yA,AU,h1,h2,h3,h4,h5,h6,h7,vf,s3,uf,jf,cat,QF,GD,aT,ct,n1,Bool.not_true,i3,i4,i5,HA,XB,s2,sB,EA]
theorem DP:(("Twice" :Str)∈NL)/\(("NoName" :Str)∈NL)/\(("BadFact" :Str)∈NL)/\(("NoLabel" :Str)∈NL):=by decide +kernel
theorem Q0 {h:HI} {n d k:Nat} {nums kept:List (FA×Dt)} (B:Nj h n d k nums kept) {yj:Str} (ol:ID yj):HH [.ref n,.str yj] h=some (match iC kept (.inr yj)with | some _=>(.tup [.str "good", .str ""],h.set k (.dk (OF kept (.inr yj)))) | none=>(.tup [.str "label", .str yj],h)):=by
 have me:=YE (x := "Book") (m := "take") (F:=aG) (ga:=bA (eV 1) jA) (l:=[some (.ref n),some (.str yj),some .non,none]) B.ob Z0;cases c:iC kept (.inr yj)with
 | some v=>have e:=C4 B c;simp only[HH,wK,OA,Xr,Yr,if_true,Zr,bf,Nat.reduceAdd,Nat.reduceSub,List.replicate,Bf,Af,vA,qB,nA,fA,uf,jf,DA,fG,ED,gA,Vr,Wr,iA,me,CA,yA,e,sF,HA,dB,Kf,GR,EA]
 | none=>have e:=X2 B ol c;simp only[HH,wK,OA,Xr,Yr,if_true,Zr,bf,Nat.reduceAdd,Nat.reduceSub,List.replicate,Bf,Af,vA,qB,nA,fA,uf,jf,DA,fG,ED,gA,Vr,Wr,iA,me,CA,yA,e,sF,if_pos DP.2.2.2,HA,dB,Kf,gY,EA]
def NB(nm:List Str)(Yt:Bool)(yj:Str)(f:Fc):Str×Str:=
 if Yt then("twice",yj)else match wB nm (gB f)with
  | some s=>("name",s)
  | none=>if sC f then("good", "")else("bad", "")
noncomputable def pD(p:Str×Str):Dt:=.tup [.str p.1,.str p.2]
theorem v4{h:HI}{n d k m:Nat}{nm ls:List Str}{kept:List (FA×Dt)}(B:Nj h n d k (HB 0 nm) kept){fs:List Fc}(hk:kept.map (·.1)=ls.map Sum.inr)(hf:kept.map (·.2)=fs.map (UB (uq nm))){yj:Str}(ol:ID yj){f:Fc}(hs:bD f)(a:hAt h m f)(ok:∀s∈gB f,ID s)(hr:fH fs f=true) :
 ∃g,YF [.ref n,.str yj,hD m f] h=some (pD (NB nm (decide (yj∈ls)) yj f),if(NB nm (decide (yj∈ls)) yj f).1 = "good" then(h++g).set k (.dk (kept++[(.inr yj,UB (uq nm) f)]))else h++g):=by
 have me:=YE (x := "Book") (m := "put") (F:=XF) (ga:=bA (eV 1) (bA (eV 2) jA)) (l:=[some (.ref n),some (.str yj),some (hD m f),some .non,none]) B.ob z3;obtain⟨i1,i2,i3,_⟩:=DP;have n1:¬(("twice" :Str) = "good"):=by decide
 have n2:¬(("name" :Str) = "good"):=by decide
 have n3:¬(("bad" :Str) = "good"):=by decide
 rcases L8 B hk hf ol hs a ok hr with⟨g,dd,e,P⟩ | ⟨g,e,c1,c2,c3⟩
 · refine⟨g,?_⟩;cases P with
   | twice c=>
    have du:NB nm (decide (yj∈ls)) yj f=(("twice" :Str),yj):=by unfold NB;rw[decide_eq_true c];rfl
    rw[du,if_neg n1];simp only[YF,NH,OA,Xr,Yr,if_true,Zr,bf,Nat.reduceAdd,Nat.reduceSub,List.replicate,Bf,Af,vA,qB,nA,fA,uf,jf,DA,fG,ED,gA,Vr,Wr,iA,me,CA,yA,e,sF,if_pos i1,HA,dB,Kf,iY,EA,pD]
   | @name s c q=>
    have du:NB nm (decide (yj∈ls)) yj f=(("name" :Str),s):=by unfold NB;rw[decide_eq_false c,q];rfl
    rw[du,if_neg n2];simp only[YF,NH,OA,Xr,Yr,if_true,Zr,bf,Nat.reduceAdd,Nat.reduceSub,List.replicate,Bf,Af,vA,qB,nA,fA,uf,jf,DA,fG,ED,gA,Vr,Wr,iA,me,CA,yA,e,sF,if_pos i2,HA,dB,Kf,FR,EA,pD]
   | bad c s z=>
    have du:NB nm (decide (yj∈ls)) yj f=(("bad" :Str),("" :Str)):=by unfold NB;rw[decide_eq_false c,s,z];rfl
    rw[du,if_neg n3];simp only[YF,NH,OA,Xr,Yr,if_true,Zr,bf,Nat.reduceAdd,Nat.reduceSub,List.replicate,Bf,Af,vA,qB,nA,fA,uf,jf,DA,fG,ED,gA,Vr,Wr,iA,me,CA,yA,e,sF,if_pos i3,HA,dB,Kf,LS,EA,pD]
 · refine⟨g,?_⟩;have du:NB nm (decide (yj∈ls)) yj f=(("good" :Str),("" :Str)):=by unfold NB;rw[decide_eq_false c1,c2,c3];rfl
   rw[du,if_pos rfl];simp only[YF,NH,OA,Xr,Yr,if_true,Zr,bf,Nat.reduceAdd,Nat.reduceSub,List.replicate,Bf,Af,vA,qB,nA,fA,uf,jf,DA,fG,ED,gA,Vr,Wr,iA,me,CA,yA,e,sF,HA,dB,Kf,GR,EA,pD]
theorem uX {h:HI} {n d k:Nat} {nm:List Str} {kept:List (FA×Dt)} (B:Nj h n d k (HB 0 nm) kept) {w:Wy} (ok:∀s∈gB (.ways w),ID s) {yj:Str} (bad:¬(NB nm false yj (.ways w)).1 = "good") :
 ∃g,EH [.ref n,AB w] h=some (pD (NB nm false yj (.ways w)),h++g):=by
 have bd:¬(wB nm (gB (.ways w))=none/\sC (.ways w)=true):=fun z=>bad (by unfold NB;rw[z.1,z.2];rfl)
 obtain⟨g,dd,e,L,nt⟩:=U2 B ok bd;have me:=YE (x := "Book") (m := "asked") (F:=GG) (ga:=bA (e2 pA (eV 1) (eC (.int 1))) (bA (e2 pA (eV 1) (eC (.int 2))) (bA (e2 pA (eV 1) (eC (.int 3))) (bA (eC (.int 0)) jA)))) (l:=[some (.ref n),some (AB w),some .non,none]) B.ob BY;obtain⟨i1,i2,i3,_⟩:=DP;have x1:pA (AB w) (.int 1) h=some (.str w.a,h):=rfl;have x2:pA (AB w) (.int 2) h=some (.int w.m,h):=rfl;have x3:pA (AB w) (.int 3) h=some (.str w.b,h):=rfl;refine⟨g,?_⟩;cases L with
 | @name s c=>
  have du:NB nm false yj (.ways w)=(("name" :Str),s):=by unfold NB;rw[c];rfl
  rw[du];simp only[EH,rK,OA,Xr,Yr,if_true,Zr,bf,Nat.reduceAdd,Nat.reduceSub,List.replicate,Bf,Af,vA,qB,nA,fA,uf,jf,DA,fG,ED,qA,gA,Vr,Wr,iA,me,CA,yA,x1,x2,x3,e,sF,if_pos i2,HA,dB,Kf,FR,EA,pD]
 | bad c1 c2=>
  have du:NB nm false yj (.ways w)=(("bad" :Str),("" :Str)):=by unfold NB;rw[c1,c2];rfl
  rw[du];simp only[EH,rK,OA,Xr,Yr,if_true,Zr,bf,Nat.reduceAdd,Nat.reduceSub,List.replicate,Bf,Af,vA,qB,nA,fA,uf,jf,DA,fG,ED,qA,gA,Vr,Wr,iA,me,CA,yA,x1,x2,x3,e,sF,if_pos i3,HA,dB,Kf,LS,EA,pD]
 | good c1 c2=>exact absurd ⟨c1,c2⟩ bd
theorem PU{e:Nat}(he:e<=1000)(h:HI):fD (.int 10) (.int (e:Nat)) h=some (.int (10^e),h):=by rw[L7 ⟨by omega,by omega,by decide⟩];rfl
theorem K8{j:Nat}(hj:j<26):∃yj,ID yj/\∀h,wF [.int 7,.int (j:Nat)] h=some (.str yj,h):=by
 refine⟨⟨#[97+(j+0)%26]⟩,⟨by show 1<=1000;decide,fun n m=>?_⟩,fun h=>?_⟩
 · have m:n ∈ [97+(j+0)%26]:=m;rw[mem_singleton]at m;omega
 have m0:=fun(h:HI)=>yB (h:=h) (i:=7) (j:=1000003) (by decide)
 have d5:=fun(h:HI)=>SD (h:=h) (i:=7%1000003) (j:=5) ⟨by decide,by decide⟩
 have m4:=fun(h:HI)=>yB (h:=h) (i:=7%1000003/5) (j:=4) (by decide)
 have k26:decide ((j:Int)<26)=true:=decide_eq_true (by omega);have qt:decide ((7:Int)%1000003/5%4=1)=true:=by decide
 have Ag:=fun(h:HI)=>SD (h:=h) (i:=7%1000003) (j:=20) ⟨by decide,by decide⟩
 have Jw:=fun(h:HI)=>yB (h:=h) (i:=(j:Int)+7%1000003/20) (j:=26) (by decide)
 have ce:((j:Int)+7%1000003/20)%26=(((j+0)%26:Nat):Int):=by omega
 rw[ce]at Jw;have ab:=sJ (i:=(j+0)%26) (Nat.mod_lt _ (by decide)) h;simp only[wF,UI,OA,Xr,Yr,if_true,Zr,bf,Nat.reduceAdd,Nat.reduceSub,List.replicate,Bf,Af,vA,qB,qA,gA,nA,Vr,Wr,iA,fA,uf,jf,DA,m0,GA,JF,xA,d5,m4,jE,qt,zA,lM,k26,HA,Ag,pG,Jw,ab,sB,EA]
theorem z4{N:Nat}(hN:N<998244353)(h:HI):∃m:Int,VI [.int (N:Nat)] h=some (.int m,h):=by
 have s4:4<=sizeLine:=by decide
 have m9:=fun(h:HI)=>yB (h:=h) (i:=(N:Int)) (j:=9) (by decide)
 have Rw:=PU (e:=50) (by decide) h;have Rw:fD (.int 10) (.int 50) h=some (.int (10^50),h):=Rw;generalize (10:Int)^50=T at Rw;have d9:=fun(h:HI)=>SD (h:=h) (i:=(N:Int)) (j:=9) ⟨by decide,by decide⟩
 have u1:=fun(h:HI)=>PF (h:=h) (i:=(N:Int)) (j:=T) (Or.inl ⟨by omega,by omega⟩)
 have u2:=fun(h:HI)=>PF (h:=h) (i:=(N:Int)/9) (j:=T) (Or.inl ⟨by omega,by omega⟩)
 have m8:=fun(h:HI)=>yB (h:=h) (i:=(N:Int)/9) (j:=8192) (by decide)
 have d3:=fun(h:HI)=>SD (h:=h) (i:=(N:Int)) (j:=3) ⟨by decide,by decide⟩
 have m4:=fun(h:HI)=>yB (h:=h) (i:=(N:Int)/3) (j:=4) (by decide)
 rw[show(N:Int)/3%4=((N/3%4:Nat):Int)from rfl]at m4;generalize hX:VI [.int (N:Nat)] h=X;simp only[VI,RM,OA,Xr,Yr,if_true,Zr,bf,Nat.reduceAdd,Nat.reduceSub,List.replicate,Kf,vA,GA,xA,qA,gA,nA,Vr,iA,fA,m9,jE,zA]at hX;by_cases q1:N%9=1
 · have c:decide ((N:Int)%9=1)=true:=decide_eq_true (by omega);rw[c]at hX;simp only[if_true,HA,qA,BU,nA,gA,Vr,iA,fA,sS,Rw,u1,xU,sB,EA]at hX;exact⟨_,hX.symm⟩
 · have c:decide ((N:Int)%9=1)=false:=decide_eq_false (by omega);rw[c]at hX;simp only[Lf,if_false,QA,fA,DA,vA,GA,xA,qA,gA,nA,Vr,iA,m9,jE,zA]at hX;by_cases q2:N%9=2
   · have c:decide ((N:Int)%9=2)=true:=decide_eq_true (by omega);rw[c]at hX;simp only[if_true,HA,qA,nA,gA,Vr,iA,fA,d9,Rw,u2,pG,sB,EA]at hX;exact⟨_,hX.symm⟩
   · have c:decide ((N:Int)%9=2)=false:=decide_eq_false (by omega);rw[c]at hX;simp only[Lf,if_false,QA,fA,DA,HA,qA,aE,CA,yA,gA,nA,Vr,iA,d9,m8,Xr,Yr,Nat.reduceAdd,s4,if_true,d3,m4]at hX;rcases(show N/3%4=0\/N/3%4=1\/N/3%4=2\/N/3%4=3 by omega)with z | z | z | z<;>rw[z]at hX<;>exact⟨_,hX.symm⟩
noncomputable def gK (nm:List Str) (i:Nat):Str:=nm.getD i ""
theorem G0{nm:List Str}{i:Nat}(hi:i<nm.length):gK nm i∈nm:=by unfold gK;rw[getD_eq_getElem?_getD,getElem?_eq_getElem hi];exact getElem_mem hi
theorem tU{nm:List Str}{i:Nat}(hi:i<nm.length)(h:HI):pA (.lst (nm.map Dt.str)) (.int (i:Nat)) h=some (.str (gK nm i),h):=by rw[vU,SM.UH,getElem?_map,getElem?_eq_getElem hi];unfold gK;rw[getD_eq_getElem?_getD,getElem?_eq_getElem hi];rfl
theorem TN{nm:List Str}(okn:∀s∈nm,ID s)(h1:1<=nm.length)(N:Nat)(h:HI):∃s,ID s/\BG [.lst (nm.map Dt.str),.int (N:Nat)] h=some (.str s,h):=by
 have s3:3<=sizeLine:=by decide
 have jg:=fun(h:HI)=>yB (h:=h) (i:=(N:Int)) (j:=12) (by decide)
 have dh:=fun(h:HI)=>SD (h:=h) (i:=(N:Int)) (j:=12) ⟨by decide,by decide⟩
 generalize hX:BG [.lst (nm.map Dt.str),.int (N:Nat)] h=X;simp only[BG,UM,OA,Xr,Yr,if_true,Zr (f:=some),bf (f:=some),Nat.reduceAdd,Nat.reduceSub,List.replicate,Kf,vA,GA,xA,qA,gA,nA,Vr,Wr,iA,fA,jg,jE,zA]at hX;by_cases q:N%12=5
 · have c:decide ((N:Int)%12=5)=true:=decide_eq_true (by omega);have m3:=fun(h:HI)=>yB (h:=h) (i:=(N:Int)/12) (j:=3) (by decide)
   rw[show(N:Int)/12%3=((N/12%3:Nat):Int)from rfl]at m3;rw[c]at hX;simp only[if_true,HA,qA,aE,CA,yA,gA,nA,Vr,Wr,iA,fA,Xr,Yr,Nat.reduceAdd,s3,dh,m3]at hX;rcases(show N/12%3=0\/N/12%3=1\/N/12%3=2 by omega)with z | z | z
   · rw[z]at hX;exact⟨"strange",by unfold ID;decide,hX.symm⟩
   · rw[z]at hX;exact⟨"zzzzzzzzz",by unfold ID;decide,hX.symm⟩
   · rw[z]at hX;exact⟨"",by unfold ID;decide,hX.symm⟩
 · have c:decide ((N:Int)%12=5)=false:=decide_eq_false (by omega);have ml:=fun(h:HI)=>yB (h:=h) (i:=(N:Int)/12) (j:=(nm.length:Int)) (by omega)
   rw[show(N:Int)/12%(nm.length:Int)=((N/12%nm.length:Nat):Int)from rfl]at ml;have il:N/12%nm.length<nm.length:=Nat.mod_lt _ (by omega);have x1:=tU il h;rw[c]at hX;simp only[Lf,if_false,QA,fA,DA,HA,qA,HC,gA,nA,Vr,Wr,iA,dh,AJ,length_map,ml,x1,EA]at hX;exact⟨_,okn _ (G0 il),hX.symm⟩
theorem UN{nm:List Str}(okn:∀s∈nm,ID s)(h1:1<=nm.length)(N:Nat)(h:HI):∃w:Wy,CG [.lst (nm.map Dt.str),.int (N:Nat)] h=some (AB w,h)/\ID w.a/\ID w.b:=by
 have s4:4<=sizeLine:=by decide
 obtain⟨A,_,eA⟩:=QH (N:Int) (k:=1) (by decide) h;obtain⟨B,_,eB⟩:=QH (N:Int) (k:=2) (by decide) h;obtain⟨C,hC,Bg⟩:=QH (N:Int) (k:=3) (by decide) h;have eA:aD [.int (N:Nat),.int 1] h=some (.int (A:Nat),h):=eA;have eB:aD [.int (N:Nat),.int 2] h=some (.int (B:Nat),h):=eB;have Bg:aD [.int (N:Nat),.int 3] h=some (.int (C:Nat),h):=Bg;obtain⟨a,oa,ea⟩:=TN okn h1 A h;obtain⟨b,ob,eb⟩:=TN okn h1 B h;obtain⟨m,em⟩:=z4 hC h;refine⟨⟨a,m,b⟩,?_,oa,ob⟩;simp only[CG,VM,OA,Xr,Yr,if_true,Zr (f:=some),bf (f:=some),Nat.reduceAdd,Nat.reduceSub,List.replicate,Bf,Af,vA,qB,dB,CA,yA,gA,nA,Vr,Wr,iA,fA,Kf,eA,ea,uf,jf,DA,eB,eb,HA,XB,Bg,em,s4,EA,AB]
theorem sY{nm:List Str}(okn:∀s∈nm,ID s)(h1:1<=nm.length){N:Nat}(hN:N<998244353)(h:HI) :
 ∃f,JH [.lst (nm.map Dt.str),.int (N:Nat)] h=some (OB f,h)/\bD f/\∀s∈gB f,ID s:=by
 have m4:=fun(h:HI)=>yB (h:=h) (i:=(N:Int)) (j:=4) (by decide)
 have d4:=fun(h:HI)=>SD (h:=h) (i:=(N:Int)) (j:=4) ⟨by decide,by decide⟩
 have s4:4<=sizeLine:=by decide
 have s5:5<=sizeLine:=by decide
 have s2:2<=sizeLine:=by decide
 generalize hX:JH [.lst (nm.map Dt.str),.int (N:Nat)] h=X;simp only[JH,QM,OA,Xr,Yr,if_true,Zr (f:=some),bf (f:=some),Nat.reduceAdd,Nat.reduceSub,List.replicate,Bf,Af,vA,GA,xA,qA,gA,nA,Vr,Wr,iA,fA,m4,jE,zA]at hX;by_cases q0:N%4=0
 · have c0:decide ((N:Int)%4=0)=true:=decide_eq_true (by omega);have u1:=fun(h:HI)=>PF (h:=h) (i:=(N:Int)) (j:=48271000000019) (Or.inr ⟨by decide,by decide⟩)
   have QU:fD (.int 10) (.int 18) h=some (.int (10^18),h):=PU (e:=18) (by decide) h;have Jh:fD (.int 10) (.int 59) h=some (.int (10^59),h):=PU (e:=59) (by decide) h;have Bh:=fun(h:HI)=>yB (h:=h) (i:=(N:Int)*48271000000019) (j:=10^18) (by decide)
   generalize hT:(10:Int)^18=T at QU Bh;generalize (10:Int)^59=T2 at Jh;have m9:=fun(h:HI)=>yB (h:=h) (i:=(N:Int)/4) (j:=9) (by decide)
   have Dh:=fun(h:HI)=>yB (h:=h) (i:=(N:Int)/4) (j:=4) (by decide)
   rw[show(N:Int)/4%4=((N/4%4:Nat):Int)from rfl]at Dh;have Wh:=fun(h:HI)=>SD (h:=h) (i:=(N:Int)) (j:=16) ⟨by decide,by decide⟩
   have m5:=fun(h:HI)=>yB (h:=h) (i:=(N:Int)/16) (j:=5) (by decide)
   rw[show(N:Int)/16%5=((N/16%5:Nat):Int)from rfl]at m5;obtain⟨A,_,eA⟩:=QH (N:Int) (k:=4) (by decide) h;have eA:aD [.int (N:Nat),.int 4] h=some (.int (A:Nat),h):=eA;obtain⟨a,oa,ea⟩:=TN okn h1 A h;have xlo:∃lo:Int,pA (.lst [.int ((N:Int)/4%9),.int ((N:Int)*48271000000019%T),.int (-1),.int T2]) (.int ((N/4%4:Nat):Int)) h=some (.int lo,h):=by rcases(show N/4%4=0\/N/4%4=1\/N/4%4=2\/N/4%4=3 by omega)with z | z | z | z<;>rw[z]<;>exact⟨_,rfl⟩
   obtain⟨lo,xlo⟩:=xlo;have xhi:∃hi:Int,pA (.lst [.int lo,.int (lo+1),.int T,.int (lo-1),.int (T+1)]) (.int ((N/16%5:Nat):Int)) h=some (.int hi,h):=by rcases(show N/16%5=0\/N/16%5=1\/N/16%5=2\/N/16%5=3\/N/16%5=4 by omega)with z | z | z | z | z<;>rw[z]<;>exact⟨_,rfl⟩
   obtain⟨hi,xhi⟩:=xhi;rw[c0]at hX;simp only[if_true,vA,qB,qA,aE,CA,yA,BU,sS,gA,nA,Vr,Wr,iA,fA,d4,m9,u1,QU,Bh,Jh,Xr,Yr,Nat.reduceAdd,s4,Dh,xlo,uf,jf,DA,pG,xU,s5,Wh,m5,xhi,HA,XB,dB,Bf,Af,Kf,eA,ea,sB,EA]at hX;refine⟨.long a lo hi,hX.symm,trivial,fun s m=>?_⟩;rw[show gB (.long a lo hi)=[a]from rfl,mem_singleton]at m;rw[m];exact oa
 · have c0:decide ((N:Int)%4=0)=false:=decide_eq_false (by omega);rw[c0]at hX;simp only[Lf,if_false,QA,fA,DA,vA,GA,xA,qA,gA,nA,Vr,Wr,iA,m4,jE,zA]at hX;by_cases q1:N%4=1
   · have c1:decide ((N:Int)%4=1)=true:=decide_eq_true (by omega);obtain⟨W,hW⟩:=Classical.axiomOfChoice (fun N=>UN okn h1 N h);have m8:=fun(h:HI)=>yB (h:=h) (i:=(N:Int)/4) (j:=8) (by decide)
     have r1:=GJ (c:=N/4%8) (by omega) h;have e8:(N:Int)/4%8=((N/4%8:Nat):Int):=rfl;have ca:=fJ (te:=nK) (i:=0) (tc:=dC) (fun(k:Nat)=>Dt.int (k:Int)) (fun k=>AB (W (N+11*k*k))) h (List.range (N/4%8)) [none,some (.lst (nm.map Dt.str)),some (.int (N:Nat))] (by
      intro k hk;have hk:=mem_range.mp hk;refine⟨rfl,?_⟩;have u1:=fun(h:HI)=>PF (h:=h) (i:=11) (j:=(k:Int)) (Or.inl ⟨by decide,by decide⟩)
      have u2:=fun(h:HI)=>PF (h:=h) (i:=11*(k:Int)) (j:=(k:Int)) (Or.inl ⟨by omega,by omega⟩)
      have ew:=(hW (N+11*k*k)).1;have ec:(N:Int)+11*(k:Int)*(k:Int)=((N+11*k*k:Nat):Int):=by simp[Int.natCast_add,Int.natCast_mul]
      simp only[nK,dB,CA,yA,qA,gA,nA,jf,Vr,Wr,iA,fA,Kf,u1,u2,pG,ec,ew])
     have ck:=ZF (l:=[none,some (.lst (nm.map Dt.str)),some (.int (N:Nat))]) (h:=h) (bB 0) dC nK (xs:=(List.range (N/4%8)).map fun(k:Nat)=>Dt.int (k:Int)) (by rw[length_map,length_range];simp[sizeLine];omega);rw[ca]at ck;rw[c1]at hX;simp only[if_true,HA,XB,CA,yA,nA,BF,RJ,qA,gA,Vr,Wr,iA,fA,d4,m8,e8,r1,EE,eJ,BE,Option.join_some,ck,Xr,Yr,Nat.reduceAdd,s2,sB,EA]at hX;refine⟨.one ((List.range (N/4%8)).map fun k=>W (N+11*k*k)),?_,?_,fun s m=>?_⟩
     · rw[<- hX];simp only[OB,map_map];rfl
     · show((List.range (N/4%8)).map _).length<=1000;rw[length_map,length_range];omega
     · simp only[gB,mem_flatMap,mem_map]at m;obtain⟨w,⟨k,_,rfl⟩,m⟩:=m;obtain⟨_,b,c⟩:=hW (N+11*k*k);simp only[mem_cons,not_mem_nil,or_false]at m;rcases m with rfl | rfl
       · exact b
       · exact c
   · have c1:decide ((N:Int)%4=1)=false:=decide_eq_false (by omega);obtain⟨w,ew,ha,hb⟩:=UN okn h1 N h;rw[c1]at hX;simp only[Lf,if_false,QA,fA,DA,HA,dB,CA,yA,gA,Vr,Wr,iA,Kf,ew,EA]at hX;refine⟨.ways w,hX.symm,trivial,fun s m=>?_⟩;rw[show gB (.ways w)=[w.a,w.b]from rfl]at m;simp only[mem_cons,not_mem_nil,or_false]at m;rcases m with rfl | rfl
     · exact ha
     · exact hb
theorem Vq(nm:List Str)(s:Str)(h:HI):kM true (.str s) (.lst (nm.map Dt.str)) h=some (.bl (!decide (s∈nm)),h):=V1 s true rfl
theorem IZ(nm xs ys:List Str):wB nm (xs++ys)=match wB nm xs with | some s=>some s | none=>wB nm ys:=by unfold wB;rw[find?_append];cases List.find? (fun s=>!decide (s∈nm)) xs<;>rfl
theorem AV(nm:List Str)(a b:Str):wB nm [a,b]=if a∈nm then(if b∈nm then none else some b)else some a:=by
 unfold wB;by_cases p:a∈nm
 · rw[if_pos p,find?_cons_of_neg (by simpa using p)];by_cases q:b∈nm
   · rw[if_pos q,find?_cons_of_neg (by simpa using q)];rfl
   · rw[if_neg q,find?_cons_of_pos (by simpa using q)]
 · rw[if_neg p,find?_cons_of_pos (by simpa using p)]
theorem zV(nm:List Str)(a:Str):wB nm [a]=if a∈nm then none else some a:=by
 unfold wB;by_cases p:a∈nm
 · rw[if_pos p,find?_cons_of_neg (by simpa using p)];rfl
 · rw[if_neg p,find?_cons_of_pos (by simpa using p)]
theorem DT(nm:List Str)(w:Wy)(x1 x2:Option Dt)(h:HI):vF [some (.lst (nm.map Dt.str)),x1,x2,some (AB w)] h=some (match wB nm [w.a,w.b]with | some s=>.rt (.str s) h | none=>.nx [some (.lst (nm.map Dt.str)),x1,x2,some (AB w)] h):=by
 have i0:pA (AB w) (.int 0) h=some (.str "ways",h):=rfl;have i1:pA (AB w) (.int 1) h=some (.str w.a,h):=rfl;have i3:pA (AB w) (.int 3) h=some (.str w.b,h):=rfl;rw[AV];by_cases p:w.a∈nm
 · rw[if_pos p];by_cases q:w.b∈nm
   · rw[if_pos q];simp only[vF,vA,GA,JF,xA,qA,gA,nA,Vr,Wr,iA,fA,i0,i1,i3,Vq,decide_eq_true p,decide_eq_true q,Bool.not_true,zA,Lf,if_false,QA,DA,fB,decide_true,if_true]
   · rw[if_neg q];simp only[vF,vA,GA,JF,xA,qA,gA,nA,Vr,Wr,iA,fA,i0,i1,i3,Vq,decide_eq_true p,decide_eq_false q,Bool.not_true,Bool.not_false,zA,Lf,if_false,QA,DA,fB,decide_true,if_true,HA]
 · rw[if_neg p];simp only[vF,vA,GA,JF,xA,qA,gA,nA,Vr,Wr,iA,fA,i0,i1,i3,Vq,decide_eq_false p,Bool.not_false,zA,if_true,HA,sB]
theorem CZ(nm:List Str)(a:Str)(lo hi:Int)(x1 x2:Option Dt)(h:HI):vF [some (.lst (nm.map Dt.str)),x1,x2,some (OB (.long a lo hi))] h=some (match wB nm [a]with | some s=>.rt (.str s) h | none=>.nx [some (.lst (nm.map Dt.str)),x1,x2,some (OB (.long a lo hi))] h):=by
 have i0:pA (OB (.long a lo hi)) (.int 0) h=some (.str "long",h):=rfl;have i1:pA (OB (.long a lo hi)) (.int 1) h=some (.str a,h):=rfl;rw[zV];by_cases p:a∈nm
 · rw[if_pos p];simp only[vF,vA,GA,JF,xA,qA,gA,nA,Vr,Wr,iA,fA,i0,i1,Vq,decide_eq_true p,Bool.not_true,zA,Lf,if_false,QA,DA,fB,kL]
 · rw[if_neg p];simp only[vF,vA,GA,JF,xA,qA,gA,nA,Vr,Wr,iA,fA,i0,i1,Vq,decide_eq_false p,Bool.not_false,zA,if_true,HA,sB]
theorem jT(nm:List Str)(h:HI)(x1 x2:Option Dt):∀(ws:List Wy)(y:Option Dt),∃y',MC (bB 3) vF (ws.map AB) [some (.lst (nm.map Dt.str)),x1,x2,y] h=some (match wB nm (ws.flatMap fun w=>[w.a,w.b])with | some s=>.rt (.str s) h | none=>.nx [some (.lst (nm.map Dt.str)),x1,x2,y'] h)
 | [],y=>⟨y,rfl⟩
 | w::ws,y=>by
  obtain⟨y',ih⟩:=jT nm h x1 x2 ws (some (AB w));have b:=DT nm w x1 x2 h;rw[flatMap_cons,IZ];cases c:wB nm [w.a,w.b]with
  | some s=>rw[c]at b;exact⟨none,by simp only[Zr,MC,OD,zf,uf,jf,b,RP]⟩
  | none=>rw[c]at b;exact⟨y',by simp only[Zr,MC,OD,zf,uf,jf,b,QP,ih]⟩
noncomputable def rF:Option Str->Dt
 | some s=>.str s
 | none=>.non
theorem NX(nm:List Str)(f:Fc)(h:HI):xF [.lst (nm.map Dt.str),OB f] h=some (rF (wB nm (gB f)),h):=by
 have s1:1<=sizeLine:=by decide
 cases f with
 | ways w=>
  have b:=DT nm w (some (AB w)) (some (.lst [AB w])) h;have i0:pA (AB w) (.int 0) h=some (.str "ways",h):=rfl;rw[show OB (.ways w)=AB w from rfl,show gB (.ways w)=[w.a,w.b]from rfl];cases c:wB nm [w.a,w.b]with
  | some s=>rw[c]at b;simp only[xF,VF,OA,Xr,Yr,if_true,Zr (f:=some),bf (f:=some),Nat.reduceAdd,Nat.reduceSub,List.replicate,Bf,Af,vA,qB,aE,CA,yA,gA,qA,nA,Vr,Wr,iA,fA,s1,uf,jf,DA,GA,xA,i0,fB,zJ,zA,Lf,if_false,QA,FD,NC,kE,AE,MC,OD,zf,b,RP,sB,EA,rF]
  | none=>rw[c]at b;simp only[xF,VF,OA,Xr,Yr,if_true,Zr (f:=some),bf (f:=some),Nat.reduceAdd,Nat.reduceSub,List.replicate,Bf,Af,vA,qB,aE,CA,yA,gA,qA,nA,Vr,Wr,iA,fA,s1,uf,jf,DA,GA,xA,i0,fB,zJ,zA,Lf,if_false,QA,FD,NC,kE,AE,MC,OD,zf,b,QP,HA,EA,rF]
 | long a lo hi=>
  have b:=CZ nm a lo hi (some (OB (.long a lo hi))) (some (.lst [OB (.long a lo hi)])) h;have i0:pA (OB (.long a lo hi)) (.int 0) h=some (.str "long",h):=rfl;rw[show gB (.long a lo hi)=[a]from rfl];cases c:wB nm [a]with
  | some s=>rw[c]at b;simp only[xF,VF,OA,Xr,Yr,if_true,Zr (f:=some),bf (f:=some),Nat.reduceAdd,Nat.reduceSub,List.replicate,Bf,Af,vA,qB,aE,CA,yA,gA,qA,nA,Vr,Wr,iA,fA,s1,uf,jf,DA,GA,xA,i0,fB,yP,zA,Lf,if_false,QA,FD,NC,kE,AE,MC,OD,zf,b,RP,sB,EA,rF]
  | none=>rw[c]at b;simp only[xF,VF,OA,Xr,Yr,if_true,Zr (f:=some),bf (f:=some),Nat.reduceAdd,Nat.reduceSub,List.replicate,Bf,Af,vA,qB,aE,CA,yA,gA,qA,nA,Vr,Wr,iA,fA,s1,uf,jf,DA,GA,xA,i0,fB,yP,zA,Lf,if_false,QA,FD,NC,kE,AE,MC,OD,zf,b,QP,HA,EA,rF]
 | one ws=>
  obtain⟨y',b⟩:=jT nm h (some (OB (.one ws))) (some (.lst (ws.map AB))) ws none;have i0:pA (OB (.one ws)) (.int 0) h=some (.str "one",h):=rfl;have i1:pA (OB (.one ws)) (.int 1) h=some (.lst (ws.map AB),h):=rfl;rw[show gB (.one ws)=ws.flatMap fun w=>[w.a,w.b]from rfl];cases c:wB nm (ws.flatMap fun w=>[w.a,w.b])with
  | some s=>rw[c]at b;simp only[xF,VF,OA,Xr,Yr,if_true,Zr (f:=some),bf (f:=some),Nat.reduceAdd,Nat.reduceSub,List.replicate,Bf,Af,vA,qB,aE,CA,yA,gA,qA,nA,Vr,Wr,iA,fA,s1,uf,jf,DA,GA,xA,i0,i1,fB,decide_true,zA,FD,NC,kE,AE,b,sB,EA,rF]
  | none=>rw[c]at b;simp only[xF,VF,OA,Xr,Yr,if_true,Zr (f:=some),bf (f:=some),Nat.reduceAdd,Nat.reduceSub,List.replicate,Bf,Af,vA,qB,aE,CA,yA,gA,qA,nA,Vr,Wr,iA,fA,s1,uf,jf,DA,GA,xA,i0,i1,fB,decide_true,zA,FD,NC,kE,AE,b,HA,EA,rF]
theorem Y3{fa fb fc fd:RE}{l:LI}{h:HI}{a b c d:Int}(ea:fa l h=some (.int a,h))(eb:fb l h=some (.int b,h))(ec:fc l h=some (.int c,h))(ed:fd l h=some (.int d,h)):QG JE JE JE fa fb fc fd l h=some (.bl (decide (a<=b)&&(decide (b<=c)&&decide (c<=d))),h):=by
 unfold QG;rw[ea];simp only[zf,eb,UF];by_cases x:a<=b
 · simp only[decide_eq_true x,ec,zf,UF,Bool.true_and];by_cases y:b<=c
   · simp only[decide_eq_true y,ed,zf,UF,Bool.true_and]
   · simp only[decide_eq_false y,Bool.false_and]
 · simp only[decide_eq_false x,Bool.false_and]
theorem QU(h:HI):fD (.int 10) (.int 18) h=some (.int 1000000000000000000,h):=by have:=PU (e:=18) (by decide) h;rw[show(10:Int)^18=1000000000000000000 by decide]at this;exact this
theorem Y2:decide (("ways" :Str) = "long")=false:=by decide
theorem iO(n:Nat):VE (n+1)=FB 1 1 (EG (VE n)):=rfl
theorem tS(n:Nat)(w:Wy)(h:HI):VE (n+1) [AB w] h=some (.bl (fC w).not,h):=by
 rw[iO];have i0:pA (AB w) (.int 0) h=some (.str "ways",h):=rfl;have i1:pA (AB w) (.int 1) h=some (.str w.a,h):=rfl;have i2:pA (AB w) (.int 2) h=some (.int w.m,h):=rfl;have i3:pA (AB w) (.int 3) h=some (.str w.b,h):=rfl;simp only[EG,OA,Xr,Yr,if_true,Zr,bf,Nat.reduceAdd,Nat.reduceSub,List.replicate,Kf,vA,GA,xA,qA,gA,nA,Vr,iA,fA,i0,i1,i2,i3,fB,Y2,zJ,zA,Lf,if_false,QA,DA,HA,SJ,NG,OP,vJ,UF,SM.qJ];unfold fC;by_cases a:w.a=w.b
 · simp[a]
 · by_cases b:0<=w.m
   · simp[a,b]
   · simp[a,b]
theorem KY(n:Nat)(x:Str)(lo hi:Int)(h:HI):VE (n+1) [OB (.long x lo hi)] h=some (.bl (sC (.long x lo hi)).not,h):=by rw[iO];have i0:pA (OB (.long x lo hi)) (.int 0) h=some (.str "long",h):=rfl;have ch:=Y3 (l:=[some (OB (.long x lo hi))]) (h:=h) (fa:=eC (.int 0)) (fb:=e2 pA (eV 0) (eC (.int 2))) (fc:=e2 pA (eV 0) (eC (.int 3))) (fd:=e2 fD (eC (.int 10)) (eC (.int 18))) (a:=0) (b:=lo) (c:=hi) (d:=1000000000000000000) rfl rfl rfl (QU h);simp only[EG,OA,Xr,Yr,if_true,Zr,bf,Nat.reduceAdd,Nat.reduceSub,List.replicate,Kf,vA,GA,xA,qA,gA,nA,Vr,iA,fA,i0,fB,decide_true,zA,HA,OP,ch,LK,sB,EA];rfl
theorem ZS:∀bs:List Bool,lC (bs.map Dt.bl)=true
 | []=>rfl
 | b::bs=>by simp only[Zr,lC,LA,ZS bs,Bool.and_self]
theorem ES:∀bs:List Bool,OC (bs.map Dt.bl)<=1
 | []=>by simp[OC]
 | b::bs=>by have:=ES bs;simp only[Zr,OC,RF];omega
theorem P1(bs:List Bool)(h:HI):GI (.bl true) (.lst (bs.map Dt.bl)) h=some (.bl (bs.any id),h):=by
 have ok:lF (bs.map Dt.bl) (.bl true)=true:=by have:=ES bs;simp only[lF,ZS,LA,Bool.and_self,Bool.true_and,decide_eq_true_eq];omega
 simp only[GI,FO,zf,if_pos ok];have f:((fun x=>GB x (.bl true)) ∘ Dt.bl)=(id:Bool->Bool):=by
  funext b
  cases b<;>rfl
 rw[any_map,f]
theorem K2(n:Nat){ws:List Wy}(hl:ws.length<=1000)(h:HI):VE (n+2) [OB (.one ws)] h=some (.bl (sC (.one ws)).not,h):=by
 have ca:=fJ (te:=xK (VE (n+1))) (i:=0) (tc:=dC) AB (fun w=>Dt.bl (fC w).not) h ws [none] (by
  intro w _;refine⟨rfl,?_⟩;simp only[xK,dB,CA,yA,gA,jf,Vr,iA,fA,Kf,tS])
 have ck:=ZF (l:=[none]) (h:=h) (bB 0) dC (xK (VE (n+1))) (xs:=ws.map AB) (by rw[length_map];simp[sizeLine];omega);rw[ca]at ck;have ib:=P1 (ws.map fun w=>(fC w).not) h;rw[map_map]at ib;have ib:GI (.bl true) (.lst (ws.map fun w=>Dt.bl (fC w).not)) h=some (.bl ((ws.map fun w=>(fC w).not).any id),h):=ib;have i0:pA (OB (.one ws)) (.int 0) h=some (.str "one",h):=rfl;have i1:pA (OB (.one ws)) (.int 1) h=some (.lst (ws.map AB),h):=rfl;have al:(ws.map fun w=>(fC w).not).any id=(ws.all fC).not:=by rw[any_map,not_all_eq_any_not];rfl
 rw[iO];simp only[EG,OA,Xr,Yr,if_true,Zr (f:=some),bf (f:=some),Nat.reduceAdd,Nat.reduceSub,List.replicate,Kf,vA,GA,xA,qA,gA,nA,Vr,iA,fA,i0,fB,WG,decide_true,zA,Lf,if_false,QA,DA,HA,SJ,OP,vJ,HC,i1,AJ,length_map,UF,SM.qJ];show _=some (Dt.bl ((decide (1<=ws.length)&&decide (ws.length<=6))&&ws.all fC).not,h);by_cases a:1<=ws.length
 · have a':decide ((1:Int)<=((ws.length:Nat):Int))=true:=decide_eq_true (by omega);by_cases b:ws.length<=6
   · have b':decide (((ws.length:Nat):Int)<=6)=true:=decide_eq_true (by omega);simp only[a',b',if_true,fA,LK,Bool.not_true,NG,Lf,if_false,qA,nA,BF,NC,gA,Vr,iA,i1,kE,EE,BE,ck,ib,al,sB,EA,decide_eq_true a,decide_eq_true b,Bool.true_and]
   · have b':decide (((ws.length:Nat):Int)<=6)=false:=decide_eq_false (by omega);simp only[a',b',if_true,fA,LK,Bool.not_false,NG,sB,EA,decide_eq_false b,Bool.and_false,Bool.false_and]
 · have a':decide ((1:Int)<=((ws.length:Nat):Int))=false:=decide_eq_false (by omega);simp only[a',Lf,if_false,fA,LK,Bool.not_false,NG,if_true,sB,EA,decide_eq_false a,Bool.false_and]
theorem G8{f:Fc}(hs:bD f)(h:HI):VE 3 [OB f] h=some (.bl (sC f).not,h):=by
 cases f with
 | ways w=>exact tS 2 w h
 | long x lo hi=>exact KY 2 x lo hi h
 | one ws=>exact K2 1 hs h
theorem nU{nm ls:List Str}{h:HI}{q:Nat}{kept:List (FA×Dt)}(hq:h[q]?=some (.dk kept))(hk:kept.map (·.1)=ls.map Sum.inr)(yj:Str){f:Fc}(hs:bD f):AF [.lst (nm.map Dt.str),.ref q,.str yj,OB f] h=some (pD (NB nm (decide (yj∈ls)) yj f),h):=by
 have s2:2<=sizeLine:=by decide
 have ki:=cG (b:=true) (z:=yj) hq;rw[EX hk]at ki;have es:=NX nm f h;have eb:=G8 hs h;generalize hX:AF [.lst (nm.map Dt.str),.ref q,.str yj,OB f] h=X;simp only[AF,fO,OA,Xr,Yr,if_true,Zr (f:=some),bf (f:=some),Nat.reduceAdd,Nat.reduceSub,List.replicate,Bf,Af,vA,GA,xA,lG,gA,Vr,Wr,iA,fA,ki,zA]at hX;unfold NB;cases c:decide (yj∈ls)with
 | true=>rw[c]at hX;simp only[beq_self_eq_true,if_true,HA,XB,CA,yA,nA,gA,Vr,Wr,iA,fA,Xr,Yr,Nat.reduceAdd,s2,sB,EA]at hX;exact hX.symm
 | false=>
  rw[c]at hX;have e0:(false==true)=false:=rfl;simp only[e0,Lf,if_false,QA,fA,DA,vA,qB,dB,CA,yA,gA,Vr,Wr,iA,Kf,es,uf,jf,GA,xA,qA,nA]at hX;rw[if_neg (by simp)];cases z:wB nm (gB f)with
  | some s=>rw[z]at hX;have n1:OJ (.str s) .non h=some (.bl true,h):=rfl;simp only[rF,n1,fA,zA,if_true,HA,XB,CA,yA,nA,gA,Vr,Wr,iA,Xr,Yr,Nat.reduceAdd,s2,sB,EA]at hX;exact hX.symm
  | none=>
   rw[z]at hX;have n1:OJ .non .non h=some (.bl false,h):=rfl;simp only[rF,n1,fA,zA,Lf,if_false,QA,DA,vA,GA,xA,dB,CA,yA,gA,Vr,Wr,iA,Kf,eb]at hX;cases y:sC f with
   | true=>rw[y]at hX;simp only[Bool.not_true,Lf,if_false,QA,fA,DA,HA,XB,CA,yA,nA,Xr,Yr,Nat.reduceAdd,s2,if_true,EA]at hX;exact hX.symm
   | false=>rw[y]at hX;simp only[Bool.not_false,if_true,HA,XB,CA,yA,nA,fA,Xr,Yr,Nat.reduceAdd,s2,sB,EA]at hX;exact hX.symm
noncomputable def Fq(k q:Nat)(h h':HI):Prop:=∀m o,m≠k->m≠q->h[m]?=some o->h'[m]?=some o
theorem Fq.app(k q:Nat)(h g:HI):Fq k q h (h++g):=fun m o _ _ e=>VB e g
theorem Fq.refl(k q:Nat)(h:HI):Fq k q h h:=fun m o _ _ e=>e
theorem Fq.trans{k q:Nat}{h h' h'':HI}(a:Fq k q h h')(b:Fq k q h' h''):Fq k q h h'':=fun m o x y e=>b m o x y (a m o x y e)
theorem Fq.Xv{k q:Nat}{h h':HI}(F:Fq k q h h')(x:Ob):Fq k q h (h'.set k x):=fun m o n n2 e=>by rw[getElem?_set_ne (Ne.symm n)];exact F m o n n2 e
theorem Fq.Wz{k q:Nat}{h h':HI}(F:Fq k q h h')(x:Ob):Fq k q h (h'.set q x):=fun m o n n2 e=>by rw[getElem?_set_ne (Ne.symm n2)];exact F m o n n2 e
theorem Fq.Qg{k q m0:Nat}{h h':HI}(F:Fq k q h h')(hm:h.length<=m0)(x:Ob):Fq k q h (h'.set m0 x):=fun m o n n2 e=>by have:=(Df e).1;rw[getElem?_set_ne (by omega)];exact F m o n n2 e
def zD(nm:List Str)(ps:List (Str×Fc)):List (FA×Dt):=ps.map fun p=>(.inr p.1,UB (uq nm) p.2)
theorem vI(nm:List Str)(ps:List (Str×Fc)):(zD nm ps).map (·.1)=(ps.map (·.1)).map Sum.inr:=by simp[zD]
theorem yL(nm:List Str)(ps:List (Str×Fc)):(zD nm ps).map (·.2)=(ps.map (·.2)).map (UB (uq nm)):=by simp[zD]
theorem qS(nm:List Str)(ps:List (Str×Fc))(yj:Str):OF (zD nm ps) (.inr yj)=zD nm (ps.filter fun p=>decide (p.1≠yj)):=by
 unfold OF zD;rw[filter_map]
 congr 1
 apply filter_congr;intro p _;show decide ((Sum.inr p.1:FA)≠Sum.inr yj)=decide (p.1≠yj);apply decide_eq_decide.mpr;constructor
 · intro a b;exact a (by rw[b])
 · intro a b;exact a (by injection b)
structure J(h:HI)(n d k q:Nat)(nm:List Str)(ps:List (Str×Fc)):Prop where
 bk:Nj h n d k (HB 0 nm) (zD nm ps)
 lq:h[q]?=some (.dk (zD nm ps))
 dk:d≠k
 qk:q≠k
 qd:q≠d
 sm:∀p∈ps,bD p.2
theorem J.nk{h:HI}{n d k q:Nat}{nm:List Str}{ps:List (Str×Fc)}(j:J h n d k q nm ps):n≠k:=fun e=>by have a:=j.bk.ob;rw[e,j.bk.ke]at a;cases a
theorem J.nq{h:HI}{n d k q:Nat}{nm:List Str}{ps:List (Str×Fc)}(j:J h n d k q nm ps):n≠q:=fun e=>by have a:=j.bk.ob;rw[e,j.lq]at a;cases a
theorem J.app{h:HI}{n d k q:Nat}{nm:List Str}{ps:List (Str×Fc)}(j:J h n d k q nm ps)(g:HI):J (h++g) n d k q nm ps:=⟨j.bk.app g,VB j.lq g,j.dk,j.qk,j.qd,j.sm⟩
theorem J.put{h h':HI}{n d k q:Nat}{nm:List Str}{ps ps':List (Str×Fc)}(j:J h n d k q nm ps)(F:Fq k q h h')(ek:h'[k]?=some (.dk (zD nm ps')))(eq:h'[q]?=some (.dk (zD nm ps')))(sm:∀p∈ps',bD p.2):J h' n d k q nm ps':=
 ⟨⟨F n _ j.nk j.nq j.bk.ob,F d _ j.dk (Ne.symm j.qd) j.bk.nu,ek⟩,eq,j.dk,j.qk,j.qd,sm⟩
theorem DQ(p:Str×Str)(h:HI):XA (pD p) (pD p) h=some (.bl true,h):=by
 have c:DF [Dt.str p.1,.str p.2] [.str p.1,.str p.2]=true:=by simp[DF,lC,LA,OC,RF]
 have e:wC [Dt.str p.1,.str p.2] [.str p.1,.str p.2]=true:=by simp[wC,GB]
 unfold pD;rw[T8 c,e]
section
variable{h:HI}{n d k q:Nat}{nm:List Str}{ps:List (Str×Fc)}{yj:Str}{x1 x3:Option Dt}
def FL:RS:=lA (SA 5 (mB (bA (eC (.str "good")) (bA (eC (.str "")) jA)))) (lA (zB (Gj (uE false (eV 4) (eV 2))) (SA 5 (mB (bA (eC (.str "label")) (bA (eV 4) jA)))) NA) (lA (SA 6 (KA HH [] (bA (eV 0) (bA (eV 4) jA)))) (lA (zB (Gj (uE true (eV 4) (eV 2))) (rD (KJ (eV 2) (eV 4))) NA) (BA (e2 XA (eV 6) (eV 5))))))
theorem C8(j:J h n d k q nm ps)(ol:ID yj):∃h' ps',FL [some (.ref n),x1,some (.ref q),x3,some (.str yj),none,none,none,none,none] h=some (.rt (.bl true) h')/\J h' n d k q nm ps'/\Fq k q h h'/\ps'.length<=ps.length+1:=by
 have s2:2<=sizeLine:=by decide
 have ig:=cG (b:=false) (z:=yj) j.lq;have et:=Q0 j.bk ol;cases c:iC (zD nm ps) (.inr yj)with
 | some v=>
  rw[c]at ig et;have e0:((some v).isSome==false)=false:=rfl;have e1:((some v).isSome==true)=true:=rfl;rw[qS]at et;have Ah:(h.set k (.dk (zD nm (ps.filter fun p=>decide (p.1≠yj)))))[q]?=some (.dk (zD nm ps)):=by rw[getElem?_set_ne (Ne.symm j.qk)];exact j.lq
  have Gw:=cG (b:=true) (z:=yj) Ah;rw[c]at Gw;have kp:=rS (fy:=eV 4) (l:=[some (.ref n),x1,some (.ref q),x3,some (.str yj),some (pD ("good", "")),some (pD ("good", "")),none,none,none]) Ah rfl c;rw[qS]at kp;have ep:Dt.tup [.str "good", .str ""]=pD ("good", ""):=rfl;rw[ep]at et;refine⟨(h.set k (.dk (zD nm (ps.filter fun p=>decide (p.1≠yj))))).set q (.dk (zD nm (ps.filter fun p=>decide (p.1≠yj)))),ps.filter fun p=>decide (p.1≠yj),?_,j.put (((Fq.refl k q h).Xv _).Wz _) ?_ ?_ fun p m=>j.sm p (mem_filter.mp m).1,((Fq.refl k q h).Xv _).Wz _,Nat.le_succ_of_le (length_filter_le _ _)⟩
  · simp only[FL,vA,qB,XB,CA,yA,nA,fA,Xr,Yr,Nat.reduceAdd,s2,if_true,ep,uf,jf,DA,GA,xA,lG,gA,Vr,Wr,iA,ig,e0,zA,Lf,if_false,QA,dB,Kf,et,Gw,e1,eG,CT,kp,HA,qA,DQ]
  · rw[getElem?_set_ne j.qk,getElem?_set_self (Df j.bk.ke).1]
  · rw[getElem?_set_self (by rw[length_set];exact(Df j.lq).1)]
 | none=>rw[c]at ig et;have e0:((none:Option Dt).isSome==false)=true:=rfl;have e1:((none:Option Dt).isSome==true)=false:=rfl;have Gw:=cG (b:=true) (z:=yj) j.lq;rw[c]at Gw;have ep:Dt.tup [.str "label", .str yj]=pD ("label",yj):=rfl;rw[ep]at et;refine⟨h,ps,?_,j,Fq.refl k q h,by omega⟩;simp only[FL,vA,qB,XB,CA,yA,nA,fA,Xr,Yr,Nat.reduceAdd,s2,if_true,ep,uf,jf,DA,GA,xA,lG,gA,Vr,Wr,iA,ig,e0,zA,dB,Kf,et,Gw,e1,Lf,if_false,QA,HA,qA,DQ]
def GL:RS:=lA (SA 7 (KA CG [] (bA (eV 1) (bA (eV 3) jA)))) (lA (SA 5 (KA AF [] (bA (eV 1) (bA gH (bA (eV 4) (bA (eV 7) jA)))))) (BA (OL (e2 XA (e2 pA (eV 5) (eC (.int 0))) (eC (.str "good"))) (e2 XA (KA EH [] (bA (eV 0) (bA (eV 7) jA))) (eV 5)))))
theorem D8(okn:∀s∈nm,ID s)(h1:1<=nm.length){N:Nat}(j:J h n d k q nm ps):∃g,GL [some (.ref n),some (.lst (nm.map Dt.str)),some (.ref q),some (.int (N:Nat)),some (.str yj),none,none,none,none,none] h=some (.rt (.bl true) (h++g)):=by
 obtain⟨w,ew,oa,ob⟩:=UN okn h1 N h;have ok:∀s∈gB (.ways w),ID s:=fun s m=>by
  rw[show gB (.ways w)=[w.a,w.b]from rfl]at m;simp only[mem_cons,not_mem_nil,or_false]at m;rcases m with rfl | rfl
  · exact oa
  · exact ob
 have ed:=nU (nm:=nm) (ls:=[]) (h:=h++[.dk []]) (q:=h.length) (kept:=[]) (rC _ _ _) rfl yj (f:=.ways w) trivial;have ed:AF [.lst (nm.map Dt.str),.ref h.length,.str yj,AB w] (h++[.dk []])=some (pD (NB nm false yj (.ways w)),h++[.dk []]):=ed;have i0:pA (pD (NB nm false yj (.ways w))) (.int 0) (h++[.dk []])=some (.str (NB nm false yj (.ways w)).1,h++[.dk []]):=rfl;by_cases c:(NB nm false yj (.ways w)).1 = "good"
 · refine⟨[.dk []],?_⟩;simp only[GL,vA,qB,dB,CA,yA,gA,nA,dL,Vr,Wr,iA,fA,Kf,ew,uf,jf,DA,ed,HA,SJ,qA,i0,fB,decide_eq_true c,NG,if_true]
 · obtain⟨g,eq⟩:=uX (j.app [.dk []]).bk ok (yj:=yj) c;refine⟨.dk []::g,?_⟩;simp only[GL,vA,qB,dB,CA,yA,gA,nA,dL,Vr,Wr,iA,fA,Kf,ew,uf,jf,DA,ed,HA,SJ,qA,i0,fB,decide_eq_false c,NG,Lf,if_false,eq,DQ];rw[append_assoc];rfl
end
def NJ:RS:=lA (zB (Gj (e2 XA (e2 pA (eV 5) (eC (.int 0))) (eC (.str "good")))) (wI (KA (zE 3) [] (bA (eV 1) (bA (eV 7) jA))) (eV 2) (eV 4)) NA) (BA (e2 XA (eV 6) (eV 5)))
def FI:RS:=lA (zB (Gj (e2 XA (e2 pA (eV 7) (eC (.int 0))) (eC (.str "one")))) (rD (bE (e2 pA (eV 9) (eC (.int 1))) (mB (bA (eC (.str "ways")) (bA (e2 pA (eV 1) (eC (.int 0))) (bA (eC (.int 1)) (bA (e2 pA (eV 1) (eC (.int 0))) jA))))))) NA)  NJ
def nM:RS:=lA (SA 6 (KA YF [] (bA (eV 0) (bA (eV 4) (bA (eV 9) jA)))))  FI
def jH:RS:=lA (SA 9 (eV 7)) (lA (zB (Gj (e2 XA (e2 pA (eV 7) (eC (.int 0))) (eC (.str "one")))) (SA 9 (mB (bA (eC (.str "one")) (bA (GC YG (e2 pA (eV 7) (eC (.int 1)))) jA)))) NA)  nM)
def AL:RS:=lA (SA 7 (KA JH [] (bA (eV 1) (bA (e2 yC (eV 3) (eC (.int 3))) jA)))) (lA (SA 8 (GC YB (QD (UC (GC aF (eV 2))) (bB 0) YI XI [none]))) (lA (zB (jI (Gj (e2 XA (e2 pA (eV 7) (eC (.int 0))) (eC (.str "one")))) (Gj (e2 IQ (eV 8) (eC (.int 6))))) (BA (eC (.bl true))) NA) (lA (SA 5 (KA AF [] (bA (eV 1) (bA (eV 2) (bA (eV 4) (bA (eV 7) jA)))))) jH)))
theorem P2:AN=lA (SA 4 (KA wF [] (bA (eC (.int 7)) (bA (e2 nB (KA aD [] (bA (eV 3) (bA (eC (.int 5)) jA))) (eC (.int 12))) jA)))) (lA (zB (Gj (e2 XA (e2 nB (eV 3) (eC (.int 3))) (eC (.int 0)))) FL NA) (lA (zB (Gj (e2 XA (e2 nB (eV 3) (eC (.int 7))) (eC (.int 1)))) GL NA) AL)):=rfl
def hO:Fc->HI
 | .one ws=>[.lst (ws.map AB)]
 | _=>[]
theorem G1(h:HI)(f:Fc):hAt (h++hO f) h.length f:=by
 cases f with
 | one ws=>exact rC _ _ _
 | _=>trivial
theorem YO(f:Fc)(h:HI):pA (OB f) (.int 0) h=some (.str (kF f),h):=by cases f<;>rfl
section
variable{nm:List Str}{x0 x1 x2 x3 x4 x5 x6 x8:Option Dt}
theorem WX(f:Fc)(h:HI):jH [x0,x1,x2,x3,x4,x5,none,some (OB f),x8,none] h=nM [x0,x1,x2,x3,x4,x5,none,some (OB f),x8,some (hD h.length f)] (h++hO f):=by
 have s2:2<=sizeLine:=by decide
 have hf:=YO f h;have hd:=WH f;cases f with
 | one ws=>have i1:pA (OB (.one ws)) (.int 1) h=some (.lst (ws.map AB),h):=rfl;have hd:decide (kF (.one ws) = "one")=true:=hd;simp only[jH,vA,qB,gA,Vr,Wr,iA,fA,uf,jf,DA,GA,xA,qA,nA,hf,fB,hd,zA,if_true,XB,CA,yA,HC,i1,VO,Xr,Yr,Nat.reduceAdd,s2];rfl
 | ways w=>have hd:decide (kF (.ways w) = "one")=false:=hd;simp only[jH,vA,qB,gA,Vr,Wr,iA,fA,uf,jf,DA,GA,xA,qA,nA,hf,fB,hd,zA,Lf,if_false,QA,hO,Kf,hD]
 | long a lo hi=>have hd:decide (kF (.long a lo hi) = "one")=false:=hd;simp only[jH,vA,qB,gA,Vr,Wr,iA,fA,uf,jf,DA,GA,xA,qA,nA,hf,fB,hd,zA,Lf,if_false,QA,hO,Kf,hD]
def hA(nm:List Str)(m:Nat)(f:Fc)(h:HI):HI:=match f with
 | .one ws=>h.set m (.lst (ws.map AB++[AB ⟨gK nm 0,1,gK nm 0⟩]))
 | _=>h
theorem HY(h1:1<=nm.length){f:Fc}(sm:bD f){h:HI}{m:Nat}(a:hAt h m f):FI [x0,some (.lst (nm.map Dt.str)),x2,x3,x4,x5,x6,some (OB f),x8,some (hD m f)] h=NJ [x0,some (.lst (nm.map Dt.str)),x2,x3,x4,x5,x6,some (OB f),x8,some (hD m f)] (hA nm m f h):=by
 have s4:4<=sizeLine:=by decide
 have hf:=YO f h;have hd:=WH f;cases f with
 | one ws=>
  have hd:decide (kF (.one ws) = "one")=true:=hd;have e:h[m]?=some (.lst (ws.map AB)):=a;have sm:ws.length<=1000:=sm;have x:∀h:HI,pA (.lst (nm.map Dt.str)) (.int 0) h=some (.str (gK nm 0),h):=fun h=>tU (nm:=nm) (i:=0) (by omega) h
  have ak:=PH (g:=mB (bA (eC (.str "ways")) (bA (e2 pA (eV 1) (eC (.int 0))) (bA (eC (.int 1)) (bA (e2 pA (eV 1) (eC (.int 0))) jA))))) (l:=[x0,some (.lst (nm.map Dt.str)),x2,x3,x4,x5,x6,some (OB (.one ws)),x8,some (hD m (.one ws))]) (d:=AB ⟨gK nm 0,1,gK nm 0⟩) e (by
   simp only[XB,CA,yA,qA,gA,nA,Vr,Wr,iA,fA,x,Xr,Yr,Nat.reduceAdd,s4,if_true,AB]) e (by rw[length_map];simp[sizeLine];omega)
  have i1:pA (hD m (.one ws)) (.int 1) h=some (.ref m,h):=rfl;simp only[FI,vA,GA,xA,qA,gA,nA,Vr,Wr,iA,fA,hf,fB,hd,zA,if_true,eG,PK,i1,ak,DA,hA]
 | ways w=>have hd:decide (kF (.ways w) = "one")=false:=hd;simp only[FI,vA,GA,xA,qA,gA,nA,Vr,Wr,iA,fA,hf,fB,hd,zA,Lf,if_false,QA,DA,hA]
 | long y lo hi=>have hd:decide (kF (.long y lo hi) = "one")=false:=hd;simp only[FI,vA,GA,xA,qA,gA,nA,Vr,Wr,iA,fA,hf,fB,hd,zA,Lf,if_false,QA,DA,hA]
theorem DX (nd:nm.Nodup) {f:Fc} (sm:bD f) {h:HI} {q:Nat} {kept:List (FA×Dt)} (hq:h[q]?=some (.dk kept)) (lk:kept.length<=1000) {yj:Str} {p:Str×Str} (hg:p.1 = "good" ->iC kept (.inr yj)=none/\∀s∈gB f,s∈nm) (x9:Option Dt) :
 NJ [x0,some (.lst (nm.map Dt.str)),some (.ref q),x3,some (.str yj),some (pD p),some (pD p),some (OB f),x8,x9] h=some (.rt (.bl true) (if p.1 = "good" then h.set q (.dk (kept++[(.inr yj,UB (uq nm) f)]))else h)):=by
 have i0:pA (pD p) (.int 0) h=some (.str p.1,h):=rfl;by_cases c:p.1 = "good"
 · obtain⟨c1,c2⟩:=hg c;have en:=t4 nd sm c2 h;have ks:=vO (l:=[x0,some (.lst (nm.map Dt.str)),some (.ref q),x3,some (.str yj),some (pD p),some (pD p),some (OB f),x8,x9]) (v:=UB (uq nm) f) (z:=yj) hq lk;rw[WO _ c1]at ks;rw[if_pos c];simp only[NJ,vA,GA,xA,qA,gA,nA,Vr,Wr,iA,fA,i0,fB,decide_eq_true c,zA,if_true,bP,dB,CA,yA,Kf,en,ks,DA,HA,DQ]
 · rw[if_neg c];simp only[NJ,vA,GA,xA,qA,gA,nA,Vr,Wr,iA,fA,i0,fB,decide_eq_false c,zA,Lf,if_false,QA,DA,HA,DQ]
end
theorem tY {nm:List Str} {b:Bool} {yj:Str} {f:Fc} (h:(NB nm b yj f).1 = "good"):b=false/\wB nm (gB f)=none:=by
 unfold NB at h;cases b with
 | true=>exact absurd (show("twice" :Str) = "good" from h) (by decide)
 | false=>
  refine⟨rfl,?_⟩;rw[if_neg (by simp)]at h;cases c:wB nm (gB f)with
  | none=>rfl
  | some s=>rw[c]at h;exact absurd (show("name" :Str) = "good" from h) (by decide)
theorem E8{h:HI}{n d k q:Nat}{nm:List Str}{ps:List (Str×Fc)}{yj:Str}(nd:nm.Nodup)(okn:∀s∈nm,ID s)(h1:1<=nm.length){N:Nat}(hN:N<998244353)(j:J h n d k q nm ps)(ol:ID yj)(lp:ps.length<60) :
 ∃h' ps',AL [some (.ref n),some (.lst (nm.map Dt.str)),some (.ref q),some (.int (N:Nat)),some (.str yj),none,none,none,none,none] h=some (.rt (.bl true) h')/\J h' n d k q nm ps'/\Fq k q h h'/\ps'.length<=ps.length+1:=by
 have d3:=fun(h:HI)=>SD (h:=h) (i:=(N:Int)) (j:=3) ⟨by decide,by decide⟩
 rw[show(N:Int)/3=((N/3:Nat):Int)from rfl]at d3;obtain⟨f,ef,sm,ok⟩:=sY okn h1 (N:=N/3) (by omega) h;have lv:aF (.ref q) h=some (.lst ((ps.map (·.2)).map (UB (uq nm))),h):=by simp only[aF,yD,j.lq,vf,yL]
 have ca:=OO (te:=XI) (i:=0) (tc:=YI) (UB (uq nm)) LC (UB (uq nm)) h (ps.map (·.2)) [none] (by
  intro f _;have hf:=rT (uq nm) f h;refine⟨?_,fun _=>?_⟩
  · simp only[YI,xA,qA,gA,nA,jf,Vr,iA,fA,hf,fB,WH,zA]
  · simp only[XI,gA,jf,Vr,iA])
 have ck:=ZF (l:=[none]) (h:=h) (bB 0) YI XI (xs:=(ps.map (·.2)).map (UB (uq nm))) (by rw[length_map,length_map];simp[sizeLine];omega);rw[ca]at ck;have hf:=YO f h;have hd:=WH f;have ed:=nU (nm:=nm) j.lq (vI nm ps) yj sm;have jr:(zD nm ps).length<=1000:=by unfold zD;rw[length_map];omega
 have key:∀(y8:Option Dt),(LC f=true->((ps.map (·.2)).filter LC).length<6)->∃h' ps',jH [some (.ref n),some (.lst (nm.map Dt.str)),some (.ref q),some (.int (N:Nat)),some (.str yj),some (pD (NB nm (decide (yj∈ps.map (·.1))) yj f)),none,some (OB f),y8,none] h=some (.rt (.bl true) h')/\J h' n d k q nm ps'/\Fq k q h h'/\ps'.length<=ps.length+1:=by
  intro y8 gr;have rm:fH (ps.map (·.2)) f=true:=by
   unfold fH;rw[decide_eq_true (show(ps.map (·.2)).length<60 by rw[length_map];exact lp),Bool.true_and];cases c:LC f with
   | false=>rfl
   | true=>rw[decide_eq_true (gr c)];rfl
  have j1:=j.app (hO f);have a1:=G1 h f;have kl:=(Df j.bk.ke).1;have ql:=(Df j.lq).1;obtain⟨g,ep⟩:=v4 j1.bk (vI nm ps) (yL nm ps) ol sm a1 ok rm;generalize hp:NB nm (decide (yj∈ps.map (·.1))) yj f=p at ep;obtain⟨h2,Lx⟩:∃h2:HI,h2=(if p.1 = "good" then(h++hO f++g).set k (.dk (zD nm ps++[(.inr yj,UB (uq nm) f)]))else h++hO f++g):=⟨_,rfl⟩
  rw[<- Lx]at ep;have jh:Fq k q h h2:=by
   rw[Lx];split
   · exact((Fq.app k q h (hO f)).trans (Fq.app k q _ g)).Xv _
   · exact(Fq.app k q h (hO f)).trans (Fq.app k q _ g)
  have a2:hAt h2 h.length f:=by
   have z:=a1.app g;rw[Lx];split
   · cases f with
     | one ws=>show(List.set _ k _)[h.length]?=_;rw[getElem?_set_ne (by omega)];exact z
     | _=>trivial
   · exact z
  have q2:h2[q]?=some (.dk (zD nm ps)):=by
   have z:=VB j1.lq g;rw[Lx];split
   · rw[getElem?_set_ne (Ne.symm j.qk)];exact z
   · exact z
  have k2:h2[k]?=some (.dk (if p.1 = "good" then zD nm ps++[(.inr yj,UB (uq nm) f)]else zD nm ps)):=by
   rw[Lx];split
   · rw[getElem?_set_self (by simp only[length_append];omega)]
   · exact VB j1.bk.ke g
  obtain⟨h3,hh3⟩:∃h3:HI,h3=hA nm h.length f h2:=⟨_,rfl⟩
  have Ov:Fq k q h h3:=by
   rw[hh3];cases f with
   | one ws=>exact jh.Qg (Hf _) _
   | _=>exact jh
  have o3:∀m,m<h.length->h3[m]?=h2[m]?:=fun m hm=>by
   rw[hh3];cases f with
   | one ws=>show(List.set _ _ _)[m]?=_;rw[getElem?_set_ne (by omega)]
   | _=>rfl
  have q3:h3[q]?=some (.dk (zD nm ps)):=by rw[o3 q ql];exact q2
  have k3:=k2;rw[<- o3 k kl]at k3;have st:=HY (nm:=nm) (x0:=some (.ref n)) (x2:=some (.ref q)) (x3:=some (.int (N:Nat))) (x4:=some (.str yj)) (x5:=some (pD p)) (x6:=some (pD p)) (x8:=y8) h1 sm a2;rw[<- hh3]at st;have gd:p.1 = "good" ->iC (zD nm ps) (.inr yj)=none/\∀s∈gB f,s∈nm:=fun z=>by rw[<- hp]at z;obtain⟨z1,z2⟩:=tY z;exact⟨(jJ (vI nm ps)).mpr (of_decide_eq_false z1),ER z2⟩
  have ke:=DX (nm:=nm) (x0:=some (.ref n)) (x3:=some (.int (N:Nat))) (x8:=y8) nd sm q3 jr gd (some (hD h.length f));have run:jH [some (.ref n),some (.lst (nm.map Dt.str)),some (.ref q),some (.int (N:Nat)),some (.str yj),some (pD p),none,some (OB f),y8,none] h=some (.rt (.bl true) (if p.1 = "good" then h3.set q (.dk (zD nm ps++[(.inr yj,UB (uq nm) f)]))else h3)):=by rw[WX];simp only[nM,vA,qB,dB,CA,yA,gA,Vr,Wr,iA,fA,Kf,ep,uf,jf,DA,st,ke]
  by_cases c:p.1 = "good"
  · rw[if_pos c]at run k3;have Kg:zD nm ps++[(.inr yj,UB (uq nm) f)]=zD nm (ps++[(yj,f)]):=by unfold zD;rw[map_append];rfl
    rw[Kg]at run k3;refine⟨_,ps++[(yj,f)],run,j.put (Ov.Wz _) ?_ ?_ fun x m=>?_,Ov.Wz _,by rw[length_append];exact Hf _⟩
    · rw[getElem?_set_ne j.qk];exact k3
    · rw[getElem?_set_self (Df q3).1]
    · rcases mem_append.mp m with z | z
      · exact j.sm x z
      · rw[mem_singleton.mp z];exact sm
  · rw[if_neg c]at run k3;exact⟨_,ps,run,j.put Ov k3 q3 j.sm,Ov,by omega⟩
 generalize hX:AL [some (.ref n),some (.lst (nm.map Dt.str)),some (.ref q),some (.int (N:Nat)),some (.str yj),none,none,none,none,none] h=X;simp only[AL,vA,qB,dB,CA,yA,qA,gA,nA,Vr,Wr,iA,fA,Kf,d3,ef,uf,jf,DA,HC,BF,NC,lv,kE,EE,BE,ck,AJ,length_map,GA,JF,xA,hf,fB,hd,zA]at hX;cases c:LC f with
 | false=>rw[c]at hX;simp only[Lf,if_false,fA,QA,DA,vA,qB,dB,CA,yA,gA,Vr,Wr,iA,Kf,ed,uf,jf]at hX;rw[<- hX];exact key _ fun z=>by rw[c]at z;cases z
 | true=>
  rw[c]at hX;simp only[if_true,xA,qA,gA,nA,Vr,Wr,iA,fA,KQ,zA]at hX;by_cases z:((ps.map (·.2)).filter LC).length<6
  · have dz:decide ((6:Int)<=((((ps.map (·.2)).filter LC).length:Nat):Int))=false:=decide_eq_false (by omega);rw[dz]at hX;simp only[Lf,if_false,QA,fA,DA,vA,qB,dB,CA,yA,gA,Vr,Wr,iA,Kf,ed,uf,jf]at hX;rw[<- hX];exact key _ fun _=>z
  · have dz:decide ((6:Int)<=((((ps.map (·.2)).filter LC).length:Nat):Int))=true:=decide_eq_true (by omega);rw[dz]at hX;simp only[if_true,HA,nA,fA,sB]at hX;exact⟨h,ps,hX.symm,j,Fq.refl k q h,by omega⟩
theorem k4{h:HI}{n d k q:Nat}{nm:List Str}{ps:List (Str×Fc)}(nd:nm.Nodup)(okn:∀s∈nm,ID s)(h1:1<=nm.length){N:Nat}(hN:N<998244353)(j:J h n d k q nm ps)(lp:ps.length<60) :
 ∃h' ps',MH [.ref n,.lst (nm.map Dt.str),.ref q,.int (N:Nat)] h=some (.bl true,h')/\J h' n d k q nm ps'/\Fq k q h h'/\ps'.length<=ps.length+1:=by
 obtain⟨A,_,eA⟩:=QH (N:Int) (k:=5) (by decide) h;have eA:aD [.int (N:Nat),.int 5] h=some (.int (A:Nat),h):=eA;have jg:=fun(h:HI)=>yB (h:=h) (i:=(A:Int)) (j:=12) (by decide)
 rw[show(A:Int)%12=((A%12:Nat):Int)from rfl]at jg;obtain⟨yj,ol,el⟩:=K8 (j:=A%12) (by omega);have el:=el h;have m3:=fun(h:HI)=>yB (h:=h) (i:=(N:Int)) (j:=3) (by decide)
 have m7:=fun(h:HI)=>yB (h:=h) (i:=(N:Int)) (j:=7) (by decide)
 generalize hX:MH [.ref n,.lst (nm.map Dt.str),.ref q,.int (N:Nat)] h=X;simp only[MH,P2,OA,Xr,Yr,if_true,Zr (f:=some),bf (f:=some),Nat.reduceAdd,Nat.reduceSub,List.replicate,Bf,Af,vA,qB,dB,CA,yA,qA,gA,nA,Vr,Wr,iA,fA,Kf,eA,jg,el,uf,jf,DA,GA,xA,m3,jE,zA]at hX;by_cases c3:N%3=0
 · have z:decide ((N:Int)%3=0)=true:=decide_eq_true (by omega);obtain⟨h',ps',e,r⟩:=C8 (x1:=some (.lst (nm.map Dt.str))) (x3:=some (.int (N:Nat))) j ol;rw[z]at hX;simp only[if_true,e,fA,sB,EA]at hX;exact⟨h',ps',hX.symm,r⟩
 · have z:decide ((N:Int)%3=0)=false:=decide_eq_false (by omega);rw[z]at hX;simp only[Lf,if_false,QA,fA,DA,vA,GA,xA,qA,gA,nA,Vr,Wr,iA,m7,jE,zA]at hX;by_cases c7:N%7=1
   · have z:decide ((N:Int)%7=1)=true:=decide_eq_true (by omega);obtain⟨g,e⟩:=D8 (yj:=yj) (N:=N) okn h1 j;rw[z]at hX;simp only[if_true,e,fA,sB,EA]at hX;exact⟨_,ps,hX.symm,j.app g,Fq.app k q h g,by omega⟩
   · have z:decide ((N:Int)%7=1)=false:=decide_eq_false (by omega);obtain⟨h',ps',e,r⟩:=E8 nd okn h1 hN j ol lp;rw[z]at hX;simp only[Lf,if_false,QA,fA,DA,e,EA]at hX;exact⟨h',ps',hX.symm,r⟩
theorem o4 {nm:List Str} (hl:nm.length<=1000) (nd:nm.Nodup) {h:HI} {u:Nat} (hu:h[u]?=some (.lst (nm.map Dt.str))):QI [.ref h.length,.ref u] (h++[.ins "Book" []])=some (.non,h++[.ins "Book" [("numbers", .ref (h.length+1)),("kept", .ref (h.length+2))],.dk (HB 0 nm),.dk []]):=by
 obtain⟨l',h',e,⟨y,z,rfl⟩,rfl⟩:=N8 (i:=2) (j:=3) (n:=u) (body:=xM) Dt.str (fun k l h'=>(∃y z,l=[some (.ref h.length),some (.ref u),y,z])/\h'=h++[.ins "Book" [("numbers", .ref (h.length+1))],.dk (HB 0 (nm.take k))]) nm (by
  rintro k l h' ⟨_,rfl⟩;exact VB hu _) (by
  rintro k s hs l h' ⟨⟨y,z,rfl⟩,rfl⟩;have kl:=(Df hs).1;have ns:s∉nm.take k:=by intro m;obtain⟨a,ha,ea⟩:=mem_iff_getElem.mp m;rw[length_take]at ha;rw[getElem_take]at ea;obtain⟨_,es⟩:=Df hs;have:=X6 nd (by omega) kl (ea.trans es.symm);omega
  have fk:=yF (x := "Book") (k := "numbers") (rC h (.ins "Book" [("numbers", .ref (h.length+1))]) [.dk (HB 0 (nm.take k))]) (d:=.ref (h.length+1)) rfl;have ks:=vO (l:=[some (.ref h.length),some (.ref u),some (.int (k:Nat)),some (.str s)]) (v:=.int (k:Nat)) (z:=s) (ZL h (.ins "Book" [("numbers", .ref (h.length+1))]) (.dk (HB 0 (nm.take k))) []) (by rw[n0,length_take];omega);rw[WO _ (AO ns),l8]at ks;have nx:HB 0 (nm.take (k+1))=HB 0 (nm.take k)++[(.inr s,.int (k:Nat))]:=by rw[tQ hs,bS,length_take,Nat.zero_add,Nat.min_eq_left (Nat.le_of_lt kl)]
  refine⟨.nx [some (.ref h.length),some (.ref u),some (.int (k:Nat)),some (.str s)] _,?_,⟨some (.int (k:Nat)),some (.str s),rfl⟩,rfl⟩;rw[nx];simp only[xM,bP,mF,gA,uf,jf,Vr,Wr,iA,fA,fk,ks]) [some (.ref h.length),some (.ref u),none,none] (h++[.ins "Book" [("numbers", .ref (h.length+1))],.dk []]) ⟨⟨none,none,rfl⟩,rfl⟩
 rw[take_length]at e;have l1:(h++[Ob.ins "Book" []]).length=h.length+1:=by simp
 have s1:=BR (k := "numbers") (v:=.ref (h.length+1)) (l:=[some (.ref h.length),some (.ref u),none,none]) (rC h (.ins "Book" []) [.dk []]) (by decide);rw[RK,show QE "numbers" (Dt.ref (h.length+1)) []=[(("numbers" :Str),Dt.ref (h.length+1))]from rfl]at s1;have en:=RX (h:=h++[.ins "Book" [("numbers", .ref (h.length+1))],.dk []]) (VB hu _);have l2:(h++[Ob.ins "Book" [("numbers", .ref (h.length+1))],.dk (HB 0 nm)]).length=h.length+2:=by simp
 have s2:=BR (k := "kept") (v:=.ref (h.length+2)) (l:=[some (.ref h.length),some (.ref u),y,z]) (rC h (.ins "Book" [("numbers", .ref (h.length+1))]) [.dk (HB 0 nm),.dk []]) (by show 1<1000;decide);rw[RK,show QE "kept" (Dt.ref (h.length+2)) [(("numbers" :Str),Dt.ref (h.length+1))]=[(("numbers" :Str),Dt.ref (h.length+1)),("kept",Dt.ref (h.length+2))]from rfl]at s2;simp only[QI,jN,OA,Xr,Yr,if_true,Zr (f:=some),bf (f:=some),Nat.reduceAdd,Nat.reduceSub,List.replicate,Bf,Af,vA,L6,dL,fA,gA,Vr,Wr,iA,l1,append_assoc,s1,DA,FD,A5,en,e,l2,s2,mT]
theorem OY{b:Nat}{h:HI}{ix:Str->Nat}{f:Fc}{d:Dt}(a:Dq b h ix f d)(sm:bD f):WE 3 [d,UB ix f] h=some (.bl true,h):=by
 cases f with
 | ways w=>rw[show d=_ from a];exact EN 2 (by decide) h
 | long x lo hi=>rw[show d=_ from a];exact EN 2 (by decide) h
 | one ws=>
  obtain⟨m,rfl,_,e⟩:=a;have sm:ws.length<=1000:=sm;have r:=nR (R:=WE 2) (d0:=.ref m) (d1:=.lst (ws.map (sG ix))) (h:=h) ws (sG ix) (sG ix) (IK e) rfl sm fun w _=>EN 1 (by decide) h
  have i0:vC "tuple" (eV 0) [some (.tup [.str "one", .ref m]),some (UB ix (.one ws)),none] h=some (.bl true,h):=rfl;have g0:pA (.tup [.str "one", .ref m]) (.int 0) h=some (.str "one",h):=rfl;have g1:pA (UB ix (.one ws)) (.int 0) h=some (.str "one",h):=rfl;have g2:pA (.tup [.str "one", .ref m]) (.int 1) h=some (.ref m,h):=rfl;have g3:pA (UB ix (.one ws)) (.int 1) h=some (.lst (ws.map (sG ix)),h):=rfl;have f0:YB (.tup [.str "one", .ref m]) h=some (.int 2,h):=rfl;have f1:YB (UB ix (.one ws)) h=some (.int 2,h):=rfl;have i1:vC "str" (e2 pA (eV 0) (eC (.int 0))) [some (.tup [.str "one", .ref m]),some (UB ix (.one ws)),none] h=some (.bl true,h):=fI (d:=.str "one") (by simp only[qA,gA,nA,Vr,iA,fA,g0]) rfl;rw[JS];simp only[FH,OA,Xr,Yr,if_true,Zr (f:=some),bf (f:=some),Nat.reduceAdd,Nat.reduceSub,List.replicate,Bf,Af,Kf,vA,GA,QF,GD,xA,i0,fA,zA,Bool.not_true,Lf,if_false,qA,HC,gA,nA,Vr,Wr,iA,f0,f1,II,decide_true,i1,g0,g1,g2,g3,qV,QA,DA,fB,HA,dB,CA,yA,r,sB,EA]
theorem Dq.Er {b c:Nat} {h h':HI} {ix:Str->Nat} {f:Fc} {d:Dt} (a:Dq b h ix f d) (t:∀m o,b<=m->m<c->h[m]?=some o->h'[m]?=some o) (u:∀m,d=.tup [.str "one", .ref m]->m<c):Dq b h' ix f d:=by
 cases f with
 | one ws=>obtain⟨m,e1,e2,e3⟩:=a;exact⟨m,e1,e2,t m _ e2 (u m e1) e3⟩
 | ways w=>exact a
 | long x lo hi=>exact a
noncomputable def iI:Dt:=.tup [.str "long", .int 0,.int 1,.int 1]
theorem fY {h:HI} {lo hi b:Nat} {ix:Str->Nat} {fs:List Fc} {ds:List Dt} (sm:∀f∈fs,bD f) (len:ds.length=fs.length) (at_:∀p∈fs.zip ds,Dq lo h ix p.1 p.2/\∀m,p.2=.tup [.str "one", .ref m]->m<hi) (hl:fs.length<=1000) (hb:h[b]?=some (.lst (ds++[iI]))) (nb:b<lo\/hi<=b) (x0 x1 x2 x3 x4 x5 x6 x7 y:Option Dt) :
 ∃y' h',vE (bB 8) OG [x0,x1,x2,x3,x4,x5,x6,x7,y,none] (.rf b,h)=some (.nx [x0,x1,x2,x3,x4,x5,x6,x7,y',none] h')/\∀m,(m<lo\/hi<=m)->h'[m]?=h[m]?:=by
 have s4:4<=sizeLine:=by decide
 obtain⟨l',h',e,⟨y',rfl⟩,c1,_⟩:=aQ (i:=8) (n:=b) (body:=OG) (id:Dt->Dt) (fun j l h'=>(∃y',l=[x0,x1,x2,x3,x4,x5,x6,x7,y',none])/\(∀m,(m<lo\/hi<=m)->h'[m]?=h[m]?)/\∀m,lo<=m->m<hi->∀xs,h[m]?=some (.lst xs)->∃ys,h'[m]?=some (.lst ys)/\ys.length<=xs.length+j) (ds++[iI]) (by
  rintro k l h' ⟨_,c,_⟩;rw[c b nb,map_id];exact hb) (by
  rintro k x hx l h' ⟨⟨y',rfl⟩,c1,c2⟩;have kl:=(Df hx).1;rw[length_append,len]at kl;simp only[Xr,Yr]at kl;have cs:(∃s,pA x (.int 0) h'=some (.str s,h')/\decide (s = "one")=false)\/∃(m:Nat) (ws:List Wy),x=.tup [.str "one", .ref m]/\lo<=m/\m<hi/\ws.length<=1000/\h[m]?=some (.lst (ws.map (sG ix))):=by
   rcases mem_append.mp (mem_of_getElem? hx)with z | z
   · obtain⟨z1,z2⟩:=TK fs ds len;rw[<- z2]at z;obtain⟨p,hp,rfl⟩:=mem_map.mp z;obtain⟨a,u⟩:=at_ p hp;have fm:p.1∈fs:=by rw[<- z1];exact mem_map.mpr ⟨p,hp,rfl⟩
     have sp:=sm p.1 fm;obtain⟨f,d⟩:=p;cases f with
     | ways w=>exact .inl ⟨"ways",jP a h',by decide⟩
     | long q lo hi=>exact .inl ⟨"long",jP a h',by decide⟩
     | one ws=>obtain⟨m,e1,e2,e3⟩:=a;exact .inr ⟨m,ws,e1,e2,u m e1,sp,e3⟩
   · rw[mem_singleton.mp z];exact .inl ⟨"long",rfl,by decide⟩
  rcases cs with⟨s,i0,ns⟩ | ⟨m,ws,rfl,e1,e2,e3,e4⟩
  · refine⟨.nx [x0,x1,x2,x3,x4,x5,x6,x7,some x,none] h',?_,⟨_,rfl⟩,c1,fun m a b xs e=>?_⟩
    · simp only[OG,id,GA,xA,qA,gA,nA,uf,jf,Vr,Wr,iA,fA,i0,fB,ns,zA,Lf,if_false,QA]
    · obtain⟨ys,p,q⟩:=c2 m a b xs e;exact⟨ys,p,by omega⟩
  · obtain⟨ys,p,q⟩:=c2 m e1 e2 _ e4;rw[length_map]at q;have i0:pA (.tup [.str "one", .ref m]) (.int 0) h'=some (.str "one",h'):=rfl;have i1:pA (.tup [.str "one", .ref m]) (.int 1) h'=some (.ref m,h'):=rfl;have ak:=PH (g:=mB (bA (eC (.str "ways")) (bA (eC (.int 0)) (bA (eC (.int 1)) (bA (eC (.int 0)) jA))))) (l:=[x0,x1,x2,x3,x4,x5,x6,x7,some (.tup [.str "one", .ref m]),none]) (d:=.tup [.str "ways", .int 0,.int 1,.int 0]) p (by
     simp only[XB,CA,yA,nA,fA,Xr,Yr,Nat.reduceAdd,s4,if_true]) p (by simp[sizeLine];omega)
    refine⟨.nx [x0,x1,x2,x3,x4,x5,x6,x7,some (.tup [.str "one", .ref m]),none] (h'.set m (.lst (ys++[.tup [.str "ways", .int 0,.int 1,.int 0]]))),?_,⟨_,rfl⟩,fun m' hm'=>?_,fun m' a b xs e=>?_⟩
    · simp only[OG,id,GA,xA,qA,gA,nA,uf,jf,Vr,Wr,iA,fA,i0,fB,decide_true,zA,if_true,eG,PK,i1,ak]
    · rw[getElem?_set_ne (by omega)];exact c1 m' hm'
    · obtain⟨ys',p',q'⟩:=c2 m' a b xs e;by_cases z:m=m'
      · subst z;rw[p]at p';cases p';exact⟨_,getElem?_set_self (Df p).1,by rw[length_append];simp only[Xr,Yr];omega⟩
      · rw[getElem?_set_ne z];exact⟨ys',p',by omega⟩) [x0,x1,x2,x3,x4,x5,x6,x7,y,none] h ⟨⟨_,rfl⟩,fun _ _=>rfl,fun m _ _ xs e=>⟨xs,e,by omega⟩⟩
 exact⟨y',h',e,c1⟩
noncomputable def xH(p:Nat×List Str):Dt:=.tup [.ref p.1,.lst (p.2.map Dt.str)]
structure Held(h:HI)(v k q:Nat)(hs:List (Nat×List Str)):Prop where
 top:h[v]?=some (.lst (hs.map xH))
 at_:∀p∈hs,h[p.1]?=some (.lst (p.2.map Dt.str))/\p.1≠k/\p.1≠q/\p.1≠v/\p.2.length<=1000
theorem Held.fr{h h':HI}{v k q:Nat}{hs:List (Nat×List Str)}(H:Held h v k q hs)(F:Fq k q h h')(vk:v≠k)(vq:v≠q):Held h' v k q hs:=
 ⟨F v _ vk vq H.top,fun p m=>by obtain⟨a,b,c,d,e⟩:=H.at_ p m;exact⟨F _ _ b c a,b,c,d,e⟩⟩
def uM:RS:=lA (zB (JD (EC (Gj (KA IH [] (bA (e2 pA (eV 7) (eC (.int 0))) (bA (GC bF (eV 4)) jA))))) (EC (Gj (KA (DG (WE 3)) [] (bA (e2 pA (eV 7) (eC (.int 1))) (bA (GC aF (eV 4)) jA)))))) (BA (eC (.bl false))) NA) (lA (rD (bE (eV 5) (mB (bA (qE "Book" "labels" ND (eV 3)) (bA (GC bF (eV 4)) jA))))) (lA (rD (bE (e2 pA (eV 7) (eC (.int 0))) (eC (.str "z")))) (lA (rD (bE (e2 pA (eV 7) (eC (.int 1))) (mB (bA (eC (.str "long")) (bA (eC (.int 0)) (bA (eC (.int 1)) (bA (eC (.int 1)) jA))))))) (gD (UC (e2 pA (eV 7) (eC (.int 1)))) (bB 8) OG))))
def YL:RS:=lA (zB (EC (Gj (KA MH [] (bA (eV 3) (bA (eV 1) (bA (eV 4) (bA (KA aD [] (bA (eV 6) (bA (eC (.int 6)) jA))) jA))))))) (BA (eC (.bl false))) NA) (lA (SA 7 (eD (bA (qE "Book" "labels" ND (eV 3)) (bA (qE "Book" "facts" tF (eV 3)) jA)))) (lA (zB (Gj (e2 XA (e2 nB (eV 6) (eC (.int 2))) (eC (.int 1)))) (lA (SA 7 (eD (bA (e2 pA (eV 7) (eC (.int 1))) (bA (qE "Book" "labels" ND (eV 3)) jA)))) (SA 7 (eD (bA (e2 pA (eV 7) (eC (.int 1))) (bA (e2 pA (eV 7) (eC (.int 0))) jA))))) NA) uM))
theorem ET:nJ=YL:=rfl
theorem TR{h:HI}{q:Nat}{nm:List Str}{ps:List (Str×Fc)}(e:h[q]?=some (.dk (zD nm ps))):bF (.ref q) h=some (.lst ((ps.map (·.1)).map Dt.str),h):=by rw[UX e];unfold zD;rw[map_map,map_map];rfl
theorem TX{h:HI}{q:Nat}{nm:List Str}{ps:List (Str×Fc)}(e:h[q]?=some (.dk (zD nm ps))):aF (.ref q) h=some (.lst ((ps.map (·.2)).map (UB (uq nm))),h):=by simp only[aF,yD,e,vf,yL]
theorem KS {h:HI} {n d k q v a b lo:Nat} {nm:List Str} {ps:List (Str×Fc)} {hs:List (Nat×List Str)} {ds:List Dt} (j:J h n d k q nm ps) (lp:ps.length<=1000) (H:Held h v k q hs) (lh:hs.length<=1000) (nl:n<lo) (dl:d<lo) (kl:k<lo) (ql:q<lo) (vl:v<lo) (vn:v≠n) (vd:v≠d) (vk:v≠k) (vq:v≠q) (al:lo<=a) (ab:a≠b) (bl:lo<=b) (ha:h[a]?=some (.lst ((ps.map (·.1)).map Dt.str))) (hb:h[b]?=some (.lst ds)) (T:Tells (lo+1) h (uq nm) (ps.map (·.2)) ds) (hi:Nat) (Th:∀p∈(ps.map (·.2)).zip ds,∀m,p.2=.tup [.str "one", .ref m]->m<hi) (hib:hi<=b) (hil:hi<=h.length) (Rr:a<=lo\/hi<=a) (hol:∀p∈hs,p.1<lo) (x0 x1 x2 x6 y:Option Dt) :
 ∃y' h',uM [x0,x1,x2,some (.ref n),some (.ref q),some (.ref v),x6,some (.lst [.ref a,.ref b]),y,none] h=some (.nx [x0,x1,x2,some (.ref n),some (.ref q),some (.ref v),x6,some (.lst [.ref a,.ref b]),y',none] h')/\J h' n d k q nm ps/\Held h' v k q (hs++[(h.length,ps.map (·.1))]):=by
 have s2:2<=sizeLine:=by decide
 have s4:4<=sizeLine:=by decide
 have lk:=TR j.lq;have lv:=TX j.lq;have xg:=(Df ha).1;have yg:=(Df hb).1;have et:=GS (nm:=ps.map (·.1)) (by rw[length_map];exact lp) (d0:=.ref a) (d1:=.lst ((ps.map (·.1)).map Dt.str)) (IK ha) rfl;obtain⟨z1,z2⟩:=TK (ps.map (·.2)) ds T.len;have Kh:∀f∈ps.map (·.2),bD f:=fun f m=>by obtain⟨p,hp,rfl⟩:=mem_map.mp m;exact j.sm p hp
 have ea:=nR (R:=WE 3) (d0:=.ref b) (d1:=.lst ((ps.map (·.2)).map (UB (uq nm)))) (h:=h) ((ps.map (·.2)).zip ds) Prod.snd (fun p=>UB (uq nm) p.1) (by rw[z2];exact IK hb) (by
  rw[FO]
  conv=>lhs;rw[<- z1]
  rw[map_map];rfl) (by rw[length_zip,T.len,length_map];omega) (fun p hp=>OY (T.at_ p hp) (Kh p.1 (by rw[<- z1];exact mem_map.mpr ⟨p,hp,rfl⟩)))
 have i0:∀h:HI,pA (.lst [.ref a,.ref b]) (.int 0) h=some (.ref a,h):=fun _=>rfl
 have i1:∀h:HI,pA (.lst [.ref a,.ref b]) (.int 1) h=some (.ref b,h):=fun _=>rfl
 have el:=QO j.bk (vI nm ps);have ml:=YE (x := "Book") (m := "labels") (F:=ND) (ga:=jA) (l:=[x0,x1,x2,some (.ref n),some (.ref q),some (.ref v),x6,some (.lst [.ref a,.ref b]),y,none]) j.bk.ob qO;obtain⟨h5,Cz⟩:∃h5:HI,h5=h++[.lst ((ps.map (·.1)).map Dt.str)]:=⟨_,rfl⟩
 rw[<- Cz]at el;have Zt:=TR (h:=h5) (Cz ▸ (j.app _).lq);have v5:h5[v]?=some (.lst (hs.map xH)):=Cz ▸ VB H.top _;have ak:=PH (g:=mB (bA (qE "Book" "labels" ND (eV 3)) (bA (GC bF (eV 4)) jA))) (l:=[x0,x1,x2,some (.ref n),some (.ref q),some (.ref v),x6,some (.lst [.ref a,.ref b]),y,none]) (d:=xH (h.length,ps.map (·.1))) H.top (by
  simp only[XB,CA,yA,QK,ED,gA,HC,Vr,Wr,iA,fA,ml,el,Zt,Xr,Yr,Nat.reduceAdd,s2,if_true,xH]) v5 (by rw[length_map];simp[sizeLine];omega)
 rw[show hs.map xH++[xH (h.length,ps.map (·.1))]=(hs++[(h.length,ps.map (·.1))]).map xH by rw[map_append];rfl]at ak;obtain⟨h6,Aw⟩:∃h6:HI,h6=h5.set v (.lst ((hs++[(h.length,ps.map (·.1))]).map xH)):=⟨_,rfl⟩
 rw[<- Aw]at ak;have o5:∀m,m<h.length->h5[m]?=h[m]?:=fun m hm=>by rw[Cz,Ef hm]
 have o6:∀m,m≠v->m<h.length->h6[m]?=h[m]?:=fun m nm' hm=>by rw[Aw,getElem?_set_ne (Ne.symm nm'),o5 m hm]
 have l6:h6.length=h.length+1:=by rw[Aw,Cz];simp
 have a6:h6[a]?=some (.lst ((ps.map (·.1)).map Dt.str)):=by rw[o6 a (by omega) xg];exact ha
 have Yg:=PH (g:=eC (.str "z")) (l:=[x0,x1,x2,some (.ref n),some (.ref q),some (.ref v),x6,some (.lst [.ref a,.ref b]),y,none]) (d:=.str "z") a6 rfl a6 (by rw[length_map,length_map];simp[sizeLine];omega);obtain⟨h7,Bw⟩:∃h7:HI,h7=h6.set a (.lst ((ps.map (·.1)).map Dt.str++[.str "z"])):=⟨_,rfl⟩
 rw[<- Bw]at Yg;have b7:h7[b]?=some (.lst ds):=by rw[Bw,getElem?_set_ne ab,o6 b (by omega) yg];exact hb
 have Yh:ds.length=ps.length:=by rw[T.len,length_map]
 have Zg:=PH (g:=mB (bA (eC (.str "long")) (bA (eC (.int 0)) (bA (eC (.int 1)) (bA (eC (.int 1)) jA))))) (l:=[x0,x1,x2,some (.ref n),some (.ref q),some (.ref v),x6,some (.lst [.ref a,.ref b]),y,none]) (d:=iI) b7 (by
  simp only[XB,CA,yA,nA,fA,Xr,Yr,Nat.reduceAdd,s4,if_true,iI]) b7 (by rw[Yh];simp[sizeLine];omega)
 obtain⟨h8,Cw⟩:∃h8:HI,h8=h7.set b (.lst (ds++[iI])):=⟨_,rfl⟩
 rw[<- Cw]at Zg;have o8:∀m,m≠v->m≠a->m≠b->m<h.length->h8[m]?=h[m]?:=fun m n1 n2 n3 hm=>by rw[Cw,getElem?_set_ne (Ne.symm n3),Bw,getElem?_set_ne (Ne.symm n2),o6 m n1 hm]
 have b8:h8[b]?=some (.lst (ds++[iI])):=by rw[Cw,getElem?_set_self (Df b7).1]
 obtain⟨y',h9,e9,k9⟩:=fY (h:=h8) (lo:=lo+1) (hi:=hi) (b:=b) (ix:=uq nm) (fs:=ps.map (·.2)) (ds:=ds) Kh T.len (fun p hp=>⟨(T.at_ p hp).Er (fun m o u w e=>by
  rw[o8 m (by omega) (by omega) (by omega) (Df e).1];exact e) (Th p hp),Th p hp⟩) (by rw[length_map];exact lp) b8 (.inr hib) x0 x1 x2 (some (.ref n)) (some (.ref q)) (some (.ref v)) x6 (some (.lst [.ref a,.ref b])) y
 have sk:=HG b8;have o9:∀m,m<lo->m≠v->h9[m]?=h[m]?:=fun m ml nv=>by rw[k9 m (.inl (by omega)),o8 m nv (by omega) (by omega) (by omega)]
 have v9:h9[v]?=some (.lst ((hs++[(h.length,ps.map (·.1))]).map xH)):=by rw[k9 v (.inl (by omega)),Cw,getElem?_set_ne (by omega),Bw,getElem?_set_ne (by omega),Aw,getElem?_set_self (Df v5).1]
 have r9:h9[h.length]?=some (.lst ((ps.map (·.1)).map Dt.str)):=by rw[k9 _ (.inr hil),Cw,getElem?_set_ne (by omega),Bw,getElem?_set_ne (by omega),Aw,getElem?_set_ne (by omega),Cz];exact rC _ _ _
 refine⟨y',h9,?_,⟨⟨?_,?_,?_⟩,?_,j.dk,j.qk,j.qd,j.sm⟩,⟨v9,fun p m=>?_⟩⟩
 · simp only[uM,vA,GA,QF,GD,xA,dB,CA,yA,qA,gA,nA,HC,Vr,Wr,iA,fA,Kf,i0,i1,lk,lv,et,ea,zA,Bool.not_true,Lf,if_false,QA,DA,eG,PK,ak,Yg,Zg,FD,NC,sk,e9]
 · rw[o9 n nl (Ne.symm vn)];exact j.bk.ob
 · rw[o9 d dl (Ne.symm vd)];exact j.bk.nu
 · rw[o9 k kl (Ne.symm vk)];exact j.bk.ke
 · rw[o9 q ql (Ne.symm vq)];exact j.lq
 · rcases mem_append.mp m with z | z
   · obtain⟨e1,e2,e3,e4,e5⟩:=H.at_ p z;exact⟨by rw[o9 p.1 (hol p z) e4];exact e1,e2,e3,e4,e5⟩
   · rw[mem_singleton.mp z];exact⟨r9,by show h.length≠k;omega,by show h.length≠q;omega,by show h.length≠v;omega,by rw[length_map];exact lp⟩
theorem JY{h:HI}{n d k q v:Nat}{nm:List Str}{ps:List (Str×Fc)}{hs:List (Nat×List Str)}(nd:nm.Nodup)(okn:∀s∈nm,ID s)(h1:1<=nm.length)(j:J h n d k q nm ps)(lp:ps.length<60)(H:Held h v k q hs)(lh:hs.length<=60)(vn:v≠n)(vd:v≠d)(vk:v≠k)(vq:v≠q)(c:Int)(x0 x2 y7 y8:Option Dt) :
 ∃Mh Nh h' ps' hs',nJ [x0,some (.lst (nm.map Dt.str)),x2,some (.ref n),some (.ref q),some (.ref v),some (.int c),y7,y8,none] h=some (.nx [x0,some (.lst (nm.map Dt.str)),x2,some (.ref n),some (.ref q),some (.ref v),some (.int c),Mh,Nh,none] h')/\J h' n d k q nm ps'/\ps'.length<=ps.length+1/\Held h' v k q hs'/\hs'.length=hs.length+1:=by
 have s2:2<=sizeLine:=by decide
 obtain⟨N,hN,eN⟩:=QH c (k:=6) (by decide) h;have eN:aD [.int c,.int 6] h=some (.int (N:Nat),h):=eN;obtain⟨h1',ps',ed,j1,fr,pl⟩:=k4 nd okn h1 hN j lp;have H1:=H.fr fr vk vq;have nl:=(Df j1.bk.ob).1;have dl:=(Df j1.bk.nu).1;have kl:=(Df j1.bk.ke).1;have ql:=(Df j1.lq).1;have vl:=(Df H1.top).1;have hol:∀p∈hs,p.1<h1'.length:=fun p m=>(Df (H1.at_ p m).1).1
 have el:=QO j1.bk (vI nm ps');obtain⟨h2,Lx⟩:∃h2:HI,h2=h1'++[.lst ((ps'.map (·.1)).map Dt.str)]:=⟨_,rfl⟩
 rw[<- Lx]at el;have l2:h2.length=h1'.length+1:=by rw[Lx];simp
 have j2:J h2 n d k q nm ps':=Lx ▸ j1.app _;obtain⟨g,ds,ef,T⟩:=FS j2.bk (yL nm ps') (by rw[length_map];omega);rw[l2]at T;obtain⟨h3,hh3⟩:∃h3:HI,h3=h2++g++[.lst ds]:=⟨_,rfl⟩
 rw[<- hh3]at ef;have l3:h3.length=(h2++g).length+1:=by rw[hh3,length_append];rfl
 have lg:(h2++g).length=h1'.length+1+g.length:=by rw[length_append,l2]
 have j3:J h3 n d k q nm ps':=hh3 ▸ (j2.app g).app _;have a3:h3[h1'.length]?=some (.lst ((ps'.map (·.1)).map Dt.str)):=by rw[hh3,append_assoc];apply VB;rw[Lx];exact rC _ _ _
 have b3:h3[(h2++g).length]?=some (.lst ds):=by rw[hh3];exact rC _ _ _
 have T3:Tells (h1'.length+1) h3 (uq nm) (ps'.map (·.2)) ds:=hh3 ▸ T.app _;have Th:∀p∈(ps'.map (·.2)).zip ds,∀m,p.2=.tup [.str "one", .ref m]->m<(h2++g).length:=fun p hp m e=>by
  have z:=T.at_ p hp;obtain⟨f,d⟩:=p;cases f with
  | ways w=>rw[show d=_ from z]at e;cases e
  | long x lo hi=>rw[show d=_ from z]at e;cases e
  | one ws=>obtain⟨m',e1,_,e3⟩:=z;have e:d=_:=e;rw[e]at e1;cases e1;exact(Df e3).1
 have H3:Held h3 v k q hs:=by
  refine⟨?_,fun p m=>?_⟩
  · rw[hh3,append_assoc];apply VB;rw[Lx];exact VB H1.top _
  · obtain⟨z1,z2⟩:=H1.at_ p m;exact⟨by rw[hh3,append_assoc];apply VB;rw[Lx];exact VB z1 _,z2⟩
 have ml:=fun(y:Option Dt)=>YE (x := "Book") (m := "labels") (F:=ND) (ga:=jA) (l:=[x0,some (.lst (nm.map Dt.str)),x2,some (.ref n),some (.ref q),some (.ref v),some (.int c),y,y8,none]) j1.bk.ob qO
 have mf:=YE (x := "Book") (m := "facts") (F:=tF) (ga:=jA) (l:=[x0,some (.lst (nm.map Dt.str)),x2,some (.ref n),some (.ref q),some (.ref v),some (.int c),y7,y8,none]) j2.bk.ob kS;have m2:=fun(h:HI)=>yB (h:=h) (i:=c) (j:=2) (by decide)
 by_cases od:c%2=1
 · have el3:=QO j3.bk (vI nm ps');obtain⟨h4,Hv⟩:∃h4:HI,h4=h3++[.lst ((ps'.map (·.1)).map Dt.str)]:=⟨_,rfl⟩
   rw[<- Hv]at el3;have xr:=fun(y:Option Dt)=>YE (x := "Book") (m := "labels") (F:=ND) (ga:=jA) (l:=[x0,some (.lst (nm.map Dt.str)),x2,some (.ref n),some (.ref q),some (.ref v),some (.int c),y,y8,none]) j3.bk.ob qO
   have j4:J h4 n d k q nm ps':=Hv ▸ j3.app _;have H4:Held h4 v k q hs:=⟨Hv ▸ VB H3.top _,fun p m=>by obtain⟨z1,z2⟩:=H3.at_ p m;exact⟨Hv ▸ VB z1 _,z2⟩⟩;have l4:h4.length=h3.length+1:=by rw[Hv];simp
   obtain⟨y',h',et,j',H'⟩:=KS (a:=h3.length) (b:=(h2++g).length) (lo:=h1'.length) j4 (by omega) H4 (by omega) nl dl kl ql vl vn vd vk vq (by omega) (by omega) (by omega) (by rw[Hv];exact rC _ _ _) (Hv ▸ VB b3 _) (Hv ▸ T3.app _) (h2++g).length Th (Hf _) (by omega) (.inr (by omega)) hol x0 (some (.lst (nm.map Dt.str))) x2 (some (.int c)) y8;have i1:∀(x y:Dt)(h:HI),pA (.lst [x,y]) (.int 1) h=some (y,h):=fun _ _ _=>rfl
   have i0:∀(x y:Dt)(h:HI),pA (.lst [x,y]) (.int 0) h=some (x,h):=fun _ _ _=>rfl
   refine⟨some (.lst [.ref h3.length,.ref (h2++g).length]),y',h',ps',_,?_,j',pl,H',by rw[length_append];rfl⟩;rw[ET];simp only[YL,vA,GA,GD,xA,dB,CA,yA,qA,gA,nA,Vr,Wr,iA,fA,Kf,eN,ed,zA,Bool.not_true,Lf,if_false,QA,DA,qB,aE,QK,ED,ml,el,mf,ef,Xr,Yr,Nat.reduceAdd,s2,if_true,uf,jf,m2,jE,decide_eq_true od,i1,i0,xr,el3,et]
 · obtain⟨y',h',et,j',H'⟩:=KS (a:=h1'.length) (b:=(h2++g).length) (lo:=h1'.length) j3 (by omega) H3 (by omega) nl dl kl ql vl vn vd vk vq (Hf _) (by omega) (by omega) a3 b3 T3 (h2++g).length Th (Hf _) (by omega) (.inl (Hf _)) hol x0 (some (.lst (nm.map Dt.str))) x2 (some (.int c)) y8;refine⟨some (.lst [.ref h1'.length,.ref (h2++g).length]),y',h',ps',_,?_,j',pl,H',by rw[length_append];rfl⟩;rw[ET];simp only[YL,vA,GA,GD,xA,dB,CA,yA,qA,gA,nA,Vr,Wr,iA,fA,Kf,eN,ed,zA,Bool.not_true,Lf,if_false,QA,DA,qB,aE,QK,ED,ml,el,mf,ef,Xr,Yr,Nat.reduceAdd,s2,if_true,uf,jf,m2,jE,decide_eq_false od,et]
theorem Z3(ns:List Int):∃ms:List Int,SM.tH (ns.map Dt.int) (some 2) (some 62)=ms.map Dt.int/\ms.length<=60:=by unfold SM.tH;rw[<- map_drop,<- map_take];refine⟨_,rfl,?_⟩;rw[length_take,length_map];have h1:HT.Fx ns.length ns.length (some 62)=min 62 ns.length:=HT.qz ns.length ns.length 62;have h2:HT.Fx ns.length 0 (some 2)=min 2 ns.length:=HT.qz ns.length 0 2;rw[h1,h2];omega
theorem Y6{c n:Nat}(h:n<=8):(xQ c n).Nodup:=by rw[List.Nodup,pairwise_iff_getElem];intro i j hi hj hij e;simp only[xQ,length_map,length_range]at hi hj;simp only[xQ,getElem_map,getElem_range]at e;have:=UZ (by omega) (by omega) e;omega
theorem WZ{c k:Nat}(hk:k<8):ID (RD c k):=by refine⟨by rw[VY];have:=(VZ c k).2;omega,fun n m=>?_⟩;rw[sO]at m;have:=F0 hk m;omega
theorem law_true(ns:List Int)(hl:ns.length<=63):∃h',lI [.lst (ns.map Dt.int)] []=some (.bl true,h'):=by
 have c0:=dU ns 0 [];have c0:AG [.lst (ns.map Dt.int),.int 0] []=some (.int (ns[0]?.getD 0),[]):=c0;have m8:=fun(h:HI)=>yB (h:=h) (i:=ns[0]?.getD 0) (j:=8) (by decide)
 have z0:=Int.emod_nonneg (ns[0]?.getD 0) (show(8:Int)≠0 by decide);have z1:=Int.emod_lt_of_pos (ns[0]?.getD 0) (show(0:Int)<8 by decide);obtain⟨t,ht⟩:=Int.eq_ofNat_of_zero_le z0;rw[ht]at m8 z1;obtain⟨m,hm⟩:∃m,m=1+t:=⟨_,rfl⟩
 have em:(1:Int)+(t:Int)=(m:Int):=by omega
 have r1:=GJ (c:=m) (by omega) [];obtain⟨c,hc⟩:=Int.eq_ofNat_of_zero_le (Int.emod_nonneg (ns[1]?.getD 0) (show(1000003:Int)≠0 by decide));obtain⟨g,eg⟩:=xS (te:=mJ) (i:=0) (fun(k:Nat)=>Dt.int (k:Int)) (fun k=>Dt.str (RD c k)) [] (List.range m) [none,some (.lst (ns.map Dt.int))] [] (by
  intro k hk e;have hk:=mem_range.mp hk;have c1:=dU ns 1 ([]++e);have c1:AG [.lst (ns.map Dt.int),.int 1] ([]++e)=some (.int (ns[1]?.getD 0),[]++e):=c1;obtain⟨g,en⟩:=A4 (ns[1]?.getD 0) hc (show k<8 by omega) ([]++e);refine⟨g,?_⟩;simp only[mJ,dB,CA,yA,gA,nA,jf,Vr,Wr,iA,fA,Kf,Bf,c1,en])
 simp only[Af]at eg;have ck:=ZF (l:=[none,some (.lst (ns.map Dt.int))]) (h:=[]) (bB 0) dC mJ (xs:=(List.range m).map fun(k:Nat)=>Dt.int (k:Int)) (by rw[length_map,length_range];simp[sizeLine];omega);rw[eg]at ck;obtain⟨nm,hnm⟩:∃nm,nm=xQ c m:=⟨_,rfl⟩
 have en:(List.range m).map (fun k=>Dt.str (RD c k))=nm.map Dt.str:=by rw[hnm,xQ,map_map];rfl
 rw[en]at ck;have nd:nm.Nodup:=hnm ▸ Y6 (by omega);have nl:nm.length=m:=by rw[hnm];simp[xQ]
 have okn:∀s∈nm,ID s:=fun s z=>by rw[hnm]at z;obtain⟨k,hk,rfl⟩:=mem_map.mp z;have:=mem_range.mp hk;exact WZ (by omega)
 obtain⟨h1,hh1⟩:∃h1:HI,h1=g++[.lst (nm.map Dt.str)]:=⟨_,rfl⟩
 have l1:h1.length=g.length+1:=by rw[hh1];simp
 have u1:h1[g.length]?=some (.lst (nm.map Dt.str)):=by rw[hh1];exact rC _ _ _
 have ei:=o4 (nm:=nm) (by omega) nd u1;obtain⟨h2,Lx⟩:∃h2:HI,h2=h1++[.ins "Book" [("numbers", .ref (h1.length+1)),("kept", .ref (h1.length+2))],.dk (HB 0 nm),.dk []]:=⟨_,rfl⟩
 rw[<- Lx]at ei;have l2:h2.length=h1.length+3:=by rw[Lx];simp
 have u2:h2[g.length]?=some (.lst (nm.map Dt.str)):=Lx ▸ VB u1 _;have ak:=PH (g:=eC (.str "strange")) (l:=[some (.lst (ns.map Dt.int)),some (.lst (nm.map Dt.str)),some (.ref g.length),some (.ref h1.length),none,none,none,none,none,none]) (d:=.str "strange") u2 rfl u2 (by rw[length_map];simp[sizeLine];omega);obtain⟨h3,hh3⟩:∃h3:HI,h3=h2.set g.length (.lst (nm.map Dt.str++[.str "strange"])):=⟨_,rfl⟩
 rw[<- hh3]at ak;have l3:h3.length=h2.length:=by rw[hh3];simp
 have o3:∀m o,m≠g.length->h2[m]?=some o->h3[m]?=some o:=fun m o n e=>by rw[hh3,getElem?_set_ne (Ne.symm n)];exact e
 obtain⟨h5,Cz⟩:∃h5:HI,h5=h3++[.dk [],.lst []]:=⟨_,rfl⟩
 have j5:J h5 h1.length (h1.length+1) (h1.length+2) h3.length nm []:=by
  refine⟨⟨?_,?_,?_⟩,?_,by omega,by omega,by omega,fun p m=>by cases m⟩
  · rw[Cz];apply VB;apply o3 _ _ (by omega);rw[Lx];exact rC _ _ _
  · rw[Cz];apply VB;apply o3 _ _ (by omega);rw[Lx];exact ZL _ _ _ _
  · rw[Cz];apply VB;apply o3 _ _ (by omega);rw[Lx,Jf (by omega),show h1.length+2-h1.length=2 by omega];rfl
  · rw[Cz];exact rC _ _ _
 have H5:Held h5 (h3.length+1) (h1.length+2) h3.length []:=⟨by rw[Cz];exact ZL _ _ _ _,fun p m=>by cases m⟩;obtain⟨ms,Et,Mr⟩:=Z3 ns;obtain⟨l',h6,e6,y6,y7,y8,ps,hs,rfl,j6,Pr,H6,Lr⟩:=SK (i:=6) (body:=nJ) Dt.int (fun i l h=>∃y6 y7 y8 ps hs,l=[some (.lst (ns.map Dt.int)),some (.lst (nm.map Dt.str)),some (.ref g.length),some (.ref h1.length),some (.ref h3.length),some (.ref (h3.length+1)),y6,y7,y8,none]/\J h h1.length (h1.length+1) (h1.length+2) h3.length nm ps/\ps.length<=i/\Held h (h3.length+1) (h1.length+2) h3.length hs/\hs.length=i) ms 0 (by
  rintro i c hc l h ⟨y6,y7,y8,ps,hs,rfl,j,lp,H,lh⟩;have il:=(Df hc).1;obtain⟨Mh,Nh,h',ps',hs',e,j',Nr,H',Kr⟩:=JY nd okn (by omega) j (by omega) H (by omega) (by omega) (by omega) (by omega) (by omega) c (some (.lst (ns.map Dt.int))) (some (.ref g.length)) y7 y8;exact⟨_,e,_,_,_,ps',hs',rfl,j',by omega,H',by omega⟩) [some (.lst (ns.map Dt.int)),some (.lst (nm.map Dt.str)),some (.ref g.length),some (.ref h1.length),some (.ref h3.length),some (.ref (h3.length+1)),none,none,none,none] h5 ⟨none,none,none,[],[],rfl,j5,Nat.zero_le _,H5,rfl⟩
 obtain⟨l'',h7,e7,⟨y9,rfl⟩,rfl⟩:=aQ (i:=9) (n:=h3.length+1) (body:=UK) xH (fun _ l h=>(∃y9,l=[some (.lst (ns.map Dt.int)),some (.lst (nm.map Dt.str)),some (.ref g.length),some (.ref h1.length),some (.ref h3.length),some (.ref (h3.length+1)),y6,y7,y8,y9])/\h=h6) hs (by
  rintro k l h ⟨_,rfl⟩;exact H6.top) (by
  rintro k p hp l h ⟨⟨y9,rfl⟩,rfl⟩;obtain⟨a1,_,_,_,a5⟩:=H6.at_ p (mem_of_getElem? hp);have et:=GS a5 (d0:=.ref p.1) (d1:=.lst (p.2.map Dt.str)) (IK a1) rfl;have i0:pA (xH p) (.int 0) h=some (.ref p.1,h):=rfl;have i1:pA (xH p) (.int 1) h=some (.lst (p.2.map Dt.str),h):=rfl;refine⟨.nx [some (.lst (ns.map Dt.int)),some (.lst (nm.map Dt.str)),some (.ref g.length),some (.ref h1.length),some (.ref h3.length),some (.ref (h3.length+1)),y6,y7,y8,some (xH p)] h,?_,⟨_,rfl⟩,rfl⟩;simp only[UK,GA,GD,xA,dB,CA,yA,qA,gA,nA,uf,jf,Vr,Wr,iA,fA,Kf,i0,i1,et,zA,Bool.not_true,Lf,if_false,QA]) [some (.lst (ns.map Dt.int)),some (.lst (nm.map Dt.str)),some (.ref g.length),some (.ref h1.length),some (.ref h3.length),some (.ref (h3.length+1)),y6,y7,y8,none] h6 ⟨⟨_,rfl⟩,rfl⟩
 have sk:=HG H6.top;have l4:(h3++[Ob.dk []]).length=h3.length+1:=by simp
 have Nt:h3++[Ob.dk []]++[Ob.lst []]=h5:=by rw[Cz,append_assoc];rfl
 refine⟨h7,?_⟩;simp only[lI,CL,OA,Xr,Yr,if_true,Zr (f:=some),bf (f:=some),Nat.reduceAdd,Nat.reduceSub,List.replicate,Bf,Af,vA,qB,BF,RJ,qA,nA,dB,CA,yA,gA,Vr,Wr,iA,fA,Kf,c0,m8,pG,em,r1,EE,eJ,BE,Option.join_some,ck,uf,jf,DA,HC,VO,<- hh1,K6,ei,LX,eG,PK,ak,dL,FJ,Nat.zero_le,l4,Nt,FD,NC,Z7,d8,J2,FO,vf,Et,kE,AE,e6,sk,e7,HA,EA]
set_option maxHeartbeats 0 in
theorem X3 {l:PySem.W.OpenLaw} {w:World} {K:Frag} {h:Heap} {mg:Str->Option Value} {fa:Addr} (X:K.In h) (G:h.Ns mainGlobals mg) (hfa:mg "law" =some (.ref fa))
 {pq:Addr} {Lj:Addr} {Ej:Addr} {Ij:Addr} {Aj:Addr} {Fj:Addr} {nj:Addr} {qj:Addr} {Kv:Value} {rz:Value} {Sx:Value} {Hx:Value} {Gx:Value}
 (yq0:BI K "Book" pq) (yq1:findIn K (.ref pq) "numbers" =some none) (yq2:findIn K (.ref pq) "kept" =some none) (yq3:JB K "groups_in" JN) (yq4:JB K "is_length" KN) (yq5:JB K "has_room" ZN) (yq6:JB K "names_in" bO) (yq7:JB K "is_sound" aO) (yq8:JB K "by_numbers" RN) (yq9:JB K "copied" EO) (yq10:oG K pq "__init__" "Book.__init__" kN) (yq11:oG K pq "put" "Book.put" VN) (yq12:oG K pq "take" "Book.take" FN) (yq13:oG K pq "let_in" "Book.let_in" qN) (yq14:oG K pq "labels" "Book.labels" pN) (yq15:oG K pq "facts" "Book.facts" MN) (yq16:YT K pq "asked" "Book.asked" LN 200) (yq17:JB K "_law_cell_at" aN) (yq18:JB K "_law_mixed" NN) (yq19:JB K "_law_name_by" fN) (yq20:JB K "_law_whole" QN) (yq21:JB K "_law_texts" PN) (yq22:JB K "_law_fact_alike" BM) (yq23:JB K "_law_facts_alike" NM) (yq24:JB K "_law_mask_by" cN) (yq25:JB K "_law_name_at" dN) (yq26:JB K "_law_ways_by" iN) (yq27:JB K "_law_fact_by" bN) (yq28:JB K "_law_strange" gN) (yq29:JB K "_law_bad" WN) (yq30:JB K "_law_due" XN) (yq31:JB K "_law_by_numbers" zM) (yq32:JB K "_law_told" IN) (yq33:JB K "_law_put" YN) (yq34:JB K "_law_taken" ON) (yq35:JB K "_law_question" lN) (yq36:JB K "_law_deed" HN) (yq37:JB K "law" bQ) (yq38:nsIn K mainGlobals "BadFact" =some (some (.ref nj))) (yq39:nsIn K mainGlobals "BadText" =some (some (.ref Ej))) (yq40:nsIn K mainGlobals "NoLabel" =some (some (.ref Aj))) (yq41:nsIn K mainGlobals "NoName" =some (some (.ref Fj))) (yq42:nsIn K mainGlobals "SpanError" =some (some (.ref Lj))) (yq43:nsIn K mainGlobals "TooMany" =some (some (.ref qj))) (yq44:nsIn K mainGlobals "Twice" =some (some (.ref Ij))) (yq45:ZG K Lj=true) (yq46:pH K Ej "BadText" "BadText.__init__" "row" ZQ) (yq47:pH K Ij "Twice" "Twice.__init__" "word" wM) (yq48:pH K Aj "NoLabel" "NoLabel.__init__" "word" MM) (yq49:pH K Fj "NoName" "NoName.__init__" "word" yM) (yq50:XG K qj=true) (yq51:rE K qj=true) (yq52:keepIn K (.ref qj)=true) (yq53:XG K nj=true) (yq54:rE K nj=true) (yq55:keepIn K (.ref nj)=true) (yq56:sD K Ij=true) (yq57:PySem.W.exmOne K (.ref Ij) (.ref Lj)=some true) (yq58:sD K qj=true) (yq59:PySem.W.exmOne K (.ref qj) (.ref Lj)=some true) (yq60:sD K Aj=true) (yq61:PySem.W.exmOne K (.ref Aj) (.ref Lj)=some true) (yq62:sD K Fj=true) (yq63:PySem.W.exmOne K (.ref Fj) (.ref Lj)=some true) (yq64:sD K nj=true) (yq65:PySem.W.exmOne K (.ref nj) (.ref Lj)=some true) (yq66:PySem.W.kitOne K (.ref Ej) (.ref nj)=some false) (yq67:PySem.W.kitOne K (.ref Ij) (.ref nj)=some false) (yq68:PySem.W.kitOne K (.ref Aj) (.ref nj)=some false) (yq69:PySem.W.kitOne K (.ref Fj) (.ref nj)=some false) (yq70:PySem.W.kitOne K (.ref qj) (.ref nj)=some false) (yq71:PySem.W.kitOne K (.ref nj) (.ref nj)=some true) (yq72:PySem.W.kitOne K (.ref Ej) (.ref Ej)=some true) (yq73:PySem.W.kitOne K (.ref Ij) (.ref Ej)=some false) (yq74:PySem.W.kitOne K (.ref Aj) (.ref Ej)=some false) (yq75:PySem.W.kitOne K (.ref Fj) (.ref Ej)=some false) (yq76:PySem.W.kitOne K (.ref qj) (.ref Ej)=some false) (yq77:PySem.W.kitOne K (.ref nj) (.ref Ej)=some false) (yq78:PySem.W.kitOne K (.ref Ej) (.ref Aj)=some false) (yq79:PySem.W.kitOne K (.ref Ij) (.ref Aj)=some false) (yq80:PySem.W.kitOne K (.ref Aj) (.ref Aj)=some true) (yq81:PySem.W.kitOne K (.ref Fj) (.ref Aj)=some false) (yq82:PySem.W.kitOne K (.ref qj) (.ref Aj)=some false) (yq83:PySem.W.kitOne K (.ref nj) (.ref Aj)=some false) (yq84:PySem.W.kitOne K (.ref Ej) (.ref Fj)=some false) (yq85:PySem.W.kitOne K (.ref Ij) (.ref Fj)=some false) (yq86:PySem.W.kitOne K (.ref Aj) (.ref Fj)=some false) (yq87:PySem.W.kitOne K (.ref Fj) (.ref Fj)=some true) (yq88:PySem.W.kitOne K (.ref qj) (.ref Fj)=some false) (yq89:PySem.W.kitOne K (.ref nj) (.ref Fj)=some false) (yq90:PySem.W.kitOne K (.ref Ej) (.ref qj)=some false) (yq91:PySem.W.kitOne K (.ref Ij) (.ref qj)=some false) (yq92:PySem.W.kitOne K (.ref Aj) (.ref qj)=some false) (yq93:PySem.W.kitOne K (.ref Fj) (.ref qj)=some false) (yq94:PySem.W.kitOne K (.ref qj) (.ref qj)=some true) (yq95:PySem.W.kitOne K (.ref nj) (.ref qj)=some false) (yq96:PySem.W.kitOne K (.ref Ej) (.ref Ij)=some false) (yq97:PySem.W.kitOne K (.ref Ij) (.ref Ij)=some true) (yq98:PySem.W.kitOne K (.ref Aj) (.ref Ij)=some false) (yq99:PySem.W.kitOne K (.ref Fj) (.ref Ij)=some false) (yq100:PySem.W.kitOne K (.ref qj) (.ref Ij)=some false) (yq101:PySem.W.kitOne K (.ref nj) (.ref Ij)=some false) (yq102:PySem.W.kitOne K (.ref Ej) (.type "ValueError")=some true) (yq103:PySem.W.kitOne K (.ref Ij) (.type "ValueError")=some true) (yq104:PySem.W.kitOne K (.ref Aj) (.type "ValueError")=some true) (yq105:PySem.W.kitOne K (.ref Fj) (.type "ValueError")=some true) (yq106:PySem.W.kitOne K (.ref qj) (.type "ValueError")=some true) (yq107:PySem.W.kitOne K (.ref nj) (.type "ValueError")=some true) (yq108:nsIn K mainGlobals "ValueError" =some none) (yq109:nsIn K mainGlobals "all" =some none) (yq110:nsIn K mainGlobals "bool" =some none) (yq111:nsIn K mainGlobals "enumerate" =some none) (yq112:nsIn K mainGlobals "int" =some none) (yq113:nsIn K mainGlobals "isinstance" =some none) (yq114:nsIn K mainGlobals "len" =some none) (yq115:nsIn K mainGlobals "list" =some none) (yq116:nsIn K mainGlobals "range" =some none) (yq117:nsIn K mainGlobals "str" =some none) (yq118:nsIn K mainGlobals "tuple" =some none) (yq119:nsIn K mainGlobals "ALL" =some (some Kv)) (yq120:nC K 6 Kv=some oQ) (yq121:nsIn K mainGlobals "FACTS" =some (some rz)) (yq122:nC K 6 rz=some eP) (yq123:nsIn K mainGlobals "GROUPS" =some (some Sx)) (yq124:nC K 6 Sx=some LO) (yq125:nsIn K mainGlobals "MEMBERS" =some (some Hx)) (yq126:nC K 6 Hx=some dO) (yq127:nsIn K mainGlobals "LONGEST" =some (some Gx)) (yq128:nC K 6 Gx=some EK)
 :∃fd:FuncData,(∀(s:Shared) (v:Value),BindsTo s fd ⟨[v],[]⟩ [("_law_script",v)])/\∀base:Heap,K.In base->base.Ns mainGlobals mg->Oj l.prog w K mg base sE 9 fa fd ["_law_script"] (NI K 1 lI):=by
 have T:Txt K mg:={
  iy:=QB X G yq3 fun _ _ _ _ _ _=>NE (fun _=>rfl)
  jy:=QB X G yq4 fun _ _ _ _ _ _=>jC (fun _ _=>rfl)
  Wk:=QB X G yq5 fun _ _ _ _ _ _=>jC (fun _ _=>rfl)
  qw:=QB X G yq6 fun _ _ _ _ _ _=>NE (fun _=>rfl)
  jw:=QB X G yq7 fun _ _ _ _ _ _=>NE (fun _=>rfl)
  gw:=QB X G yq8 fun _ _ _ _ _ _=>jC (fun _ _=>rfl)
  Qy:=QB X G yq9 fun _ _ _ _ _ _=>NE (fun _=>rfl)
  Vy:=NZ X G yq0 yq10 fun _ _ _ _ _ _=>jC (fun _ _=>rfl)
  Fy:=oJ yq0 yq11 fun _ _ _ _ _ _=>FQ (fun _ _ _=>rfl)
  qy:=oJ yq0 yq12 fun _ _ _ _ _ _=>jC (fun _ _=>rfl)
  Lk:=oJ yq0 yq13 fun _ _ _ _ _ _=>jC (fun _ _=>rfl)
  Jk:=oJ yq0 yq14 fun _ _ _ _ _ _=>NE (fun _=>rfl)
  Rk:=oJ yq0 yq15 fun _ _ _ _ _ _=>NE (fun _=>rfl)
  Qk:=TZ yq0 yq16 fun _ _ _ _ _ _ _ _ _ _ _ us hl h1 h2=>match us,hl with | [_,_,_,_,_],_=>BindsTo.of_defaults rfl h1 h2 rfl rfl
  wk:=QB X G yq17 fun _ _ _ _ _ _=>jC (fun _ _=>rfl)
  Ck:=QB X G yq18 fun _ _ _ _ _ _=>jC (fun _ _=>rfl)
  Xw:=QB X G yq19 fun _ _ _ _ _ _=>jC (fun _ _=>rfl)
  Gk:=QB X G yq20 fun _ _ _ _ _ _=>NE (fun _=>rfl)
  Ek:=QB X G yq21 fun _ _ _ _ _ _=>jC (fun _ _=>rfl)
  dw:=QB X G yq22 fun _ _ _ _ _ _=>jC (fun _ _=>rfl)
  Uw:=QB X G yq23 fun _ _ _ _ _ _=>jC (fun _ _=>rfl)
  Vw:=QB X G yq24 fun _ _ _ _ _ _=>NE (fun _=>rfl)
  Ww:=QB X G yq25 fun _ _ _ _ _ _=>jC (fun _ _=>rfl)
  Zw:=QB X G yq26 fun _ _ _ _ _ _=>jC (fun _ _=>rfl)
  Ak:=QB X G yq27 fun _ _ _ _ _ _=>jC (fun _ _=>rfl)
  Yw:=QB X G yq28 fun _ _ _ _ _ _=>jC (fun _ _=>rfl)
  iw:=QB X G yq29 fun _ _ _ _ _ _=>NE (fun _=>rfl)
  Uk:=QB X G yq30 fun _ _ _ _ _ _=>GQ (fun _ _ _ _=>rfl)
  bw:=QB X G yq31 fun _ _ _ _ _ _=>jC (fun _ _=>rfl)
  Zk:=QB X G yq32 fun _ _ _ _ _ _=>NE (fun _=>rfl)
  Vk:=QB X G yq33 fun _ _ _ _ _ _=>FQ (fun _ _ _=>rfl)
  Dk:=QB X G yq34 fun _ _ _ _ _ _=>jC (fun _ _=>rfl)
  Bk:=QB X G yq35 fun _ _ _ _ _ _=>jC (fun _ _=>rfl)
  Nk:=QB X G yq36 fun _ _ _ _ _ _=>GQ (fun _ _ _ _=>rfl)
  Oz:=qT yq0 yq1
  Ux:=qT yq0 yq2
  Wg:=bL X G yq46 yq42 yq45 fun _ _ _ _ _ _=>jC (fun _ _=>rfl)
  Bv:=bL X G yq47 yq42 yq45 fun _ _ _ _ _ _=>jC (fun _ _=>rfl)
  Zz:=bL X G yq48 yq42 yq45 fun _ _ _ _ _ _=>jC (fun _ _=>rfl)
  Av:=bL X G yq49 yq42 yq45 fun _ _ _ _ _ _=>jC (fun _ _=>rfl)
  Yk:=IS X G yq43 yq50 yq52
  Xk:=IS X G yq38 yq53 yq55
  Sy:=IJ yq44 yq56
  zy:=IJ yq43 yq58
  uy:=IJ yq40 yq60
  Hy:=IJ yq41 yq62
  Gy:=IJ yq38 yq64
  Yz:=⟨⟨_,PySem.W.mg_of X G yq42,bJ yq44 yq57 (bJ yq43 yq59 (bJ yq40 yq61 (bJ yq41 yq63 (bJ yq38 yq65 (SX)))))⟩⟩
  Ay:=⟨⟨_,PySem.W.mg_of X G yq38,MB yq46 yq66 (MB yq47 yq67 (MB yq48 yq68 (MB yq49 yq69 (MD yq43 yq51 yq70 (MD yq38 yq54 yq71 (MG))))))⟩⟩
  Cy:=⟨⟨_,PySem.W.mg_of X G yq39,MB yq46 yq72 (MB yq47 yq73 (MB yq48 yq74 (MB yq49 yq75 (MD yq43 yq51 yq76 (MD yq38 yq54 yq77 (MG))))))⟩⟩
  Dy:=⟨⟨_,PySem.W.mg_of X G yq40,MB yq46 yq78 (MB yq47 yq79 (MB yq48 yq80 (MB yq49 yq81 (MD yq43 yq51 yq82 (MD yq38 yq54 yq83 (MG))))))⟩⟩
  Ly:=⟨⟨_,PySem.W.mg_of X G yq41,MB yq46 yq84 (MB yq47 yq85 (MB yq48 yq86 (MB yq49 yq87 (MD yq43 yq51 yq88 (MD yq38 yq54 yq89 (MG))))))⟩⟩
  Ey:=⟨⟨_,PySem.W.mg_of X G yq43,MB yq46 yq90 (MB yq47 yq91 (MB yq48 yq92 (MB yq49 yq93 (MD yq43 yq51 yq94 (MD yq38 yq54 yq95 (MG))))))⟩⟩
  Ny:=⟨⟨_,PySem.W.mg_of X G yq44,MB yq46 yq96 (MB yq47 yq97 (MB yq48 yq98 (MB yq49 yq99 (MD yq43 yq51 yq100 (MD yq38 yq54 yq101 (MG))))))⟩⟩
  Ik:=MB yq46 yq102 (MB yq47 yq103 (MB yq48 yq104 (MB yq49 yq105 (MD yq43 yq51 yq106 (MD yq38 yq54 yq107 (MG))))))
  Pk:=mg_none_of X G yq108
  Zy:=mg_none_of X G yq109
  Xy:=mg_none_of X G yq110
  sy:=mg_none_of X G yq111
  cg:=mg_none_of X G yq112
  Mq:=mg_none_of X G yq113
  Nq:=mg_none_of X G yq114
  zx:=mg_none_of X G yq115
  Zx:=mg_none_of X G yq116
  Cv:=mg_none_of X G yq117
  Uy:=mg_none_of X G yq118
  Yy:=⟨⟨_,6,PySem.W.mg_of X G yq119,yq120⟩⟩
  Ry:=⟨⟨_,6,PySem.W.mg_of X G yq121,yq122⟩⟩
  Py:=⟨⟨_,6,PySem.W.mg_of X G yq123,yq124⟩⟩
  Ky:=⟨⟨_,6,PySem.W.mg_of X G yq125,yq126⟩⟩
  Jy:=⟨⟨_,6,PySem.W.mg_of X G yq127,yq128⟩⟩
 }
 obtain⟨f,oc,od,kV,dc,pm,an,cd,ct,sl,a,l1,c1,k1⟩:=yq37;have e:=hfa.symm.trans (PySem.W.mg_of X G a);cases e;exact⟨_,fun s v=>.of_eq rfl,fun base _ _=>B3 T base (BJ l1 c1 k1)⟩
end G
open PySem.W
set_option maxRecDepth 100000 in
set_option maxHeartbeats 0 in
theorem PySem.Challenge.cw_spanways_k26_a_book_kept_holds : PySem.Challenge.rw_spanways_k26_a_book_kept.Holds := by
 w_on;o_law;k_head;(case hw=>w_witness2)
 k_fill
 refine SM.QZ (l:=PySem.Challenge.rw_spanways_k26_a_book_kept) (F:=G.lI) (k:=9) (x := "_law_script") rfl rfl ⟨rfl,by decide,by decide⟩ (fun w h Y=>PySem.W.kIn_of Y) ?F G.law_true
 case F=>
  intro w mg fa h KX GN hmg
  refine' G.X3 KX GN hmg ?yq0 ?yq1 ?yq2 ?yq3 ?yq4 ?yq5 ?yq6 ?yq7 ?yq8 ?yq9 ?yq10 ?yq11 ?yq12 ?yq13 ?yq14 ?yq15 ?yq16 ?yq17 ?yq18 ?yq19 ?yq20 ?yq21 ?yq22 ?yq23 ?yq24 ?yq25 ?yq26 ?yq27 ?yq28 ?yq29 ?yq30 ?yq31 ?yq32 ?yq33 ?yq34 ?yq35 ?yq36 ?yq37 ?yq38 ?yq39 ?yq40 ?yq41 ?yq42 ?yq43 ?yq44 ?yq45 ?yq46 ?yq47 ?yq48 ?yq49 ?yq50 ?yq51 ?yq52 ?yq53 ?yq54 ?yq55 ?yq56 ?yq57 ?yq58 ?yq59 ?yq60 ?yq61 ?yq62 ?yq63 ?yq64 ?yq65 ?yq66 ?yq67 ?yq68 ?yq69 ?yq70 ?yq71 ?yq72 ?yq73 ?yq74 ?yq75 ?yq76 ?yq77 ?yq78 ?yq79 ?yq80 ?yq81 ?yq82 ?yq83 ?yq84 ?yq85 ?yq86 ?yq87 ?yq88 ?yq89 ?yq90 ?yq91 ?yq92 ?yq93 ?yq94 ?yq95 ?yq96 ?yq97 ?yq98 ?yq99 ?yq100 ?yq101 ?yq102 ?yq103 ?yq104 ?yq105 ?yq106 ?yq107 ?yq108 ?yq109 ?yq110 ?yq111 ?yq112 ?yq113 ?yq114 ?yq115 ?yq116 ?yq117 ?yq118 ?yq119 ?yq120 ?yq121 ?yq122 ?yq123 ?yq124 ?yq125 ?yq126 ?yq127 ?yq128
  (case yq0=>exact⟨by k_is,by k_is,by k_is,by k_is,by k_is,by k_is,by k_is⟩)
  (case yq1 | yq2=>k_is)
  (case yq3 | yq4 | yq5 | yq6 | yq7 | yq8 | yq9=>exact⟨_,_,_,_,_,_,_,_,_,_,by k_is,by k_is,by k_is,by k_is⟩)
  (case yq10 | yq11 | yq12 | yq13 | yq14 | yq15=>exact⟨_,_,_,_,_,_,_,_,_,_,by k_is,by k_is,by k_is,by k_is,by k_is⟩)
  (case yq16=>exact⟨_,_,_,_,_,_,_,_,_,_,_,_,_,_,by k_is,by k_is,by k_is,by k_is,by k_is,by k_is,by rfl⟩)
  (case yq17 | yq18 | yq19 | yq20 | yq21 | yq22 | yq23 | yq24 | yq25 | yq26 | yq27 | yq28 | yq29 | yq30 | yq31 | yq32 | yq33 | yq34 | yq35 | yq36 | yq37=>exact⟨_,_,_,_,_,_,_,_,_,_,by k_is,by k_is,by k_is,by k_is⟩)
  (case yq38 | yq39 | yq40 | yq41 | yq42 | yq43 | yq44=>k_is)
  (case yq45=>kernel_rfl)
  (case yq46 | yq47 | yq48 | yq49=>exact⟨_,_,_,_,_,_,_,_,_,_,by k_is,by k_is,by k_is,by k_is,by k_is,by k_is,by kernel_rfl,by k_is,by kernel_rfl,by k_is⟩)
  (case yq50 | yq51=>kernel_rfl)
  (case yq52=>k_is)
  (case yq53 | yq54=>kernel_rfl)
  (case yq55=>k_is)
  (case yq56 | yq57 | yq58 | yq59 | yq60 | yq61 | yq62 | yq63 | yq64 | yq65 | yq66 | yq67 | yq68 | yq69 | yq70 | yq71 | yq72 | yq73 | yq74 | yq75 | yq76 | yq77 | yq78 | yq79 | yq80 | yq81 | yq82 | yq83 | yq84 | yq85 | yq86 | yq87 | yq88 | yq89 | yq90 | yq91 | yq92 | yq93 | yq94 | yq95 | yq96 | yq97 | yq98 | yq99 | yq100 | yq101 | yq102 | yq103 | yq104 | yq105 | yq106 | yq107=>kernel_rfl)
  (case yq108 | yq109 | yq110 | yq111 | yq112 | yq113 | yq114 | yq115 | yq116 | yq117 | yq118 | yq119=>k_is)
  (case yq120=>kernel_rfl)
  (case yq121=>k_is)
  (case yq122=>kernel_rfl)
  (case yq123=>k_is)
  (case yq124=>kernel_rfl)
  (case yq125=>k_is)
  (case yq126=>kernel_rfl)
  (case yq127=>k_is)
  (case yq128=>kernel_rfl)
end
