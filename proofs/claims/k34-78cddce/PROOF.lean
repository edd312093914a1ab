import PyProof.Rows.All
import Wide.All
import OpenK.KLine
import KE.KFromBytes
import KE.KRevSl
import KE.KIsAll
import Wide.FinOn
import Lean
import PyProof.EqAt
import PyProof.EqKinds
import PyProof.TupleCall
import PyProof.ExcInit
import PyProof.ExcClass3
import PyProof.ExcBaseAll.ValueError
import PyProof.ExcAttrAll.ValueError
import PyProof.ReprRoads
import PyProof.ReprReads
import PyProof.ExcRepr
import PyProof.RaisesMany
import PyProof.StationsW
import PyProof.RulesTry
import PyProof.RulesAs
import PyProof.Draws
import PyProof.EnumMake
import PyProof.EnumFor
import PyProof.ReprLen
import PyProof.ConsumeWalk
import PyProof.WalksMore
import PyProof.ListRange
import PyProof.Rows.SetFrom
import PyProof.SetRoads
import PyProof.FactsAll.subtypes_4
import PyProof.CollectStr
import PyProof.DictWalks
import PyProof.Rows.SortWalk
import PyProof.ZipIter
import PyProof.DictList
import PyProof.DictUpdate
import PyProof.MeetsSeq2
import PyProof.AttrMissHeap
import PyProof.TupleIter
import PyProof.FactsAll.zip
import KE.KDictOf
import KE.KEqDict
import PyProof.NsDelKeeps
import PyProof.DictItems
import PyProof.DictItemsLoops
import PyProof.DictValues
import KE.KPairComp
import KE.KItemsList
import PyProof.WalkInts
import PyProof.SeqI3
import PyProof.MinMaxWalk
import KE.KDictLaws
import KE.KMinKey
import PyProof.NeKinds
import PyProof.Rows.CallKwBuiltin
import PyProof.Rows.CallKw2
import PyProof.FactsAll.list
import PyProof.Rows.Range3
import PyProof.ListNew
import PySem.Challenge.RW_nolocktree_k34_levels_and_pairs
set_option compiler.extract_closed false
set_option Elab.async false
set_option linter.all false
set_option maxRecDepth 9999 in
set_option maxHeartbeats 0 in
def PySem.W.Fast:Nat:=let rec tw12437503851112355194:=0,tw3484285994107420684:=0,tw13705580073944494466:=0,tw4285418654150936479:=0,tw14381910775742698220:=0,tw9361085732508945383:=0,tw10582546478398701193:=0,tw1211159423982170392:=0,tw18155590989467627657:=0,tw1422903890570707769:=0,tw17832126563111659632:=0,tw10642210036439047743:=0,tw2320163480253628812:=0,tw15733201860066800219:=0,tw15620615068808601922:=0,tw7355628699940175025:=0,tw9911438937081787638:=0,tw3296186062551110088:=0,tw1189741449406612063:=0,tw2699890557274033560:=0,tw18191018645830883750:=0,tw17157171611424847916:=0,tw11012353546218760354:=0,tw6802398254545689536:=0,tw13484118696313662123:=0,tw17929369551629230667:=0,tw4944497845465616814:=0,tw7849167249287319:=0,tw988204422212646163:=0,tw14683435618318482312:=0,tw10344814971735675109:=0,tw8943007912430225574:=0,tw153043640318427225:=0,tw16405451594446773684:=0,tw6730970585345296696:=0,tw1772468789991052820:=0,tw6612188147924586928:=0,tw15695232196830963539:=0,tw11155444325728611592:=0,tw15488546291681753065:=0,tw13842920667153541460:=0,tw1184691679139857379:=0,tw15641710316649879891:=0,tw14775766737600524021:=0,tw10630246092172742194:=0,tw4762246713707219499:=0,tw9749613225749798451:=0,tw723788440138336252:=0,tw18281090295835226297:=0,tw8849075191051529064:=0,tw8914916563255835970:=0,tw7729307704710184453:=0,tw10439157531456860353:=0,tw8801021060853795576:=0,tw13828712044516763498:=0,tw12412394403516290416:=0,tw14609962713267596777:=0,tw10669567269165708858:=0,tw3781583372671377588:=0,tw9936095135177314407:=0,tw14397259812395656762:=0,tw13377403863840795913:=0,tw7943441842165667659:=0,tw17407695899619789608:=0,tw2561834431794721622:=0,tw1503059218797918623:=0,tw15785672169089815088:=0,tw13466526151082216795:=0,tw17997041383206405117:=0,tw17582491682387395424:=0,tw16078701919674075558:=0,tw7422090288730074079:=0,tw12493346501183459300:=0,tw15722638222600173579:=0,tw14375188717932198282:=0,tw8879387070907158067:=0,tw10142457386921990438:=0,tw13765446139105311102:=0,tw10151163296163213104:=0,tw15268542543947902500:=0,tw2854897303742909685:=0,tw12007370059348327845:=0,tw13912051832043070404:=0,tw4887189224839257313:=0,tw2977568026538597876:=0,tw10605455439748490191:=0,tw11522524739667264423:=0,tw288438124998131597:=0,tw15430903105020102433:=0,tw1928686699737372754:=0,tw14382007008984302902:=0,tw12193965089758983244:=0,tw11807141660875852728:=0,tw2891836234349959783:=0,tw10904839744421983512:=0,tw17384772543532571147:=0,tw12061926378859696529:=0,tw6634995058849886291:=0,tw6972353916687616874:=0,tw10823061565500206408:=0,tw171327556349763929:=0,tw3285419075951470210:=0,tw16281982063002428369:=0,tw6584778861716354550:=0,tw4838933432533886597:=0,tw2720175449806975932:=0,tw14882251607766866250:=0,tw11871730284326860224:=0,tw6614942984114118116:=0,tw15118847958082312168:=0,tw11921449715654625856:=0,tw2773164270609495057:=0,tw3266528600304464032:=0,tw16513376453547604117:=0,tw12139121131847641054:=0,tw2099443029586354623:=0,tw2049170673844947449:=0,tw2134387584645964440:=0,tw3703711265619980279:=0,tw17843075002866555031:=0,tw9838807966229242774:=0,tw3297387477294248674:=0,tw2105613542731260522:=0,tw14713884110112397337:=0,tw14409287453337842255:=0,tw13699142437816464233:=0,tw5652586826852646103:=0,tw6085689203517131770:=0,tw6104573864214225040:=0,tw4900698348426862999:=0,tw15187122079593550065:=0,tw1211574348162133509:=0,tw4088781725057184126:=0,tw12440685121667909682:=0,tw1887729789379304053:=0,tw5315327492145469314:=0,tw11684216738538681043:=0,tw3303037375375699713:=0,tw7581774836447995997:=0,tw6678602459364080654:=0,tw9316246397199033672:=0,tw497860929865959651:=0,tw6341120153799280690:=0,tw15465749065254218145:=0,tw13352874610416058638:=0,tw11673166372029274662:=0,tw539991342500657130:=0,tw152412300657621056:=0,tw12984313777132231116:=0,tw17255891893148331173:=0,tw15660531225603824150:=0,tw16738466000235501067:=0,tw16822324645722402181:=0,tw5116513569277151238:=0,tw16760969417348476035:=0,tw2589088549617744170:=0,tw14940339920869342981:=0,tw17722364472779966670:=0,tw12705961298480841237:=0,tw2664984991879305677:=0,tw67806713022136036:=0,tw13819904089915375914:=0,tw13148846349204523725:=0,tw10824916394357350773:=0,tw17617166127351404552:=0,tw12784299904132884580:=0,tw16583825370316189030:=0,tw11659514240566891915:=0,tw10811329078647881487:=0,tw18390710437676449670:=0,tw9847755230522573971:=0,tw9537703293200899244:=0,tw8533249444566696171:=0,tw4327788537828030345:=0,tw645335449677629970:=0,tw17137839743222451909:=0,tw13969081221835845697:=0,tw9087499143391250352:=0,tw5605141088496416825:=0,tw18050939950806977862:=0,tw5749111160394018362:=0,tw14985764768622752708:=0,tw16900783671979385152:=0,tw11408151802852973643:=0,tw11125425516469874412:=0,tw14043493744216763265:=0,tw15812833370418527239:=0,tw5564366124431170805:=0,tw286749067786282762:=0,tw15756796497077683287:=0,tw11999179900527905813:=0,tw8231853939592048183:=0,tw3426786052516352774:=0,tw14762134042636626843:=0,tw208258419481972736:=0,tw3999957778998469184:=0,tw5325297578568736429:=0,tw16350578083041427924:=0,tw14814652719644922807:=0,tw5573120955085639748:=0,tw9271526780480904002:=0,tw8717136303131436471:=0,tw14204758947231464114:=0,tw10995684422741174997:=0,tw10675193808536987880:=0,tw11012900577102082507:=0,tw2297131872199926768:=0,tw2447023768746315028:=0,tw9176729012894777706:=0,tw17342952444596306226:=0,tw9871507451421483959:=0,tw7393663077124794463:=0,tw5345224847194369651:=0,tw1475005877904981350:=0,tw4449153665551365245:=0,tw7707043138408862816:=0,tw15533673315030738155:=0,tw4640426217440762222:=0,tw8915258951017209742:=0,tw1411589110812428902:=0,tw13957946013639826800:=0,tw15112505032601295853:=0,tw5404020248619203255:=0,tw13987163564823198109:=0,tw3674121893268486587:=0,tw5553191134988120810:=0,tw4677321156724524483:=0,tw10249863850312582971:=0,tw3479462855226333081:=0,tw11127669247374958588:=0,tw11759312075998031532:=0,tw17213718903475145389:=0,tw13187761820611822447:=0,tw1985100517532098459:=0,tw16248468390838530450:=0,tw7499152066663386252:=0,tw8600097522571890730:=0,tw13633565536834515676:=0,tw11160751675680969500:=0,tw13792806884893641606:=0,tw11782699352058056734:=0,tw2854339933075535137:=0,tw4022090783546327657:=0,tw6365735905661981294:=0,tw3250710251121293922:=0,tw16693099254896702384:=0,tw449483469907124789:=0,tw7561931922267717994:=0,tw14493425041942380682:=0,tw10043847633561236537:=0,tw1826211579332559995:=0,tw8120939475669373542:=0,tw14298952184304674879:=0,tw4921748738987241175:=0,tw15277425681067861181:=0,tw2681691815213788767:=0,tw18121549063566705711:=0,tw3837033650056909200:=0,tw4572874064678467907:=0,tw828216762955652914:=0,tw15183019328478559120:=0,tw11596581280627306979:=0,tw11221551703935989772:=0,tw18085740298075854175:=0,tw15783834747709997452:=0,tw8491230302051882595:=0,tw4750632798225862906:=0,tw15684801610734345517:=0,tw9119190529691316329:=0,tw1552247606642144082:=0,tw3389286072435896933:=0,tw8418165473201649894:=0,tw5438774456482619872:=0,tw17532825579152129000:=0,tw11515850424827477042:=0,tw17476823386202191162:=0,tw1648156784734178087:=0,tw16603925453830726379:=0,tw5456370391537467321:=0,tw6645386999113711054:=0,tw18325344582870687907:=0,tw7702549415032653732:=0,tw17255578857787718747:=0,tw6548938966236483698:=0,tw2650116756762733184:=0,tw7138448367710884592:=0,tw6887138577505995943:=0,tw18183780461361876334:=0,tw14568868108884530730:=0,tw2853616805241544380:=0,tw14402498473522504550:=0,tw9051528473740989400:=0,tw10641234960476220028:=0,tw12482524265348950081:=0,tw17580466713228381010:=0,tw18154775842533334554:=0,tw13985322554411079078:=0,tw5325295782762802648:=0,tw6039202118665324172:=0,tw478133154339978318:=0,tw16160843023805490081:=0,tw15373940038133075384:=0,tw2636821235799781030:=0,tw88421526677186438:=0,tw5937348979628826162:=0,tw17961867515992188260:=0,tw219365350978764757:=0,tw12036098669482058887:=0,tw5229540975523384683:=0,tw2841460238828202486:=0,tw242966386312427511:=0,tw4068018092865085762:=0,tw8139667708157813747:=0,tw2577023827150002566:=0,tw5348428824704060683:=0,tw14104079501020773993:=0,tw7979740518211253783:=0,tw16223219670569544510:=0,tw6136029375416188434:=0,tw3297786743019720821:=0,tw9084233573512568937:=0,tw1692462023185861701:=0,tw5711708180817192077:=0,tw12928025622748180320:=0,tw17225244540186703420:=0,tw16217494030078456219:=0,tw5435229054210064968:=0,tw2363486604375733009:=0,tw10303640741452758803:=0,tw12506967439846617634:=0,tw4986161147666055524:=0,tw17276768363834811612:=0,tw16215298523741279720:=0,tw5814315083309572105:=0,tw4083461724236383972:=0,tw947946182177579150:=0,tw14622810352663023623:=0,tw18005095337401362574:=0,tw9631673633805486615:=0,tw5056150551215983833:=0,tw3482263258808867120:=0,tw7846394922117658614:=0,tw1683953331981799240:=0,tw15036715624015420263:=0,tw11392423333404445674:=0,tw11188696807734927170:=0,tw4515793972719020929:=0,tw9841050122698204166:=0,tw6820339871935721869:=0,tw1104991834825330734:=0,tw2937980602613737915:=0,tw5685691552745955411:=0,tw14652730727754600068:=0,tw14616454348093307621:=0,tw2709190199949182622:=0,tw1855554516658367266:=0,tw9443006521442803806:=0,tw5036984374010144951:=0,tw4490596162895940089:=0,tw478252364154783803:=0,tw16617323406306441059:=0,tw9346077857928258487:=0,tw7238861601258266456:=0,tw11456039870360160893:=0,tw10413884677301189680:=0,tw7657319764279583730:=0,tw15353877412406052647:=0,tw5211196467242761322:=0,tw1956044427687330805:=0,tw8067469338159935996:=0,tw2232507905987992878:=0,tw9113982512972106087:=0,tw4320312090718418636:=0,tw18309725440022212513:=0,tw9880697988888969667:=0,tw14185096225707198523:=0,tw15094697806849252399:=0,tw9224475640848243587:=0,tw605288657918759883:=0,tw5362378232431212879:=0,tw17788952485475069310:=0,tw17670343891634834604:=0,tw14383672841363189568:=0,tw14167742787009762142:=0,tw7365514794309384699:=0,tw7124943480971650346:=0,tw11632299074310370286:=0,tw773039354816742615:=0,tw2017413111911405308:=0,tw16996367833604094114:=0,tw18233061311014262844:=0,tw16702522021326215638:=0,tw12393327060359426060:=0,tw784902986042178182:=0,tw16277632896619817848:=0,tw16330987248006839416:=0,tw10128651364004752474:=0,tw10347029896650748390:=0,tw18292723272612891277:=0,tw4376290876409008800:=0,tw14838311975773993367:=0,tw16082579625258939775:=0,tw13419425895611374046:=0,tw15561486596113109475:=0,tw1717184338703944482:=0,tw9056464931717537384:=0,tw17901747220154066034:=0,tw9253327989702524877:=0,tw13929183674706678521:=0,tw1525877199310353490:=0,tw4434365394547295510:=0,tw655538579205045448:=0,tw15010273298816517857:=0,tw8310389489645996736:=0,tw2568364462017987047:=0,tw5997844221558890211:=0,tw3299761938574100766:=0,tw9278977899360216459:=0,tw3775503435318742586:=0,tw17959390965814627185:=0,tw17509282819537614017:=0,tw10057755992957509749:=0,tw5392559765766767862:=0,tw127677923395044833:=0,tw17177535014989172407:=0,tw1165367129754620389:=0,tw8343357052724352858:=0,tw511717509556400742:=0,tw10216155713695502837:=0,tw1530177126484602870:=0,tw16337161076114975764:=0,tw15876927351801852533:=0,tw13787729758610460134:=0,tw4554056107653562952:=0,tw3352495370421945036:=0,tw15320542094883034543:=0,tw5396398332808203695:=0,tw17294171394578981648:=0,tw7884636355976765652:=0,tw7237020057282916260:=0,tw7079329797635880353:=0,tw17637984870619718522:=0,tw16303785245838968966:=0,tw17219539592084025301:=0,tw10547576536170780977:=0,tw17838091926979696149:=0,tw4300597425909523068:=0,tw14912118394367019670:=0,tw16449275060690895766:=0,tw1954721625940344106:=0,tw8500709548417178483:=0,tw9375198988952372811:=0,tw5611253820980070674:=0,tw11264685024720405886:=0,tw12684382000543330506:=0,tw7579100380540391255:=0,tw1046737765052074757:=0,tw10081770930286212179:=0,tw1406467479545523033:=0,tw17436315127127423844:=0,tw6981031160359492349:=0,tw745979279146182901:=0,tw12093156329863984250:=0,tw3955238119968022569:=0,tw16205802752757234192:=0,tw12642977851262067124:=0,tw10588132829513669431:=0,tw15543038031971482393:=0,tw18390100631196213808:=0,tw3649622430499327728:=0,tw16207032230019208490:=0,tw3382734188539246471:=0,tw15040985337961746059:=0,tw13134518773091471410:=0,tw16185549764462250023:=0,tw12966243067428362177:=0,tw11554123112097777196:=0,tw6924541489248103644:=0,tw10682927020626538200:=0,tw920104235295245673:=0,tw9990429963208818844:=0,tw7232106019388841722:=0,tw12838085352102528984:=0,tw7702177056291229459:=0,tw124241494808493140:=0,tw13182856756491748731:=0,tw10902654331977046800:=0,tw1830383729253539451:=0,tw12430631041787143396:=0,tw1551568198589151645:=0,tw12975256354618631851:=0,tw17595113847400559920:=0,tw13092131032464039163:=0,tw9606437438372649964:=0,tw6582792924026476962:=0,tw1210466195291638190:=0,tw9863767736917510575:=0,tw7627113391422054458:=0,tw16342716888528387610:=0,tw6583239348444503737:=0,tw5461207655186012710:=0,tw3904665964618580081:=0,tw1220491749252169333:=0,tw11810061117448874876:=0,tw17402810634902973102:=0,tw12347320590732695693:=0,tw13835460389048898172:=0,tw7325308576886848991:=0,tw10201901563543959932:=0,tw12708614115122149651:=0,tw6277682804898429900:=0,tw10102179466249471500:=0,tw753630981014849759:=0,tw4939466959840895027:=0,tw6185166993381836909:=0,tw5927736240079947703:=0,tw10820824163449854984:=0,tw4477160171324469804:=0,tw4498765863096556873:=0,tw2885534183012668775:=0,tw6152329146525671954:=0,tw690755071703941891:=0,tw6639201902454561367:=0,tw1439191070480053966:=0,tw3059496638475649448:=0,tw2271828704209560319:=0,tw7933704873984557175:=0,tw11145731459414102920:=0,tw9624780477229807400:=0,tw13961568210299924005:=0,tw1846561301544981235:=0,tw601042583199421302:=0,tw2786922746584196775:=0,tw9520954268608355377:=0,tw12279613512241952316:=0,tw12577378604830677665:=0,tw2280002545219375797:=0,tw14134896895393520118:=0,tw15873958689426710136:=0,tw3053008217882512692:=0,tw16738477663575552038:=0,tw5849174279425977276:=0,tw6722561059980423308:=0,tw5887736791723930600:=0,tw5837967451404109826:=0,tw12959631106648944468:=0,tw12680184166588061570:=0,tw3457975079512755557:=0,tw6983379067266495359:=0,tw15184016574703403917:=0,tw8855753228076424198:=0,tw14487748308515688890:=0,tw1433638468926025923:=0,tw3313673553136025061:=0,tw2609821053930743534:=0,tw14979317700204535282:=0,tw14854665811156566033:=0,tw8586934178753451575:=0,tw16149022617131406258:=0,tw6928074052209396555:=0,tw13682160782277193023:=0,tw16999100709227439596:=0,tw10603523788829232638:=0,tw2698121316937613127:=0,tw17031797970468603944:=0,tw8045461000232168804:=0,tw3966519798646182630:=0,tw16304600777934516980:=0,tw17861054472357917789:=0,tw13455917660798275955:=0,tw13833955641718899902:=0,tw5243832450207009968:=0,tw11923722604625851406:=0,tw13406501304472606989:=0,tw9501451129231780359:=0,tw17623752903186946468:=0,tw5276604224928517341:=0,tw11533630115461932557:=0,tw14493478685882074023:=0,tw11925852400708886785:=0,tw14800158100146101203:=0,tw1120456019066667941:=0,tw5111217267084079693:=0,tw10240995841547614453:=0,tw5738502711161791061:=0,tw10937851654596083313:=0,tw7148899169331638620:=0,tw11933684123971452295:=0,tw4933561120268076463:=0,tw17042932939431147716:=0,tw14894578783472651826:=0,tw13687690712961158510:=0,tw14986556229495250057:=0,tw15707528959816473285:=0,tw13693768260938507295:=0,tw6508035211124018623:=0,tw14559813323761332835:=0,tw7318243527187292626:=0,tw715944431731983816:=0,tw6952647216393532110:=0,tw4066884950954961244:=0,tw3537293919010090659:=0,tw15656936110363470987:=0,tw16906302843085268619:=0,tw13718167806681023057:=0,tw7627901831015642613:=0,tw1237477230335566639:=0,tw11535950679795737674:=0,tw9479927573991879737:=0,tw9620543203454524467:=0,tw12393268018066215389:=0,tw15580642267246235535:=0,tw17824490183588328366:=0,tw8979750986102204189:=0,tw16631625775007436680:=0,tw791248961424621185:=0,tw75079207141763661:=0,tw4182004463263930376:=0,tw10703267374716871029:=0,tw15120828575735454196:=0,tw788131486395240430:=0,tw5190937862363767872:=0,tw9185233402738144165:=0,tw188738211779083280:=0,tw8261924141318773069:=0,tw12395336729260088591:=0,tw11514272817331133441:=0,tw5026337937829780583:=0,tw9131876462949695401:=0,tw10052525559648972170:=0,tw13951737524557061580:=0,tw18197278677803624042:=0,tw16516898069739421836:=0,tw14689385520392478629:=0,tw12497585168030697467:=0,tw2301962325196920499:=0,tw6131517697640110355:=0,tw14989514697593508193:=0,tw17434303737436706903:=0,tw7920748320985118740:=0,tw2996655786383423658:=0,tw3145156945018178641:=0,tw17904639706294557063:=0,tw6291541648395705715:=0,tw9501359466251388258:=0,tw13766863943877416128:=0,tw4386830253183006147:=0,tw3619587218661839498:=0,tw16785869205017666503:=0,tw15813517748629228154:=0,tw8774179555108587508:=0,tw11350510897525451751:=0,tw17556644192311640862:=0,tw6291952521501488644:=0,tw6112889452882910130:=0,tw5584811163569854252:=0,tw13475273013811377173:=0,tw16862579235912462449:=0,tw5180368923157527807:=0,tw14930163853853151677:=0,tw6174427963932833247:=0,tw12164887105087489659:=0,tw471996218449024293:=0,tw7856998889931710419:=0,tw12088970439886192040:=0,tw16934159092694942968:=0,tw6795636420912421490:=0,tw12637361204300351978:=0,tw10585514875581872774:=0,tw12185453173120765508:=0,tw17678541218237183105:=0,tw15318894976357313281:=0,tw11974616611922154113:=0,tw3706726807466263344:=0,tw168000795534165953:=0,tw13799625116797521398:=0,tw2975127823518114986:=0,tw3970303191309432271:=0,tw6602633794727313476:=0,tw14593050864207962378:=0,tw7229934835655811978:=0,tw11339303091973873453:=0,tw1752545533940126189:=0,tw5849130680530931125:=0,tw5130619615420042381:=0,tw1784797310646223357:=0,tw8817219210555556736:=0,tw15778320304896548995:=0,tw17254713991973631943:=0,tw16879392512147850869:=0,tw14733157435711976914:=0,tw7993005163873871050:=0,tw14688846736254731412:=0,tw5353635995123147828:=0,tw10047939661685188940:=0,tw7576707075201114892:=0,tw5164105493614039492:=0,tw6050227938984170588:=0,tw567487534324543746:=0,tw12416376289555939781:=0,tw2266096245430328013:=0,tw15987196539894356154:=0,tw10788961729753038880:=0,tw17236845090277267649:=0,tw14678655351079450703:=0,tw7496618960999322201:=0,tw11270367597212762965:=0,tw1418772563996281125:=0,tw4322192715004979530:=0,tw15337809618095748872:=0,tw2428198980945968343:=0,tw3084628664334908670:=0,tw5111560227928793427:=0,tw1023916245653241407:=0,tw12647444005472819136:=0,tw2046318044511476097:=0,tw5422275424414556743:=0,tw14996730012906370412:=0,tw2741662802102380899:=0,tw15101147546773153535:=0,tw9392235145955004428:=0,tw15107238375704223564:=0,tw14011246529380737770:=0,tw5052866968670008102:=0,tw6170087999198313108:=0,tw7099094274777934173:=0,tw3077336807666721033:=0,tw13014816448760761430:=0,tw7645448036625593429:=0,tw11375177598663550264:=0,tw11652846151143735891:=0,tw4335824602483825018:=0,tw4151268180926949818:=0,tw1131625039901166875:=0,tw3992018736276335443:=0,tw2470508669594001345:=0,tw3839613644847064465:=0,tw10821545585436808956:=0,tw4781017947871578201:=0,tw13938859074228356494:=0,tw8639647433302017797:=0,tw14951831131310573745:=0,tw3431287591187977446:=0,tw17585283278267272117:=0,tw4916172755709866606:=0,tw15653602560752743079:=0,tw7464038458786027461:=0,tw5741350087760366688:=0,tw16163252628116798897:=0,tw11577132303205827568:=0,tw2159687934452164229:=0,tw10543172341599590951:=0,tw3366485492190435525:=0,tw16187236441995313667:=0,tw12121323303226159088:=0,tw2958706648433020826:=0,tw12456021930451255826:=0,tw11345780764549534750:=0,tw1941906921336742347:=0,tw7934234396713572866:=0,tw9213749837519707663:=0,tw9473048691239849739:=0,tw4245592972313089570:=0,tw17448867193270324411:=0,tw2963412654802244869:=0,tw16743712737487969361:=0,tw12545653159119707801:=0,tw17672517854707907143:=0,tw8435141248225451281:=0,tw13084691214692792494:=0,tw4682172705480144532:=0,tw16108532203485503161:=0,tw3099319411576524316:=0,tw7124405476527202366:=0,tw6427860136753605614:=0,tw17700126710082748930:=0,tw8234798524427304094:=0,tw4965905756085180110:=0,tw16293700323444391835:=0,tw13036779423879387452:=0,tw8474912220349790320:=0,tw9693626255471354939:=0,tw14406450074733377852:=0,tw13523668929672618672:=0,tw11668780758889405113:=0,tw8692739970719709657:=0,tw5133039147066262340:=0,tw16848796427710427519:=0,tw9114690577716553164:=0,tw10317578066038345025:=0,tw15578432831516025598:=0,tw10485486663464494079:=0,tw7472156606203419080:=0,tw4606906186627929859:=0,tw1626181874043773875:=0,tw15655477155907125622:=0,tw10307406351620457879:=0,tw5132052349115866001:=0,tw1677186667777902804:=0,tw10782713434952757316:=0,tw12545935328826112355:=0,tw11077836541808159787:=0,tw4791297449926847713:=0,tw13544083102324119110:=0,tw3341894997629181113:=0,tw5309999803630708220:=0,tw238568135459290771:=0,tw6245566170469204215:=0,tw15207606253076329390:=0,tw3877349963498267841:=0,tw15266351628947950142:=0,tw15586147522025347578:=0,tw2359334948497703925:=0,tw16447337218786780315:=0,tw13721007137195666487:=0,tw1332171305425825535:=0,tw1386657891870774223:=0;0
section
open PySem PySem.W PyProof.Rows
set_option maxRecDepth 100000 in
set_option maxHeartbeats 0 in
open_top PySem.Challenge.K34hd for PySem.Challenge.rw_nolocktree_k34_levels_and_pairs
end
open PySem.Around (under_plainId)
open Array (length_toList)
open Bool (and_eq_true)
open PySem.Builtin.List (listItems listLengthHint listSameRef listTooLong listTouch)
open PySem.Builtin.SmallTypes (nextOf)
open PySem.Code (cUnits isFrame)
open Decidable (byContradiction)
open PySem.Heap (get?_push_at get?_push_of_some get?_push_size get?_update_ne get?_update_other get?_update_self lt_size size_update)
open Int (natCast_nonneg toNat toNat_natCast zero_add)
open List (all_cons all_eq_true any_cons any_eq_true append_nil filterMap_cons filter_append filter_congr filter_cons filter_cons_of_neg filter_cons_of_pos filter_eq_self filter_map filter_nil find?_cons flatMap_append flatten_append getD_eq_getElem?_getD getElem?_append_left getElem?_append_right getElem?_eq_getElem getElem?_map getElem?_zip_eq_some getElem_mem length_append length_cons length_drop length_filter_le length_map length_nil length_pos_iff length_range length_replicate length_set length_take length_zip lookup_cons map_append map_cons map_drop map_id' map_map map_nil map_take mem_append mem_append_left mem_append_right mem_cons mem_cons_of_mem mem_cons_self mem_filter mem_filterMap mem_flatMap mem_map mem_of_getElem? mem_of_mem_drop mem_of_mem_take mem_range mem_singleton nodup_append nodup_cons not_mem_nil of_mem_zip pairwise_append pairwise_cons perm_middle range_succ replicate size_toArray take_add_one take_append_drop take_length take_of_length_le take_succ take_zero)
open Nat (le_of_eq le_succ le_trans lt_irrefl lt_of_lt_of_le lt_or_ge lt_succ_of_lt lt_succ_self min_self ne_of_gt not_lt_zero sub_self succ_le_succ zero_le)
open PySem.Obj (mapFields mapSeq)
open Option (bind_some getD_none isSome_iff_exists isSome_map map_eq_some_iff map_some)
open PyProof.Rows (iadd_int step_any step_dedup)
open PySem.F (plainAttrs_dict plainAttrs_list plain_extend_loop slot_NoneType_hash slot_list_clear slot_list_extend slot_list_index type_list_clear type_list_extend type_list_index)
open PySem.W (callWith_K callWith_K0 emptyDict findCls handedIn instObj kitMeta kitx_bool kitx_dict kitx_int kitx_list kitx_none kitx_str kitx_tuple lookIn makesIn methodCall_KW methodObj mg_none_of plainGet plainGet_of plainOver readsIn takerIn)
open PySem.Value (bytes ellipsis float isInt_shape type)
open PySem.W (Frag findIn kitOne mroIn clsIn keepIn fnOf mg_of nsIn typeIn specialIn hasDictIn isFn codeIn kitAny takesIn subIn kia_one InstAt looks_mroIn looks_findIn)
set_option maxHeartbeats 2000000
set_option Elab.async false
set_option linter.all false
set_option maxRecDepth 100000
open PySem
variable {XP:(Str->Option Value)->Heap->Prop}{C L T a b d dc df dk du dx f fI i1 i2 it l1 l2 q sl z:Addr}{CP N N':Addr->Prop}{A:Around}{osl:Array (Option Value)}{items its:Array Value}{bb expr tp:Bool}{op op':CmpOp}{env:Env}{PUT:Env->Addr->(Shared->Prop)->(Value->Shared->Prop)->Shared->Prop}{c ce e e4 elt iter iter2 kx l' target tg value vx:Expr}{fd:FuncData}{base h h' h2:Heap}{lo:Int}{pins pins':List (Addr×Obj)}{kw:List (Str×Value)}{as as' ch ex fp ts:List Addr}{gs:List Comprehension}{outer:List Env}{elts es es' ifs ifs2:List Expr}{ms ns:List Int}{js:List Nat}{body:List Stmt}{Nf ks loose ps:List Str}{ds its' ws:List Value}{M:Model}{d' ep i j k0 kk ktg n n1 n2 t':Nat}{St1 St2:Nat->Heap->Prop}{P1 P2:Nat->Value->Prop}{ob:Obj}{an ar od:Option Addr}{apos cpos p p' p2 pos' ptg px px' py spos tpos xp:Pos}{P prog:Program}{B:Prop}{K:Frag}{R:Result->Shared->Prop}{sc scope:Scope}{pl:Sem Bool}{newAcc:Sem Value}{s s' s₂:Shared}{st:Stmt}{cn m name nm qual x x':Str}{kindOf:Str->Option NameKind}{mA mg:Str->Option Value}{acc cd cdv doc f0 f1 oc pm u vl vu:Value}{E Q xe:Value->Shared->Prop}{w:World}{YP:World->Heap->Prop}
def aa:=@getElem?_eq_getElem
def ac:=@wpAny_bind
def af:=@length_map
def am:=@length_append
def aq:=@List.getElem?_eq_some_iff
def au:=@mem_singleton
def av:=@decide_eq_true
def aw:=@Option.some.inj
def ay:=@Bool.false_ne_true
def az:=@get?_push_of_some
def aA:=@if_neg
def aB:=@getElem?_map
def aE:=@Nat.le_refl
def aF:=@decide_eq_false
def aG:=@wpAny_pure
def aH:=@if_pos
def aJ:=@size_toArray
def aK:=@mem_of_getElem?
def aM:=@getElem?_append_right
def aN:=@getElem?_append_left
def aO:=@List.append_assoc
def aP:=@Nat.ne_of_lt
def aT:=@mem_append
def aU:=@mem_append_right
def aV:=@get?_push_size
def aW:=@map_append
def aX:=@plainAttrs_list
def aY:=@absurd
def aZ:=@lt_size
def ba:=@lt_of_lt_of_le
def bf:=@length_cons
def bh:=@le_trans
def bm:=@mem_cons
def bo:=@length_take
def bq:=@congrArg
def br:=@mem_cons_of_mem
def bt:=@map_eq_some_iff
def bv:=@wpAny_holding
def bB:=@of_decide_eq_true
def bC:=@mem_map
def bD:=@List.getElem_of_mem
def bE:=@mem_append_left
def bF:=@length_filter_le
def bH:=@map_cons
def bI:=@wpAny_mono
def bJ:=@nodup_cons
def bL:=@get?_update_ne
def bM:=@Ne.symm
def bO:=@length_drop
def bP:=@getD_eq_getElem?_getD
def bR:=@get?_update_self
def bW:=@nodup_append
def bY:=@mem_cons_self
def bZ:=@mem_filter
def b_:=@append_nil
def cj:=@Heap.size_push
def dY:=@Nat.le_of_lt
def mw:=@not_mem_nil
def xR:=@length_nil
namespace L2
open PySem PySem.Spec PyProof.Rows
abbrev Key:=Sum Int Str
def ja:Key->Value->Bool
 | .inl k,v=>Value.isInt k v
 | .inr x,v=>Value.isStrOf x v
def BN (w:World):Key->Int
 | .inl k=>hashInt k
 | .inr x=>hashStr w x
theorem cu:∀{k:Key} {v:Value},ja k v=true->(∃i t,k=Sum.inl i/\v=Value.int i t)\/(∃x t,k=Sum.inr x/\v=Value.str x t)
 | .inl i,v,h=>by
  obtain⟨t,e⟩:=isInt_shape (k:=i) (v:=v) h;exact .inl ⟨i,t,rfl,e⟩
 | .inr x,v,h=>by
  obtain⟨t,e⟩:=Value.isStrOf_shape (x:=x) (v:=v) h;exact .inr ⟨x,t,rfl,e⟩
theorem sW (i:Int)(t:Tok):ja (.inl i) (.int i t)=true:=by simp[ja,Value.isInt]
theorem sV (x:Str)(t:Tok):ja (.inr x) (.str x t)=true:=by simp[ja,Value.isStrOf]
theorem zt (a b:Int):decide ((Sum.inl a:Key)=Sum.inl b)=(a==b):=by
 by_cases e:a=b
 ·subst e;simp
 ·have h:¬(Sum.inl a:Key)=Sum.inl b:=fun q=>e (Sum.inl.inj q);rw[aF h];exact(beq_eq_false_iff_ne.mpr e).symm
theorem zk (a b:Str):decide ((Sum.inr a:Key)=Sum.inr b)=decide (a=b):=by
 by_cases e:a=b
 ·subst e;simp
 ·have h:¬(Sum.inr a:Key)=Sum.inr b:=fun q=>e (Sum.inr.inj q);rw[aF h,aF e]
theorem zn (a:Int)(b:Str):decide ((Sum.inl a:Key)=Sum.inr b)=false:=aF (fun q=>nomatch q)
theorem zm (a:Str)(b:Int):decide ((Sum.inr a:Key)=Sum.inl b)=false:=aF (fun q=>nomatch q)
def bX (prog:Program)(w:World):PySem.KeyKind prog w Key where
 is:=ja
 hash:=BN w
 inj:=fun v a b ha hb=>by
  rcases cu ha with⟨i,t,rfl,rfl⟩|⟨x,t,rfl,rfl⟩
  ·rcases cu hb with⟨j,u,rfl,e⟩|⟨y,u,rfl,e⟩
   ·injection e with e1 _;rw[e1]
   ·exact nomatch e
  ·rcases cu hb with⟨j,u,rfl,e⟩|⟨y,u,rfl,e⟩
   ·exact nomatch e
   ·injection e with e1 _;rw[e1]
 byValue:=fun k v h=>by
  rcases cu h with⟨i,t,rfl,rfl⟩|⟨x,t,rfl,rfl⟩<;>rfl
 pyHash:=fun hv h=>by
  rcases cu hv with⟨i,t,rfl,rfl⟩|⟨x,t,rfl,rfl⟩
  ·exact wpAny_pyHash_int h
  ·exact wpAny_pyHash_str h
 eqBool:=fun hu hv h=>by
  rcases cu hu with⟨i,t,rfl,rfl⟩|⟨x,t,rfl,rfl⟩
  ·rcases cu hv with⟨j,u,rfl,rfl⟩|⟨y,u,rfl,rfl⟩
   ·rw[zt] at h;exact wpAny_eqBool_int h
   ·rw[zn] at h;exact SeqAt.EqAt.int_str i t y u _ _ _ _ h
  ·rcases cu hv with⟨j,u,rfl,rfl⟩|⟨y,u,rfl,rfl⟩
   ·rw[zm] at h;exact SeqAt.EqAt.str_int x t j u _ _ _ _ h
   ·rw[zk] at h;exact wpAny_eqBool_str h
 «strs»:=fun k x t v h=>by
  rcases cu h with⟨i,u,rfl,e⟩|⟨y,u,rfl,e⟩
  ·exact nomatch e
  ·injection e with e1 _;subst e1;cases v<;>rfl
theorem eU (prog:Program)(w:World)(k:Key)(v:Value):(bX prog w).is k v=ja k v:=rfl
theorem oK (prog:Program)(w:World)(i:Int)(t:Tok):(bX prog w).is (.inl i) (.int i t)=true:=sW i t
theorem oJ (prog:Program)(w:World)(x:Str)(t:Tok):(bX prog w).is (.inr x) (.str x t)=true:=sV x t
inductive V where
 | non|bl (b:Bool)|int (i:Int)|str (x:Str)|byt (b:Array UInt8)|flt (b:UInt64)|ref (a:Addr)|ty (n:String)
 deriving DecidableEq
variable {v y:L2.V}{kvs:List (L2.Key×L2.V)}{dvs vs xs ys zs:List L2.V}
def cW:V->Value->Prop
 | .non,u=>u=Value.none
 | .bl b,u=>u=Value.bool b
 | .int i,u=>∃t,u=Value.int i t
 | .str x,u=>∃t,u=Value.str x t
 | .byt b,u=>∃t,u=bytes b t
 | .flt b,u=>∃t,u=float b t
 | .ref a,u=>u=Value.ref a
 | .ty n,u=>u=type n
abbrev cU:List V->List Value->Prop:=Paired cW
theorem cU.length {us:List Value}(r:cU xs us):xs.length=us.length:=Paired.length r
theorem cU.get:∀{xs:List V} {us:List Value} {i:Nat} {x:V},cU xs us->xs[i]?=some x->∃u,us[i]?=some u/\cW x u
 | _,_,_,_,.nil,e=>by simp at e
 | _,_,0,_,.cons r _,e=>by simp at e;subst e;exact⟨_,rfl,r⟩
 | _,_,i+1,x,.cons _ t,e=>by
  obtain⟨u,h1,h2⟩:=cU.get (i:=i) (x:=x) t (by simpa using e);exact⟨u,by simpa using h1,h2⟩
theorem cU.set {x:V}{u:Value}(r:cW x u):∀{xs:List V} {us:List Value} (i:Nat),cU xs us->cU (xs.set i x) (us.set i u)
 | _,_,_,.nil=>.nil
 | _,_,0,.cons _ t=>.cons r t
 | _,_,i+1,.cons q t=>.cons q (cU.set r i t)
theorem cU.append:∀{xs ys:List V} {us ws:List Value},cU xs us->cU ys ws->cU (xs++ys) (us++ws)
 | _,_,_,_,.nil,s=>s
 | _,_,_,_,.cons r t,s=>.cons r (cU.append t s)
theorem cU.take:∀{xs:List V} {us:List Value} (n:Nat),cU xs us->cU (xs.take n) (us.take n)
 | _,_,0,_=>.nil
 | _,_,_+1,.nil=>.nil
 | _,_,n+1,.cons r t=>.cons r (cU.take n t)
theorem cU.drop:∀{xs:List V} {us:List Value} (n:Nat),cU xs us->cU (xs.drop n) (us.drop n)
 | _,_,0,r=>r
 | _,_,_+1,.nil=>.nil
 | _,_,n+1,.cons _ t=>cU.drop n t
def nY:Option V->Option Value->Prop
 | some v,some u=>cW v u
 | none,none=>True
 | _,_=>False
def KV {κ:Type}:List (κ×V)->List (κ×Value)->Prop:=Paired fun(p:κ×V) (q:κ×Value)=>p.1=q.1/\cW p.2 q.2
def kV:Key->V
 | .inl i=>.int i
 | .inr x=>.str x
inductive HO where
 /-- a list -/
 | lst (xs:List V)
 /-- a tuple (never changes) -/
 | tup (xs:List V)
 /-- a dict whose keys are ints and texts; one whose keys are tuples of ints and texts (the empty one is both) -/
 | dK (kvs:List (Key×V))|dT (kvs:List (List Key×V))
 /-- a set of ints: its members, its size -/
 | set (S:Int->Bool) (n:Nat)
 /-- an instance of the class at C, its dict at dx, its attributes -/
 | ins (C dx:Addr) (fs:List (Str×V))
 /-- the dict of the instance at x -/
 | own (x:Addr)
 /-- the dict of an exception -/
 | xd (fs:List (Str×V))
 /-- a bound method, f of x -/
 | met (f x:Addr)
 /-- a range object lo, lo + 1, .. below hi -/
 | rng (lo hi:Int)
 /-- a thing that is known to the object (the script; a dict while a loop walks it): read, never written while it is so -/
 | frz (o:Obj) (u:HO)
 /-- a code object's table -/
 | tbl (ps:Array Value)
 /-- any other thing, by what is true of its one object (a def of one's own: SetO a S n := HO.ext fun h => ..) -/
 | ext (φ:Heap->Prop)
variable {o o0:L2.HO}
abbrev Hp:=Addr->Option HO
variable {H H' H1 H2 H₂ h1:L2.Hp}{Z:L2.V->L2.Hp->(List (Option L2.V)->Prop)->Prop}
def upd (H:Hp)(a:Addr)(o:HO):Hp:=fun b=>if b=a then some o else H b
theorem ae:upd H a o a=some o:=by unfold upd;rw[aH rfl]
theorem ak (h:b≠a):upd H a o b=H b:=by unfold upd;rw[aA h]
theorem cJ {u}(h:H a=some o)(h':H b=some u)(d:o≠u):a≠b:=by
 intro e;subst e;rw[h] at h';exact d (aw h')
theorem ah (h:H a=some o)(h':H b=none):a≠b:=by
 intro e;subst e;rw[h] at h';cases h'
theorem kC {xs:Array Value}:∀o,(h.push { cls:=.type "tuple",data:=.seq xs }).get? h.objs.size=some o->o.dict=none:=fun o e=>by
 rw[aV _ rfl] at e;cases e;rfl
section
variable (P:Program)(w:World)
def cE (H:Hp)(h:Heap)(a:Addr):HO->Prop
 | .lst xs=>xs.length<=sizeLine/\∃(its:List Value) (n:Nat),cU xs its/\h.get? a=some { cls:=.type "list",data:=.seq its.toArray n }
 | .tup xs=>xs.length<=sizeLine/\∃its:List Value,cU xs its/\IsTup h a its.toArray/\∀o,h.get? a=some o->o.dict=none
 | .dK kvs=>kvs.length<=sizeLine/\(a==sysModules)=false/\∃vs,KV kvs vs/\h.DictOf (bX P w) a vs
 | .dT kvs=>kvs.length<=sizeLine/\(a==sysModules)=false/\∃xs:List (List Key×Addr×Value),
   Paired (fun(p:List Key×V) (q:List Key×Addr×Value)=>p.1=q.1/\H q.2.1=some (.tup (p.1.map kV))/\cW p.2 q.2.2) kvs xs /\
   ∃o es ep,h.get? a=some o/\o.ExactDict/\o.data=.dict es ep/\es.toList=xs.map (entryOfKey (tupleKind (bX P w)))/\(xs.map (·.1)).Nodup
 | .set S n=>h.SetOf (intKind P w) a S n
 | .ins C dx fs=>H dx=some (.own a)/\fs.length<=1000/\dx≠a/\h.get? a=some (instObj C dx) /\
   ∃mA,h.Ns1 dx mA/\(∀f,nY (fs.lookup f) (mA f))/\PySem.Within mA (fs.map (·.1))
 | .own _=>∃o,h.get? a=some o
 | .xd fs=>∃mA,h.Ns1 a mA/\∀f,nY (fs.lookup f) (mA f)
 | .rng lo hi=>∃t u v,h.get? a=some { cls:=.type "range",data:=.fields #[.int lo t,.int hi u,.int 1 v] }
 | .frz o u=>h.get? a=some o/\cE H h a u
 | .tbl ps=>h.get? a=some { cls:=.none,data:=.fields ps }
 | .met f x=>h.get? a=some (methodObj (.ref f) (.ref x))
 | .ext φ=>φ h/\(∃o,h.get? a=some o)/\∀h1 h2:Heap,φ h1->(∀o,h1.get? a=some o->h2.get? a=some o)->φ h2
def HOk (H:Hp)(h:Heap):Prop:=∀a o,H a=some o->cE P w H h a o
end
section
theorem cE.lt (x:cE P w H h a o):a<h.objs.size:=by
 cases o with
 | lst xs=>obtain⟨_,_,_,_,e⟩:=x;exact aZ e
 | tup xs=>obtain⟨_,_,_,p,_⟩:=x;exact p.lt
 | dK kvs=>obtain⟨_,_,_,_,o,_,_,e,_⟩:=x;exact aZ e
 | dT kvs=>obtain⟨_,_,_,_,o,_,_,e,_⟩:=x;exact aZ e
 | set S n=>obtain⟨o,_,_,_,e,_⟩:=x;exact aZ e
 | ins C dx fs=>obtain⟨_,_,_,e,_⟩:=x;exact aZ e
 | own y=>obtain⟨_,e⟩:=x;exact aZ e
 | xd fs=>obtain⟨_,⟨_,_,_,e,_⟩,_⟩:=x;exact aZ e
 | rng lo hi=>obtain⟨_,_,_,e⟩:=x;exact aZ e
 | frz ob u=>obtain⟨e,_⟩:=x;exact aZ e
 | tbl ps=>exact aZ (show h.get? a=some _ from x)
 | met f y=>exact aZ (show h.get? a=some _ from x)
 | ext φ=>obtain⟨_,⟨_,e⟩,_⟩:=x;exact aZ e
theorem Paired.mapP {α β:Type}{F G:α->β->Prop}:∀{l₁:List α} {l₂:List β},Paired F l₁ l₂->(∀a b,F a b->G a b)->Paired G l₁ l₂
 | _,_,.nil,_=>.nil
 | _,_,.cons r t,f=>.cons (f _ _ r) (Paired.mapP t f)
theorem cE.stay (x:cE P w H h a o)(k:∀b u,(b=a\/H b=some (.own a))->h.get? b=some u->h'.get? b=some u)
  (ho:∀b,H b=some (.own a)->H' b=some (.own a)) (ht:∀b xs,H b=some (.tup xs)->H' b=some (.tup xs)):cE P w H' h' a o:=by
 induction o with
 | lst xs=>obtain⟨z,its,n,r,e⟩:=x;exact⟨z,its,n,r,k _ _ (.inl rfl) e⟩
 | tup xs=>
  obtain⟨z,its,r,⟨ob,e,c⟩,dn⟩:=x;have e2:=k _ _ (.inl rfl) e;exact⟨z,its,r,⟨ob,e2,c⟩,fun o q=>by rw[e2] at q;cases q;exact dn _ e⟩
 | dK kvs=>obtain⟨z,y,vs,r,ob,es,ep,e,c⟩:=x;exact⟨z,y,vs,r,ob,es,ep,k _ _ (.inl rfl) e,c⟩
 | dT kvs=>
  obtain⟨z,y,xs,r,ob,es,ep,e,c⟩:=x;exact⟨z,y,xs,Paired.mapP r fun p q z=>⟨z.1,ht _ _ z.2.1,z.2.2⟩,ob,es,ep,k _ _ (.inl rfl) e,c⟩
 | set S n=>obtain⟨ob,es,ep,t,e,c⟩:=x;exact⟨ob,es,ep,t,k _ _ (.inl rfl) e,c⟩
 | ins C dx fs=>
  obtain⟨d,z,ne,e,mA,⟨od,es,ep,e2,c⟩,r⟩:=x;exact⟨ho _ d,z,ne,k _ _ (.inl rfl) e,mA,⟨od,es,ep,k _ _ (.inr d) e2,c⟩,r⟩
 | own y=>obtain⟨ob,e⟩:=x;exact⟨ob,k _ _ (.inl rfl) e⟩
 | xd fs=>obtain⟨mA,⟨od,es,ep,e,c⟩,r⟩:=x;exact⟨mA,⟨od,es,ep,k _ _ (.inl rfl) e,c⟩,r⟩
 | rng lo hi=>obtain⟨t,u,v,e⟩:=x;exact⟨t,u,v,k _ _ (.inl rfl) e⟩
 | frz ob u ih=>obtain⟨e,q⟩:=x;exact⟨k _ _ (.inl rfl) e,ih q⟩
 | tbl ps=>
  have e:h.get? a=some { cls:=.none,data:=.fields ps }:=x;show h'.get? a=some { cls:=.none,data:=.fields ps };exact k a _ (.inl rfl) e
 | met f y=>
  have e:h.get? a=some (methodObj (.ref f) (.ref y)):=x;show h'.get? a=some (methodObj (.ref f) (.ref y));exact k a _ (.inl rfl) e
 | ext φ=>obtain⟨p,⟨o,e⟩,st⟩:=x;exact⟨st _ _ p fun o q=>k _ _ (.inl rfl) q,⟨o,k _ _ (.inl rfl) e⟩,st⟩
theorem HOk.lt (x:HOk P w H h)(e:H a=some o):a<h.objs.size:=(x a o e).lt
theorem HOk.fresh (x:HOk P w H h)(e:h.objs.size<=a):H a=none:=by
 cases q:H a with
 | none=>rfl
 | some u=>exact aY (ba (x.lt q) e) (lt_irrefl _)
theorem HOk.kept (x:HOk P w H h)(k:∀b u,h.get? b=some u->h'.get? b=some u):HOk P w H h':=fun a o e=>
 (x a o e).stay (fun b u _ q=>k b u q) (fun _ q=>q) fun _ _ q=>q
theorem HOk.laid (x:HOk P w H h)(k:∀b u,h.get? b=some u->h'.get? b=some u)(hp:h.objs.size<=a)(new:cE P w (upd H a o) h' a o):HOk P w (upd H a o) h':=fun b u e=>by
 have hn:=x.fresh hp;by_cases hb:b=a
 ·subst hb;rw[ae] at e;cases e;exact new
 ·rw[ak hb] at e;exact(x b u e).stay (fun c v _ q=>k c v q) (fun c q=>by rw[ak (ah q hn)];exact q) fun c xs q=>by rw[ak (ah q hn)];exact q
end
def Rd (H:Hp)(a:Addr)(u:HO):Prop:=H a=some u\/∃o,H a=some (.frz o u)
theorem Rd.ok {u}(r:Rd H a u)(x:HOk P w H h):cE P w H h a u:=by
 rcases r with r|⟨o,r⟩
 ·exact x a u r
 ·obtain⟨_,q⟩:=x a _ r;exact q
def Mut:Option HO->Prop
 | some (.lst _)=>True
 | some (.dK _)=>True
 | some (.dT _)=>True
 | some (.set _ _)=>True
 | some (.ins _ _ _)=>True
 | some (.ext _)=>True
 | _=>False
section
variable {x e:Addr}{o':HO}
theorem HOk.write (ok:HOk P w H h)(mu:Mut (H x))(he:e=x\/H e=some (.own x))(k:∀b u,b≠e->h.get? b=some u->h'.get? b=some u)(heo:∃u,h'.get? e=some u)
  (new:cE P w (upd H x o') h' x o'):HOk P w (upd H x o') h':=fun b u q=>by
 have nown:∀c y,H c=some (.own y)->c≠x:=fun c y r z=>by subst z;rw[r] at mu;exact mu
 have ntup:∀c xs,H c=some (.tup xs)->c≠x:=fun c xs r z=>by subst z;rw[r] at mu;exact mu
 by_cases hb:b=x
 ·subst hb;rw[ae] at q;cases q;exact new
 ·rw[ak hb] at q;by_cases hbe:b=e
  ·have q':H b=some (.own x):=by
    rcases he with z|z
    ·exact aY (hbe.trans z) hb
    ·rw[hbe];exact z
   rw[q] at q';cases q';obtain⟨v,hv⟩:=heo;exact⟨v,by rw[hbe];exact hv⟩
  ·refine(ok b u q).stay (fun c v hc r=>k c v ?_ r) (fun c r=>by rw[ak (nown c b r)];exact r) fun c xs r=>by rw[ak (ntup c xs r)];exact r
   rcases hc with rfl|hc
   ·exact hbe
   ·rintro rfl;rcases he with z|z
    ·exact nown c b hc z
    ·rw[hc] at z;cases z;exact hb rfl
end
structure Un (fs ex:List Addr)(H H':Hp)(h h':Heap):Prop where
 keep:∀b o,h.get? b=some o->H b=none->b∉fs->b∉ex->h'.get? b=some o
 slot:∀b o,h.get? b=some o->H b=none->b∈fs->b∉ex->∃sl,h'.get? b=some { o with slots:=sl }
 free:∀b o,h.get? b=some o->H b=none->b∉ex->H' b=none
 there:∀b o,h.get? b=some o->b∉ex->∃o',h'.get? b=some o'
 tups:∀b xs,H b=some (.tup xs)->H' b=some (.tup xs)
 frzs:∀b o u,H b=some (.frz o u)->H' b=some (.frz o u)
 tbls:∀b ps,H b=some (.tbl ps)->∃more,H' b=some (.tbl (ps++more))
section
variable {fs fs' ex':List Addr}{h1:Heap}{x e:Addr}
theorem Un.any (u:Un fs ex H H1 h h1)(q:h.get? b=some ob)(n:H b=none)(hx:b∉ex):∃sl,h1.get? b=some { ob with slots:=sl }:=by
 by_cases hb:b∈fs
 ·exact u.slot b ob q n hb hx
 ·exact⟨ob.slots,u.keep b ob q n hb hx⟩
theorem Un.kept (k:∀b u,h.get? b=some u->h'.get? b=some u):Un fs ex H H h h':=
 ⟨fun b ob q _ _ _=>k b ob q,fun b ob q _ _ _=>⟨ob.slots,k b ob q⟩,fun _ _ _ n _=>n,fun b ob q _=>⟨ob,k b ob q⟩,fun _ _ q=>q,fun _ _ _ q=>q,fun _ ps q=>⟨#[],by rw[q];simp⟩⟩
theorem Un.refl:Un fs ex H H h h:=Un.kept fun _ _ q=>q
theorem Un.laid (k:∀b u,h.get? b=some u->h'.get? b=some u)(hp:h.objs.size<=a)(hn:H a=none):Un fs ex H (upd H a o) h h' where
 keep:=fun b u q _ _ _=>k b u q
 slot:=fun b u q _ _ _=>⟨u.slots,k b u q⟩
 free:=fun b u q n _=>by rw[ak (aP (ba (aZ q) hp))];exact n
 there:=fun b u q _=>⟨u,k b u q⟩
 tups:=fun b xs q=>by rw[ak (ah q hn)];exact q
 frzs:=fun b u xs q=>by rw[ak (ah q hn)];exact q
 tbls:=fun b ps q=>⟨#[],by rw[ak (ah q hn),q];simp⟩
theorem Un.write (mu:Mut (H x))(he:e=x\/H e=some (.own x))(k:∀b u,b≠e->h.get? b=some u->h'.get? b=some u)(heo:∃u,h'.get? e=some u):Un fs ex H (upd H x o) h h':=by
 have hx:∀b,H b=none->b≠x:=fun b n z=>by subst z;rw[n] at mu;exact mu
 have hb:∀b,H b=none->b≠e:=fun b n z=>by
  subst z;rcases he with r|r
  ·exact hx b n r
  ·rw[n] at r;cases r
 have hm:∀b u,H b=some u->¬Mut (some u)->b≠x:=fun b u q nm z=>by subst z;rw[q] at mu;exact nm mu
 refine⟨fun b u q n _ _=>k b u (hb b n) q,fun b u q n _ _=>⟨u.slots,k b u (hb b n) q⟩,fun b u q n _=>by rw[ak (hx b n)];exact n,fun b u q _=>?_,
  fun b xs q=>by rw[ak (hm b _ q fun z=>z)];exact q,fun b u xs q=>by rw[ak (hm b _ q fun z=>z)];exact q,fun b ps q=>⟨#[],by rw[ak (hm b _ q fun z=>z),q];simp⟩⟩
 by_cases hbe:b=e
 ·subst hbe;exact heo
 ·exact⟨u,k b u hbe q⟩
end
def trk (h:Heap)(H:Hp):List Addr:=(List.range h.objs.size).filter fun a=>(H a).isSome
def vc (h:Heap)(H:Hp):Heap:=PySem.W.hideAll h (trk h H)
theorem tI (h:Heap)(H:Hp):(vc h H).objs.size=h.objs.size:=PySem.W.hideAll_size _ _
theorem vb {o}(e:h.get? b=some o)(n:H b=none):(vc h H).get? b=some o:=
 PySem.W.hideAll_get _ e fun hm=>by
  have q:(H b).isSome=true:=(bZ.mp hm).2;rw[n] at q;simp at q
theorem xc {o}(e:(vc h H).get? b=some o):h.get? b=some o/\H b=none:=by
 have e':h.get? b=some o:=PySem.W.of_hideAll (trk h H) e;refine⟨e',?_⟩;cases q:H b with
 | none=>rfl
 | some x=>
  have hm:b∈trk h H:=bZ.mpr ⟨mem_range.mpr (aZ e'),by simp[q]⟩;have z:(vc h H).get? b=none:=PySem.W.hideAll_none (trk h H) hm;rw[z] at e;cases e
structure Mod (K:Frag)(mg:Str->Option Value)(base:Heap):Prop where
 kin:K.In base
 glob:base.Ns mainGlobals mg
 blt:∃mb,base.Ns builtinsNs mb/\∀x:Str,x ≠ "__name__"->mb x=bootBuiltins x
 nolimit:base.NoLimit
structure Cx where
 prog:Program
 w:World
 K:Frag
 mg:Str->Option Value
 base:Heap
 A:Around
 N:List Str
 s₀:Shared
 H₀:Hp
 env:Env
 outer:List Env
 stack:List Env
 ex:List Addr
 fn:Str->Bool
 calm:Bool
 pn:List (Addr×Obj)
 xe:Value->Shared->Prop
variable {X Y:L2.Cx}
def frs (l:List Env):List Addr:=l.filterMap (·.frame)
abbrev Cx.fs (X:Cx):List Addr:=frs X.outer
def Vis (sc:Scope)(x:Str):Prop:=sc.names.lookup x=some .local\/sc.names.lookup x=some .cell\/sc.names.lookup x=some .free
def Loc (sc:Scope)(x:Str):Prop:=sc.names.lookup x=some .local\/sc.names.lookup x=some .cell
def xV (env:Env)(h:Heap)(m:Str->Option Value)(x:Str)(u:Value):Prop:=
 (env.kindOf x=some .local/\m x=some u)\/((env.kindOf x=some .cell\/env.kindOf x=some .free)/\∃c,env.cells.lookup x=some c/\h.IsCell c (some u))
structure Cx.Ok (X:Cx):Prop where
 mod:Mod X.K X.mg X.base
 kind:X.env.scope.kind=.function
 glob:X.env.globals=mainGlobals
 blt:X.env.builtins=builtinsNs
 above:X.s₀.heap.objs.size<=X.env.locals
 inj:∀x y c,X.env.cells.lookup x=some c->X.env.cells.lookup y=some c->x=y
 has:∀x,(X.env.kindOf x=some .cell\/X.env.kindOf x=some .free)->∃c,X.env.cells.lookup x=some c
 cab:∀x c,X.fn x=true->X.env.cells.lookup x=some c->X.s₀.heap.objs.size<=c
 hd:X.calm=true->X.A.handled=none
 frames:X.A.frames=some X.stack
 stk:X.stack=X.outer\/(X.stack=X.env::X.outer/\X.env.frame=some X.env.locals)
 exf:∀b∈X.ex,b≠X.env.locals/\∀x c,X.env.cells.lookup x=some c->c≠b
 bs:∀b o,X.base.get? b=some o->X.s₀.heap.get? b=some o/\X.H₀ b=none
 bsz:X.base.objs.size<=X.s₀.heap.objs.size
 noex:∀b o,X.base.get? b=some o->b∉X.ex
 exfs:∀b∈X.ex,b∉X.fs
 funs:X.s₀.heap.FunFrames X.base X.outer
 frf:∀b∈X.fs,X.H₀ b=none
structure Inv (X:Cx)(pins:List (Addr×Obj))(σ:List (Option V))(H:Hp)(s:Shared):Prop where
 ok:X.Ok
 os:s.os=X.s₀.os
 bare:AllBare s.gens
 base:Un X.fs X.ex X.H₀ H X.s₀.heap s.heap
 loc:∃m,s.heap.Ns X.env.locals m/\∀(i:Nat) (x:Str) (v:V),X.N[i]?=some x->σ[i]?=some (some v)->Vis X.env.scope x->∃u,cW v u/\xV X.env s.heap m x u
 cell:∀x c,X.env.cells.lookup x=some c->∃v,s.heap.IsCell c v
 free:H X.env.locals=none
 freeC:∀x c,X.env.cells.lookup x=some c->H c=none
 pin:∀p∈X.pn++pins,s.heap.get? p.1=some p.2/\H p.1=none/\p.1≠X.env.locals/\p.1∉X.fs/\∀v,p.2.data≠.cell v
 hok:HOk X.prog X.w H s.heap
 len:σ.length=X.N.length
section
variable {σ:List (Option V)}
theorem Cx.Ok.nofr (ok:X.Ok){o}(e:X.base.get? b=some o):b∉X.fs:=fun hb=>by
 have:=(ok.funs.mem hb).1;rw[e] at this;cases this
theorem Inv.bs (I:Inv X pins σ H s):∀b o,X.base.get? b=some o->s.heap.get? b=some o/\H b=none:=fun b o e=>
 ⟨I.base.keep b o (I.ok.bs b o e).1 (I.ok.bs b o e).2 (I.ok.nofr e) (I.ok.noex b o e),I.base.free b o (I.ok.bs b o e).1 (I.ok.bs b o e).2 (I.ok.noex b o e)⟩
theorem Inv.bk (I:Inv X pins σ H s):∀b o,X.base.get? b=some o->s.heap.get? b=some o:=fun b o e=>(I.bs b o e).1
theorem Inv.mod (I:Inv X pins σ H s):Mod X.K X.mg X.base:=I.ok.mod
theorem Inv.kIn (I:Inv X pins σ H s):X.K.In s.heap:=I.ok.mod.kin.keeps I.bk
theorem Inv.lt (I:Inv X pins σ H s):X.env.locals<s.heap.objs.size:=let⟨_,hn,_⟩:=I.loc;hn.lt
theorem Inv.sz (I:Inv X pins σ H s):X.s₀.heap.objs.size<=s.heap.objs.size:=bh I.ok.above (dY I.lt)
theorem Inv.nofs (I:Inv X pins σ H s)(h:s.heap.objs.size<=a):a∉X.fs:=fun hb=>by
 obtain⟨_,o,ho,_⟩:=I.ok.funs.mem hb;exact aY (ba (aZ ho) (bh I.sz h)) (lt_irrefl _)
theorem Inv.cne (I:Inv X pins σ H s):∀x c,X.env.cells.lookup x=some c->c≠X.env.locals:=fun x c e z=>by
 obtain⟨v,o,ho,hd⟩:=I.cell x c e;obtain⟨m,⟨o',es,ep,ho',hd',_⟩,_⟩:=I.loc;rw[z,ho'] at ho;cases ho;rw[hd'] at hd;cases hd
theorem Inv.funs (I:Inv X pins σ H s):s.heap.FunFrames X.base X.outer:=by
 have all:∀(l:List Env),(∀b∈frs l,b∈X.fs)->X.s₀.heap.FunFrames X.base l->s.heap.FunFrames X.base l:=by
  intro l
  induction l with
  | nil=>intro _ _;trivial
  | cons env r ih=>
   intro hs hl;obtain⟨hk,⟨L,o,hf,hn,ho,hd⟩,hr⟩:=hl;have hL:L∈X.fs:=hs L (by unfold frs;rw[filterMap_cons,hf];exact bY);obtain⟨sl,e⟩:=I.base.slot L o ho (I.ok.frf L hL) hL fun z=>I.ok.exfs L z hL;exact⟨hk,⟨L,_,hf,hn,e,hd⟩,ih (fun b hb=>hs b (by unfold frs;rw[filterMap_cons,hf];exact br _ hb)) hr⟩
 exact all X.outer (fun _ hb=>hb) I.ok.funs
theorem Inv.stack (I:Inv X pins σ H s):s.heap.FunFrames X.base X.stack:=by
 rcases I.ok.stk with e|⟨e,hf⟩
 ·rw[e];exact I.funs
 ·rw[e];obtain⟨m,hn,_⟩:=I.loc;refine .cons (by rw[I.ok.kind];decide) hf hn ?_ I.funs;exact Heap.get?_none_of_le (bh I.ok.bsz I.ok.above)
theorem Inv.stkSub (I:Inv X pins σ H s):∀b∈frs X.stack,b∈X.env.locals::X.fs:=fun b hb=>by
 rcases I.ok.stk with e|⟨e,hf⟩
 ·rw[e] at hb;exact br _ hb
 ·rw[e] at hb;unfold frs at hb;rw[filterMap_cons,hf] at hb;exact hb
theorem Inv.stkFree (I:Inv X pins σ H s):∀b∈frs X.stack,H b=none:=fun b hb=>by
 rcases bm.mp (I.stkSub b hb) with e|hb
 ·rw[e];exact I.free
 ·obtain⟨_,o,ho,_⟩:=I.ok.funs.mem hb;exact I.base.free b o ho (I.ok.frf b hb) fun z=>I.ok.exfs b z hb
theorem Inv.step {g':Array GenState}{t':Nat}{d':Drawn}(I:Inv X pins σ H s)
  (hch:∀b∈ch,(b∈X.ex\/X.s₀.heap.objs.size<=b)/\b≠X.env.locals/\(∀x c,X.env.cells.lookup x=some c->c≠b)/\∀p∈X.pn++pins,p.1≠b)
  (keep:∀b o,b≠X.env.locals->b∉X.fs->b∉ch->s.heap.get? b=some o->H b=none->h'.get? b=some o)
  (slot:∀b o,b≠X.env.locals->b∈X.fs->b∉ch->s.heap.get? b=some o->H b=none->∃sl,h'.get? b=some { o with slots:=sl }) (free:∀b o,b∉ch->s.heap.get? b=some o->H b=none->H' b=none)
  (there:∀b o,b∉ch->s.heap.get? b=some o->∃o',h'.get? b=some o')
  (tups:∀b xs,H b=some (.tup xs)->H' b=some (.tup xs)) (frzs:∀b o u,H b=some (.frz o u)->H' b=some (.frz o u)) (tbls:∀b ps,H b=some (.tbl ps)->∃more,H' b=some (.tbl (ps++more)))
  (ns:∀m,s.heap.Ns X.env.locals m->h'.Ns X.env.locals m) (hok:HOk X.prog X.w H' h') (hg:AllBare g') :
  Inv X pins σ H' { s with heap:=h',gens:=g',drawn:=d',toks:=t' }:=by
 have neL:∀b o,X.s₀.heap.get? b=some o->b≠X.env.locals:=fun b o e=>aP (ba (aZ e) I.ok.above)
 have neC:∀b o,X.s₀.heap.get? b=some o->b∉X.ex->b∉ch:=fun b o e hx hb=>by
  rcases(hch b hb).1 with z|z
  ·exact hx z
  ·exact aY (ba (aZ e) z) (lt_irrefl _)
 have cellK:∀x c,X.env.cells.lookup x=some c->∀v,s.heap.IsCell c v->h'.IsCell c v:=fun x c e v ⟨o,ho,hd⟩=>by
  have nch:c∉ch:=fun z=>(hch c z).2.2.1 x c e rfl;by_cases hc:c∈X.fs
  ·obtain⟨sl,q⟩:=slot c o (I.cne x c e) hc nch ho (I.freeC x c e);exact⟨_,q,hd⟩
  ·exact⟨o,keep c o (I.cne x c e) hc nch ho (I.freeC x c e),hd⟩
 refine⟨I.ok,I.os,hg,⟨fun b o e n hb hx=>?_,fun b o e n hb hx=>?_,fun b o e n hx=>?_,fun b o e hx=>?_,fun b xs e=>tups b xs (I.base.tups b xs e),fun b o xs e=>frzs b o xs (I.base.frzs b o xs e),fun b ps e=>?_⟩,?_,fun x c e=>?_,?_,fun x c e=>?_,fun p hp=>?_,hok,I.len⟩
 ·exact keep b o (neL b o e) hb (neC b o e hx) (I.base.keep b o e n hb hx) (I.base.free b o e n hx)
 ·obtain⟨sl,e1⟩:=I.base.slot b o e n hb hx;obtain⟨sl',e2⟩:=slot b _ (neL b o e) hb (neC b o e hx) e1 (I.base.free b o e n hx);exact⟨sl',e2⟩
 ·obtain⟨o',e1⟩:=I.base.there b o e hx;exact free b o' (neC b o e hx) e1 (I.base.free b o e n hx)
 ·obtain⟨o',e1⟩:=I.base.there b o e hx;exact there b o' (neC b o e hx) e1
 ·obtain⟨m1,e1⟩:=I.base.tbls b ps e;obtain⟨m2,e2⟩:=tbls b _ e1;exact⟨m1++m2,by rw[e2,Array.append_assoc]⟩
 ·obtain⟨m,hn,hl⟩:=I.loc;refine⟨m,ns m hn,fun i x v e1 e2 e3=>?_⟩;obtain⟨u,r,l⟩:=hl i x v e1 e2 e3;refine⟨u,r,?_⟩;rcases l with l|⟨k,c,e,z⟩
  ·exact .inl l
  ·exact .inr ⟨k,c,e,cellK x c e _ z⟩
 ·obtain⟨v,z⟩:=I.cell x c e;exact⟨v,cellK x c e v z⟩
 ·obtain⟨m,⟨o,_,_,ho,_⟩,_⟩:=I.loc;exact free _ o (fun z=>(hch _ z).2.1 rfl) ho I.free
 ·obtain⟨v,o,ho,hd⟩:=I.cell x c e;exact free c o (fun z=>(hch c z).2.2.1 x c e rfl) ho (I.freeC x c e)
 ·obtain⟨e,n,ne,nf,d⟩:=I.pin p hp;have nch:p.1∉ch:=fun z=>(hch p.1 z).2.2.2 p hp rfl;exact⟨keep p.1 p.2 ne nf nch e n,free p.1 p.2 nch e n,ne,nf,d⟩
theorem Inv.un {t':Nat}(I:Inv X pins σ H s)(u:Un X.fs [] H H' s.heap h')(hok:HOk X.prog X.w H' h'):Inv X pins σ H' { s with heap:=h',toks:=t' }:=by
 obtain⟨m,⟨o,es,ep,ho,r⟩,_⟩:=id I.loc;obtain⟨sl,hL⟩:=u.any ho I.free (by simp)
 exact I.step (g':=s.gens) (d':=s.drawn) (ch:=[]) (fun _ z=>nomatch z) (fun b o _ hb _ e n=>u.keep b o e n hb (by simp)) (fun b o _ hb _ e n=>u.slot b o e n hb (by simp)) (fun b o _ e n=>u.free b o e n (by simp)) (fun b o _ e=>u.there b o e (by simp)) u.tups u.frzs u.tbls (fun m' hm=>by
  obtain⟨o',es',ep',ho',r'⟩:=hm;rw[ho] at ho';cases ho'
  exact⟨_,es',ep',hL,r'⟩) hok I.bare
theorem Inv.call {g':Array GenState}{t':Nat}{d':Drawn}(I:Inv X pins σ H s)(u:Un (frs X.stack) ch H H' s.heap h')(hok:HOk X.prog X.w H' h')(hg:AllBare g')
  (hch:∀b∈ch,(b∈X.ex\/X.s₀.heap.objs.size<=b)/\b≠X.env.locals/\(∀x c,X.env.cells.lookup x=some c->c≠b)/\∀p∈X.pn++pins,p.1≠b) :
  Inv X pins σ H' { s with heap:=h',gens:=g',drawn:=d',toks:=t' }:=by
 obtain⟨m,⟨o,es,ep,ho,r⟩,_⟩:=id I.loc;obtain⟨sl,hL⟩:=u.any ho I.free fun z=>(hch _ z).2.1 rfl
 exact I.step (ch:=ch) hch (fun b o hL hb hc e n=>u.keep b o e n (fun z=>(bm.mp (I.stkSub b z)).elim hL hb) hc) (fun b o _ _ hc e n=>u.any e n hc) (fun b o hc e n=>u.free b o e n hc) (fun b o hc e=>u.there b o e hc) u.tups u.frzs u.tbls (fun m' hm=>by
  obtain⟨o',es',ep',ho',r'⟩:=hm;rw[ho] at ho';cases ho'
  exact⟨_,es',ep',hL,r'⟩) hok hg
theorem Inv.turned {t':Nat}(I:Inv X pins σ H s)(k:∀b o,b≠it->s.heap.get? b=some o->h'.get? b=some o)(hn:H it=none)(hL:it≠X.env.locals)
  (h1:it∈X.ex\/X.s₀.heap.objs.size<=it) (h2:∀x c,X.env.cells.lookup x=some c->c≠it) (h3:∀p∈X.pn++pins,p.1≠it):Inv X pins σ H { s with heap:=h',toks:=t' }:=by
 have nit:∀b u,H b=some u->b≠it:=fun b u e z=>by rw[z,hn] at e;cases e
 refine I.step (g':=s.gens) (d':=s.drawn) (ch:=[it]) (fun b hb=>?_) (fun b o _ _ hc e _=>k b o (fun z=>hc (by simp[z])) e) (fun b o _ _ hc e _=>⟨o.slots,k b o (fun z=>hc (by simp[z])) e⟩) (fun _ _ _ _ n=>n)
  (fun b o hc e=>⟨o,k b o (fun z=>hc (by simp[z])) e⟩) (fun _ _ e=>e) (fun _ _ _ e=>e) (fun b ps e=>⟨#[],by rw[e];simp⟩) (fun m hm=>?_) (fun b u e=>?_) I.bare
 ·have e:b=it:=by simpa using hb
  subst e;exact⟨h1,hL,h2,h3⟩
 ·obtain⟨o,es,ep,ho,r⟩:=hm;exact⟨o,es,ep,k _ o (bM hL) ho,r⟩
 ·refine(I.hok b u e).stay (fun c v hc q=>k c v ?_ q) (fun _ q=>q) fun _ _ q=>q;rcases hc with z|z
  ·rw[z];exact nit b u e
  ·exact nit c _ z
theorem Inv.tok (I:Inv X pins σ H s)(t:Nat):Inv X pins σ H { s with toks:=t }:=I.un (h':=s.heap) (t':=t) Un.refl I.hok
theorem Inv.kept {t':Nat}(I:Inv X pins σ H s)(k:∀b u,s.heap.get? b=some u->h'.get? b=some u):Inv X pins σ H { s with heap:=h',toks:=t' }:=I.un (Un.kept k) (I.hok.kept k)
theorem Inv.laid {t':Nat}(I:Inv X pins σ H s)(k:∀b u,s.heap.get? b=some u->h'.get? b=some u)(hp:s.heap.objs.size<=a)(new:cE X.prog X.w (upd H a o) h' a o) :
  Inv X pins σ (upd H a o) { s with heap:=h',toks:=t' }:=I.un (Un.laid k hp (I.hok.fresh hp)) (I.hok.laid k hp new)
theorem Inv.write {x e}{t':Nat}(I:Inv X pins σ H s)(mu:Mut (H x))(he:e=x\/H e=some (.own x))(k:∀b u,b≠e->s.heap.get? b=some u->h'.get? b=some u)(heo:∃u,h'.get? e=some u)
  (new:cE X.prog X.w (upd H x o) h' x o):Inv X pins σ (upd H x o) { s with heap:=h',toks:=t' }:=I.un (Un.write mu he k heo) (I.hok.write mu he k heo new)
theorem Inv.pins_of (I:Inv X pins σ H s)(h:∀p∈pins',s.heap.get? p.1=some p.2/\H p.1=none/\p.1≠X.env.locals/\p.1∉X.fs/\∀v,p.2.data≠.cell v):Inv X pins' σ H s:=
 ⟨I.ok,I.os,I.bare,I.base,I.loc,I.cell,I.free,I.freeC,fun p hp=>(aT.mp hp).elim (fun z=>I.pin p (bE _ z)) (h p),I.hok,I.len⟩
theorem qj {N:List Str}(hN:N.Nodup)(a:N[i]?=some x)(b:N[j]?=some x):i=j:=by
 obtain⟨h1,e1⟩:=aq.mp a;obtain⟨h2,e2⟩:=aq.mp b;exact(List.getElem_inj hN).mp (e1.trans e2.symm)
theorem mB {Q:Unit->Shared->Prop}(I:Inv X pins σ H s)(hN:X.N.Nodup)(hi:X.N[i]?=some x)(hx:Loc X.env.scope x)(r:cW v u)
  (h:∀s',Inv X pins (σ.set i (some v)) H s'->(∃a,Heap.SameBut a s.heap s'.heap/\(a=X.env.locals\/X.env.cells.lookup x=some a))->Q () s') (hf:X.fn x=true\/X.env.scope.names.lookup x=some .local:=by first|exact .inl rfl|exact .inr rfl|assumption):wpAny M A (storeName X.env x u) Q E s:=by
 obtain⟨m,hn,hl⟩:=id I.loc;have hcls:(X.env.scope.kind==.class||(X.env.scope.kind==.module&&X.env.locals != X.env.globals))=false:=by rw[I.ok.kind];rfl
 have hiσ:i<σ.length:=by rw[I.len];exact(aq.mp hi).1
 have cne:=I.cne
 have tracked:∀{a:Addr} {h':Heap},(∃o,s.heap.get? a=some o/\H a=none)->Heap.SameBut a s.heap h'->HOk X.prog X.w H h':=fun {a h'} ha hs b ob e=>by
  obtain⟨_,_,hfree⟩:=ha;refine(I.hok b ob e).stay (fun c w' hc q=>(hs.2 c ?_).trans q) (fun _ q=>q) fun _ _ q=>q;rintro rfl;rcases hc with rfl|hc
  ·rw[hfree] at e;cases e
  ·rw[hfree] at hc;cases hc
 rcases hx with hk|hk
 ·refine wpAny_storeName_local hk hn (fun h' hn' hs=>?_) hcls;obtain⟨oL,_,_,hoL,_⟩:=id hn;refine h _ ⟨I.ok,I.os,I.bare,⟨fun b o e n hb hx=>?_,fun b o e n hb hx=>?_,I.base.free,fun b o e hx=>?_,I.base.tups,I.base.frzs,I.base.tbls⟩,⟨_,hn',fun j y v' e1 e2 e3=>?_⟩,fun y c e=>?_,I.free,I.freeC,fun p hp=>?_,tracked ⟨oL,hoL,I.free⟩ hs,by simpa using I.len⟩ ⟨_,hs,.inl rfl⟩
  ·exact(hs.2 b (aP (ba (aZ e) I.ok.above))).trans (I.base.keep b o e n hb hx)
  ·obtain⟨sl,e1⟩:=I.base.slot b o e n hb hx;exact⟨sl,(hs.2 b (aP (ba (aZ e) I.ok.above))).trans e1⟩
  ·obtain⟨o',e1⟩:=I.base.there b o e hx;exact⟨o',(hs.2 b (aP (ba (aZ e) I.ok.above))).trans e1⟩
  ·by_cases hj:j=i
   ·subst hj;rw[hi] at e1;cases e1;rw[List.getElem?_set_self hiσ] at e2;cases e2;exact⟨u,r,.inl ⟨hk,by simp⟩⟩
   ·rw[List.getElem?_set_ne (bM hj)] at e2;obtain⟨u',r',q⟩:=hl j y v' e1 e2 e3;refine⟨u',r',?_⟩;rcases q with⟨k,e⟩|⟨k,c,e,z⟩
    ·refine .inl ⟨k,?_⟩;have:y≠x:=fun e=>hj (qj hN e1 (e▸hi));simp[this,e]
    ·exact .inr ⟨k,c,e,z.sameBut hs (cne y c e)⟩
  ·obtain⟨w',z⟩:=I.cell y c e;exact⟨w',z.sameBut hs (cne y c e)⟩
  ·obtain⟨e,n,ne,nf,d⟩:=I.pin p hp;exact⟨(hs.2 p.1 ne).trans e,n,ne,nf,d⟩
 ·have hfn:X.fn x=true:=by
   rcases hf with z|z
   ·exact z
   ·rw[z] at hk;cases hk
  obtain⟨c,hc⟩:=I.ok.has x (.inl hk);obtain⟨w',z⟩:=I.cell x c hc;refine wpAny_storeName_cell I.ok.kind hk hc z (fun h' hc' hs=>?_);obtain⟨oc,hoc,hocd⟩:=id z
  refine h { s with heap:=h' } ⟨I.ok,I.os,I.bare,⟨fun b o e n hb hx=>?_,fun b o e n hb hx=>?_,I.base.free,fun b o e hx=>?_,I.base.tups,I.base.frzs,I.base.tbls⟩,⟨m,hn.sameBut hs (bM (cne x c hc)),fun j y v' e1 e2 e3=>?_⟩,fun y c' e=>?_,I.free,I.freeC,fun p hp=>?_,tracked ⟨oc,hoc,I.freeC x c hc⟩ hs,by simpa using I.len⟩ ⟨c,hs,.inr hc⟩
  ·exact(hs.2 b (aP (ba (aZ e) (I.ok.cab x c hfn hc)))).trans (I.base.keep b o e n hb hx)
  ·obtain⟨sl,e1⟩:=I.base.slot b o e n hb hx;exact⟨sl,(hs.2 b (aP (ba (aZ e) (I.ok.cab x c hfn hc)))).trans e1⟩
  ·obtain⟨o',e1⟩:=I.base.there b o e hx;exact⟨o',(hs.2 b (aP (ba (aZ e) (I.ok.cab x c hfn hc)))).trans e1⟩
  ·by_cases hj:j=i
   ·subst hj;rw[hi] at e1;cases e1;rw[List.getElem?_set_self hiσ] at e2;cases e2;exact⟨u,r,.inr ⟨.inl hk,c,hc,hc'⟩⟩
   ·rw[List.getElem?_set_ne (bM hj)] at e2;obtain⟨u',r',q⟩:=hl j y v' e1 e2 e3;refine⟨u',r',?_⟩;rcases q with q|⟨k,c',e,z'⟩
    ·exact .inl q
    ·refine .inr ⟨k,c',e,z'.sameBut hs ?_⟩;rintro rfl;exact hj (qj hN e1 (I.ok.inj _ _ _ e hc▸hi))
  ·by_cases hcc:c'=c
   ·subst hcc;exact⟨_,hc'⟩
   ·obtain⟨w2,z2⟩:=I.cell y c' e;exact⟨w2,z2.sameBut hs hcc⟩
  ·obtain⟨e,n,ne,nf,d⟩:=I.pin p hp;refine⟨(hs.2 p.1 ?_).trans e,n,ne,nf,d⟩;intro q;rw[q,hoc] at e;have q':oc=p.2:=aw e;exact d w' (by rw[<- q'];exact hocd)
theorem iz {Q:Unit->Shared->Prop}(I:Inv X pins σ H s)(hN:X.N.Nodup)(hi:X.N[i]?=some x)(hx:Loc X.env.scope x)(r:cW v u)
  (h:∀s',Inv X pins (σ.set i (some v)) H s'->Q () s') (hf:X.fn x=true\/X.env.scope.names.lookup x=some .local:=by first|exact .inl rfl|exact .inr rfl|assumption):wpAny M A (storeName X.env x u) Q E s:=
 mB I hN hi hx r (fun s' I' _=>h s' I') hf
theorem Inv.call' (I:Inv X pins σ H s)(ho:s'.os=s.os)(u:Un (frs X.stack) ch H H' s.heap s'.heap)(hok:HOk X.prog X.w H' s'.heap)(hg:AllBare s'.gens)
  (hch:∀b∈ch,(b∈X.ex\/X.s₀.heap.objs.size<=b)/\b≠X.env.locals/\(∀x c,X.env.cells.lookup x=some c->c≠b)/\∀p∈X.pn++pins,p.1≠b):Inv X pins σ H' s':=by
 obtain⟨h',g',d',t',o'⟩:=s';have e:o'=s.os:=ho;subst e;exact I.call (g':=g') (t':=t') (d':=d') u hok hg hch
end
abbrev XK:=Value->Option Addr->Hp->Prop
abbrev St:=List (Option V)
variable {σ:L2.St}{ct:L2.St->L2.Hp->Prop}
abbrev VK:=V->Hp->Prop
variable {rd:L2.V->L2.V->L2.Hp->L2.VK->Prop}{rr:L2.V->List L2.V->L2.Hp->L2.VK->Prop}{rt:L2.VK}
abbrev TE:=St->Hp->VK->Prop
variable {t4 ta td te tk tl tv tx ty:L2.TE}
abbrev TT:=St->Hp->(Bool->Hp->Prop)->Prop
variable {tA tc tt:L2.TT}
abbrev TA:=St->Hp->(List V->Hp->Prop)->Prop
structure Ends where
 nx:St->Hp->Prop
 rt:VK
 bk:St->Hp->Prop:=fun _ _=>False
 ct:St->Hp->Prop:=fun _ _=>False
abbrev TS:=Ends->St->Hp->Prop
variable {tb:L2.TS}
def EP (X:Cx)(pins:List (Addr×Obj))(σ:St)(Q:VK)(u:Value)(s':Shared):Prop:=∃v H',Inv X pins σ H' s'/\cW v u/\Q v H'
def TP (X:Cx)(pins:List (Addr×Obj))(σ:St)(Q:Bool->Hp->Prop)(b:Bool)(s':Shared):Prop:=∃H',Inv X pins σ H' s'/\Q b H'
def AP (X:Cx)(pins:List (Addr×Obj))(σ:St)(Q:List V->Hp->Prop)(us:List Value)(s':Shared):Prop:=∃vs H',Inv X pins σ H' s'/\cU vs us/\Q vs H'
def SP (X:Cx)(pins:List (Addr×Obj))(D:Ends)(f:Flow)(s':Shared):Prop:=
 match f with
 | .next=>∃σ' H',Inv X pins σ' H' s'/\D.nx σ' H'
 | .brk=>∃σ' H',Inv X pins σ' H' s'/\D.bk σ' H'
 | .cont=>∃σ' H',Inv X pins σ' H' s'/\D.ct σ' H'
 | .ret u=>∃v σ' H',Inv X pins σ' H' s'/\cW v u/\D.rt v H'
def PE (X:Cx)(e:Expr)(t:TE):Prop:=
 ∀(pins:List (Addr×Obj)) (s:Shared) (σ:St) (H:Hp) (Q:VK),Inv X pins σ H s->t σ H Q->wpAny (model X.prog X.w) X.A (eval e X.env) (EP X pins σ Q) X.xe s
def PT (X:Cx)(e:Expr)(t:TT):Prop:=
 ∀(pins:List (Addr×Obj)) (s:Shared) (σ:St) (H:Hp) (Q:Bool->Hp->Prop),Inv X pins σ H s->t σ H Q->wpAny (model X.prog X.w) X.A (isTrue e X.env (eval e X.env)) (TP X pins σ Q) X.xe s
def PW (X:Cx)(e:Expr)(t:TT):Prop:=
 ∀(ku:Sem Value) (pins:List (Addr×Obj)) (s:Shared) (σ:St) (H:Hp) (Q:Bool->Hp->Prop),Inv X pins σ H s->t σ H Q->wpAny (model X.prog X.w) X.A (isTrue e X.env ku) (TP X pins σ Q) X.xe s
theorem PW.pt {t}(h:PW X e t):PT X e t:=h _
def PA (X:Cx)(es:List Expr)(t:TA):Prop:=
 ∀(pos:Pos) (pins:List (Addr×Obj)) (s:Shared) (σ:St) (H:Hp) (Q:List V->Hp->Prop),Inv X pins σ H s->t σ H Q->wpAny (model X.prog X.w) X.A (spliced (backTo pos (starEach es X.env))) (AP X pins σ Q) X.xe s
def PS (X:Cx)(st:Stmt)(t:TS):Prop:=
 ∀(pins:List (Addr×Obj)) (s:Shared) (σ:St) (H:Hp) (D:Ends),Inv X pins σ H s->t D σ H->wpAny (model X.prog X.w) X.A (exec st X.env) (SP X pins D) X.xe s
def PSs (X:Cx)(st:List Stmt)(t:TS):Prop:=
 ∀(pins:List (Addr×Obj)) (s:Shared) (σ:St) (H:Hp) (D:Ends),Inv X pins σ H s->t D σ H->wpAny (model X.prog X.w) X.A (execs st X.env) (SP X pins D) X.xe s
theorem thn {α:Type}{t:Sem α}{Q Q':α->Shared->Prop}(h:wpAny M A t Q E s)(hQ:∀a s,Q a s->Q' a s):wpAny M A t Q' E s:=bI h hQ fun _ _ x=>x
section
def vA (i:Nat):TE:=fun σ H Q=>∃v,σ[i]?=some (some v)/\Q v H
def tC (v:V):TE:=fun _ H Q=>Q v H
theorem yW {pos:Pos}(hN:X.N[i]?=some x)(hv:Vis X.env.scope x)(hd:(x==("__debug__" : Str))=false:=by decide)(hcd:(x==("__classdict__" : Str))=false:=by decide):PE X (.Name x pos) (vA i):=by
 intro pins s σ H Q I h;obtain⟨v,e,h⟩:=h;obtain⟨m,hn,hl⟩:=I.loc;obtain⟨u,r,l⟩:=hl i x v hN e hv;have fin:EP X pins σ Q u s:=⟨v,H,I,r,h⟩;rcases l with⟨hk,hm⟩|⟨hk,c,hc,hcell⟩
 ·exact wpAny_Name (wpAny_loadName_local I.ok.kind hk hn hm fin) hd
 ·rcases hk with hk|hk
  ·exact wpAny_Name (wpAny_loadName_cell I.ok.kind hk hc hcell fin) hd
  ·exact wpAny_Name (wpAny_loadName_free I.ok.kind hk hc hcell fin hcd) hd
theorem ap {i j pos}:PE X (.Constant (.int i) j pos) (tC (.int i)):=fun _ _ _ H _ I h=>wpAny_Constant_int ⟨.int i,H,I.tok _,⟨_,rfl⟩,h⟩
theorem fh {b j pos}:PE X (.Constant (.bool b) j pos) (tC (.bl b)):=fun _ _ _ H _ I h=>Constant_bool ⟨.bl b,H,I,rfl,h⟩
theorem bV {j pos}:PE X (.Constant .none j pos) (tC .non):=fun _ _ _ H _ I h=>Constant_none ⟨.non,H,I,rfl,h⟩
def Gl (X:Cx)(x:Str):Prop:=X.env.kindOf x=some .globalImplicit
theorem j7 {pos:Pos}(I:Inv X pins σ H s)(hg:Gl X x)(hm:X.mg x=some u)(h:Q u s)
  (hd:(x==("__debug__" : Str))=false:=by decide):wpAny (model X.prog X.w) X.A (eval (.Name x pos) X.env) Q E s:=
 Calls.Name_function_global I.ok.kind hg (Calls.loadGlobal_global (by rw[I.ok.glob];exact I.mod.glob.keeps I.bk) hm h) hd
theorem h_ {pos:Pos}(I:Inv X pins σ H s)(hg:Gl X x)(hm:X.mg x=none)(hv:bootBuiltins x=some u)(h:Q u s)
  (hn:x ≠ "__name__":=by decide) (hd:(x==("__debug__" : Str))=false:=by decide):wpAny (model X.prog X.w) X.A (eval (.Name x pos) X.env) Q E s:=by
 obtain⟨mb,h1,h2⟩:=I.mod.blt;exact Calls.Name_function_global I.ok.kind hg (Calls.loadGlobal_builtin (by rw[I.ok.glob];exact I.mod.glob.keeps I.bk) hm (by rw[I.ok.blt];exact h1.keeps I.bk) ((h2 x hn).trans hv) h) hd
theorem eA {pos:Pos}(hg:Gl X x)(hm:X.mg x=some u)(r:cW v u)(hd:(x==("__debug__" : Str))=false:=by decide):PE X (.Name x pos) (tC v):=
 fun _ _ _ H _ I h=>j7 I hg hm ⟨v,H,I,r,h⟩ hd
theorem gH {pos:Pos}(hg:Gl X x)(hm:X.mg x=none)(hv:bootBuiltins x=some u)(r:cW v u)(hn:x ≠ "__name__":=by decide)(hd:(x==("__debug__" : Str))=false:=by decide):PE X (.Name x pos) (tC v):=
 fun _ _ _ H _ I h=>h_ I hg hm hv ⟨v,H,I,r,h⟩ hn hd
variable {a b:Expr}{tb:TE}{pos:Pos}
def tB (t:TE):TT:=fun σ H Q=>t σ H fun x H1=>∃c,x=.bl c/\Q c H1
theorem cv {t}(h:PE X e t)(he:∀ku,isTrue e X.env ku=(do let v <- ku;standAt e.pos;holding [v] (truthy v)):=by intro _;rfl):PT X e (tB t):=by
 intro pins s σ H Q I hw;refine isTrue_plain (thn (h pins s σ H _ I hw) fun v s1 ⟨x,H1,I1,r1,q1⟩=>?_) (he _);obtain⟨d,rfl,q⟩:=q1;cases r1;exact wpAny_truthy_bool ⟨H1,I1,q⟩
variable {tB':TT}{rest:List Expr}
def Bz (t u:TT):TT:=fun σ H Q=>t σ H fun c H1=>if c=true then u σ H1 Q else Q false H1
def tOr (t u:TT):TT:=fun σ H Q=>t σ H fun c H1=>if c=true then Q true H1 else u σ H1 Q
def Bu (t:TT):TT:=fun σ H Q=>t σ H fun c H1=>Q (!c) H1
theorem d0 (ha:PT X a tA):PW X (.BoolOp .And [a] pos) tA:=by
 intro wh pins s σ H Q I h;refine isTrue_and (thn (ha pins s σ H Q I h) fun c s1 e=>?_);cases c with
 | true=>exact isTrue_and_nil e
 | false=>exact e
theorem iC (ha:PT X a tA):PW X (.BoolOp .Or [a] pos) tA:=by
 intro wh pins s σ H Q I h;refine isTrue_or (thn (ha pins s σ H Q I h) fun c s1 e=>?_);cases c with
 | false=>exact isTrue_or_nil e
 | true=>exact e
theorem fM (ha:PT X a tA)(hb:PW X (.BoolOp .And (b::rest) pos) tB'):PW X (.BoolOp .And (a::b::rest) pos) (Bz tA tB'):=by
 intro wh pins s σ H Q I h;refine isTrue_and (thn (ha pins s σ H _ I h) fun c s1 zz=>?_);obtain⟨H1,I1,q1⟩:=zz;cases c with
 | true=>exact hb wh pins s1 σ H1 Q I1 q1
 | false=>exact⟨H1,I1,q1⟩
theorem jP (ha:PT X a tA)(hb:PW X (.BoolOp .Or (b::rest) pos) tB'):PW X (.BoolOp .Or (a::b::rest) pos) (tOr tA tB'):=by
 intro wh pins s σ H Q I h;refine isTrue_or (thn (ha pins s σ H _ I h) fun c s1 zz=>?_);obtain⟨H1,I1,q1⟩:=zz;cases c with
 | true=>exact⟨H1,I1,q1⟩
 | false=>exact hb wh pins s1 σ H1 Q I1 q1
theorem cO (ha:PT X a tA):PT X (.UnaryOp .Not a pos) (Bu tA):=by
 intro pins s σ H Q I h;exact isTrue_not (ha pins s σ H (fun c H1=>Q (!c) H1) I h)
def wm (ta tb:TE):TE:=fun σ H Q=>ta σ H fun x H1=>∃c,x=.bl c/\if c=true then tb σ H1 Q else Q (.bl false) H1
def Bs (ta tb:TE):TE:=fun σ H Q=>ta σ H fun x H1=>∃c,x=.bl c/\if c=true then Q (.bl true) H1 else tb σ H1 Q
def ye (ta:TE):TE:=fun σ H Q=>ta σ H fun x H1=>∃c,x=.bl c/\Q (.bl (!c)) H1
theorem eP {op t}(h:PE X a t):PE X (.BoolOp op [a] pos) t:=fun pins s σ H Q I hw=>BoolOp_one (h pins s σ H Q I hw)
theorem gf (ha:PE X a ta)(hb:PE X (.BoolOp .And (b::rest) pos) tb):PE X (.BoolOp .And (a::b::rest) pos) (wm ta tb):=by
 intro pins s σ H Q I h;refine BoolOp_and (thn (ha pins s σ H _ I h) fun v s1 zz=>?_);obtain⟨x,H1,I1,r1,q1⟩:=zz;obtain⟨c,rfl,q1⟩:=q1;cases r1;refine wpAny_truthy_bool ?_;cases c with
 | true=>exact hb pins s1 σ H1 Q I1 q1
 | false=>exact⟨.bl false,H1,I1,rfl,q1⟩
theorem yX (ha:PE X a ta)(hb:PE X (.BoolOp .Or (b::rest) pos) tb):PE X (.BoolOp .Or (a::b::rest) pos) (Bs ta tb):=by
 intro pins s σ H Q I h;refine BoolOp_or (thn (ha pins s σ H _ I h) fun v s1 zz=>?_);obtain⟨x,H1,I1,r1,q1⟩:=zz;obtain⟨c,rfl,q1⟩:=q1;cases r1;refine wpAny_truthy_bool ?_;cases c with
 | false=>exact hb pins s1 σ H1 Q I1 q1
 | true=>exact⟨.bl true,H1,I1,rfl,q1⟩
theorem vJ (ha:PE X a ta):PE X (.UnaryOp .Not a pos) (ye ta):=by
 intro pins s σ H Q I h;refine UnaryOp_ (thn (ha pins s σ H _ I h) fun v s1 zz=>?_);obtain⟨x,H1,I1,r1,q1⟩:=zz;obtain⟨c,rfl,q1⟩:=q1;cases r1;exact not_of (wpAny_truthy_bool ⟨.bl (!c),H1,I1,rfl,q1⟩)
def tIf (t:TT)(ta tb:TE):TE:=fun σ H Q=>t σ H fun c H1=>if c=true then ta σ H1 Q else tb σ H1 Q
theorem dG (hc:PT X c tA)(ha:PE X a ta)(hb:PE X b tb):PE X (.IfExp c a b pos) (tIf tA ta tb):=by
 intro pins s σ H Q I h;refine wpAny_IfExp (thn (hc pins s σ H _ I h) fun d s1 zz=>?_);obtain⟨H1,I1,q1⟩:=zz;cases d with
 | true=>exact ha pins s1 σ H1 Q I1 q1
 | false=>exact hb pins s1 σ H1 Q I1 q1
end
def SqL (K:Frag)(H:Hp)(a:Addr)(xs:List V):Prop:=
 Rd H a (.lst xs) \/
  ∃(o:Obj) (its:Array Value) (n:Nat),K.lookup a=some o/\o.cls=.type "list"/\o.dict=none/\o.data=.seq its n/\its.size<=sizeLine/\cU xs its.toList
def SqT (K:Frag)(H:Hp)(a:Addr)(xs:List V):Prop:=
 Rd H a (.tup xs) \/
  ∃(o:Obj) (its:Array Value) (n:Nat),K.lookup a=some o/\o.cls=.type "tuple"/\o.data=.seq its n/\its.size<=sizeLine/\cU xs its.toList
def Cw:Value->Option V
 | .none=>some .non
 | .bool b=>some (.bl b)
 | .int i _=>some (.int i)
 | .str x _=>some (.str x)
 | .bytes b _=>some (.byt b)
 | .float b _=>some (.flt b)
 | .ref a=>some (.ref a)
 | .type n=>some (.ty n)
 | _=>none
theorem cW.abs {x}(r:cW x u):Cw u=some x:=by
 cases x with
 | non=>cases r;rfl
 | bl _=>cases r;rfl
 | int _=>obtain⟨t,rfl⟩:=r;rfl
 | str _=>obtain⟨t,rfl⟩:=r;rfl
 | byt _=>obtain⟨t,rfl⟩:=r;rfl
 | flt _=>obtain⟨t,rfl⟩:=r;rfl
 | ref _=>cases r;rfl
 | ty _=>cases r;rfl
theorem cW.inj {x}(r:cW x u)(q:cW y u):x=y:=aw (r.abs.symm.trans q.abs)
theorem cU.inj:∀{xs ys:List V} {us:List Value},cU xs us->cU ys us->xs=ys
 | _,_,_,.nil,.nil=>rfl
 | _,_,_,.cons r t,.cons r' t'=>by rw[r.inj r',cU.inj t t']
section
theorem SqL.of (h:H a=some (.lst xs)):SqL K H a xs:=.inl (.inl h)
theorem SqT.of (h:H a=some (.tup xs)):SqT K H a xs:=.inl (.inl h)
theorem Inv.list (I:Inv X pins σ H s)(h:SqL X.K H a xs):∃its:List Value,cU xs its/\PlainL s.heap a its.toArray/\xs.length<=sizeLine:=by
 rcases h with h|⟨o,its,n,hk,hc,hd,hs,hz,r⟩
 ·obtain⟨z,its,n,r,e⟩:=h.ok I.hok;exact⟨its,r,⟨_,n,e,rfl,rfl,rfl⟩,z⟩
 ·refine⟨its.toList,r,⟨o,n,I.kIn a o hk,hc,hd,by simpa using hs⟩,?_⟩;have e:=r.length;simp only[length_toList] at e
  lia
theorem Inv.tuple (I:Inv X pins σ H s)(h:SqT X.K H a xs):∃its:List Value,cU xs its/\IsTup s.heap a its.toArray/\xs.length<=sizeLine:=by
 rcases h with h|⟨o,its,n,hk,hc,hs,hz,r⟩
 ·obtain⟨z,its,r,p,_⟩:=h.ok I.hok;exact⟨its,r,p,z⟩
 ·refine⟨its.toList,r,⟨o,I.kIn a o hk,hc,n,by simpa using hs⟩,?_⟩;have e:=r.length;simp only[length_toList] at e
  lia
theorem Inv.list_inj (I:Inv X pins σ H s)(h:SqL X.K H a xs)(h':SqL X.K H a ys):xs=ys:=by
 obtain⟨its,r,⟨o,n,e,_,_,d⟩,_⟩:=I.list h;obtain⟨its',r',⟨o',n',e',_,_,d'⟩,_⟩:=I.list h';rw[e] at e';cases e';rw[d] at d';injection d' with d1 _;have:its=its':=by simpa using bq Array.toList d1
 subst this;exact r.inj r'
theorem Inv.tuple_inj (I:Inv X pins σ H s)(h:SqT X.K H a xs)(h':SqT X.K H a ys):xs=ys:=by
 obtain⟨its,r,⟨o,e,_,n,d⟩,_⟩:=I.tuple h;obtain⟨its',r',⟨o',e',_,n',d'⟩,_⟩:=I.tuple h';rw[e] at e';cases e';rw[d] at d';injection d' with d1 _;have:its=its':=by simpa using bq Array.toList d1
 subst this;exact r.inj r'
end
abbrev Cx.wish (X:Cx)(E:Value->Shared->Prop):Cx:={ X with xe:=E }
abbrev Cx.nox (X:Cx):Cx:=X.wish fun _ _=>False
theorem Cx.Ok.wish (ok:X.Ok)(E:Value->Shared->Prop):(X.wish E).Ok:=
 ⟨ok.mod,ok.kind,ok.glob,ok.blt,ok.above,ok.inj,ok.has,ok.cab,ok.hd,ok.frames,ok.stk,ok.exf,ok.bs,ok.bsz,ok.noex,ok.exfs,ok.funs,ok.frf⟩
theorem Cx.Ok.unwish (ok:(X.wish E).Ok):X.Ok:=
 ⟨ok.mod,ok.kind,ok.glob,ok.blt,ok.above,ok.inj,ok.has,ok.cab,ok.hd,ok.frames,ok.stk,ok.exf,ok.bs,ok.bsz,ok.noex,ok.exfs,ok.funs,ok.frf⟩
section
theorem Inv.wish (I:Inv X pins σ H s)(E:Value->Shared->Prop):Inv (X.wish E) pins σ H s:=⟨I.ok.wish E,I.os,I.bare,I.base,I.loc,I.cell,I.free,I.freeC,I.pin,I.hok,I.len⟩
theorem Inv.unwish (I:Inv (X.wish E) pins σ H s):Inv X pins σ H s:=⟨I.ok.unwish,I.os,I.bare,I.base,I.loc,I.cell,I.free,I.freeC,I.pin,I.hok,I.len⟩
theorem SP.unwish {D:Ends}{f:Flow}(h:SP (X.wish E) pins D f s'):SP X pins D f s':=by
 cases f with
 | next=>obtain⟨σ',H',I,q⟩:=h;exact⟨σ',H',I.unwish,q⟩
 | brk=>obtain⟨σ',H',I,q⟩:=h;exact⟨σ',H',I.unwish,q⟩
 | cont=>obtain⟨σ',H',I,q⟩:=h;exact⟨σ',H',I.unwish,q⟩
 | ret u=>obtain⟨v,σ',H',I,r,q⟩:=h;exact⟨v,σ',H',I.unwish,r,q⟩
theorem PSs.nox {st t}(h:PSs X.nox st t):PSs X st t:=fun pins s σ H D I hw=>
 bI (h pins s σ H D (I.wish _) hw) (fun _ _ q=>q.unwish) fun _ _ z=>False.elim z
end
section
variable {rest:List Stmt}{t u:TS}{pos:Pos}
def wk:TS:=fun D σ H=>D.nx σ H
def ya (t u:TS):TS:=fun D σ H=>t { D with nx:=u D } σ H
theorem bd:PSs X [] wk:=fun _ _ σ H _ I h=>wpAny_execs_nil ⟨σ,H,I,h⟩
theorem ad (h1:PS X st t)(h2:PSs X rest u):PSs X (st::rest) (ya t u):=by
 intro pins s σ H D I h;refine wpAny_execs_cons (thn (h1 pins s σ H { D with nx:=u D } I h) fun f s1 q=>?_);cases f with
 | next=>
  obtain⟨σ',H',I',q⟩:=q;exact h2 pins s1 σ' H' D I' q
 | ret v=>exact q
 | brk=>exact q
 | cont=>exact q
theorem ao (h1:PS X st t):PSs X [st] t:=by
 intro pins s σ H D I h;refine wpAny_execs_cons (thn (h1 pins s σ H D I h) fun f s1 q=>?_);cases f with
 | next=>exact wpAny_execs_nil q
 | ret v=>exact q
 | brk=>exact q
 | cont=>exact q
theorem Inv.quiet (I:Inv X pins σ H s):interactive X.env=false:=by simp[interactive,I.ok.kind]
def yg (te:TE):TS:=fun D σ H=>te σ H fun _ H1=>D.nx σ H1
theorem a_ (he:PE X e te)(hs:swapsWith e none pos.line X.env=pure false:=by rfl):PS X (.Expr e pos) (yg te):=by
 intro pins s σ H D I h;exact wpAny_Expr_any (thn (he pins s σ H _ I h) fun v s1 zz=>by obtain⟨x,H1,I1,r1,q1⟩:=zz;exact⟨σ,H1,I1,q1⟩) I.quiet hs
def Aw (te:TE):TS:=fun D σ H=>te σ H D.rt
theorem bc (he:PE X e te):PS X (.Return (some e) pos) (Aw te):=by
 intro pins s σ H D I h;exact wpAny_Return_some (thn (he pins s σ H _ I h) fun v s1 zz=>by obtain⟨x,H1,I1,r1,q1⟩:=zz;exact⟨x,σ,H1,I1,r1,q1⟩)
def yb:TS:=fun D _ H=>D.rt .non H
theorem ow:PS X (.Return none pos) yb:=fun _ _ σ H _ I h=>wpAny_Return_none ⟨.non,σ,H,I,rfl,h⟩
def Ax (c:TT)(t u:TS):TS:=fun D σ H=>c σ H fun b H1=>if b=true then t D σ H1 else u D σ H1
theorem bT {a b}(hc:PT X c tc)(ha:PSs X a t)(hb:PSs X b u):PS X (.If c a b pos) (Ax tc t u):=by
 intro pins s σ H D I h;refine wpAny_If (thn (hc pins s σ H _ I h) fun d s1 zz=>?_);obtain⟨H1,I1,q1⟩:=zz;cases d with
 | true=>exact ha pins s1 σ H1 D I1 q1
 | false=>exact hb pins s1 σ H1 D I1 q1
def yf:TS:=fun _ _ _=>False
theorem bQ:PS X st yf:=fun _ _ _ _ _ _ h=>h.elim
end
abbrev TG:=V->St->Hp->(St->Hp->Prop)->Prop
variable {g:L2.TG}
abbrev TGs:=List V->St->Hp->(St->Hp->Prop)->Prop
def PG (X:Cx)(target:Expr)(t:TG):Prop:=
 ∀(pins:List (Addr×Obj)) (s:Shared) (σ:St) (H:Hp) (v:V) (u:Value) (Q:St->Hp->Prop),Inv X pins σ H s->cW v u->t v σ H Q ->
  wpAny (model X.prog X.w) X.A (assign target X.env u) (fun _ s'=>∃σ' H',Inv X pins σ' H' s'/\Q σ' H') X.xe s
def PGs (X:Cx)(ts:List Expr)(t:TGs):Prop:=
 ∀(pins:List (Addr×Obj)) (s:Shared) (σ:St) (H:Hp) (vs:List V) (us:List Value) (Q:St->Hp->Prop),Inv X pins σ H s->cU vs us->t vs σ H Q ->
  wpAny (model X.prog X.w) X.A (assignInOrder ((assignEach ts X.env).map (·.2)) us) (fun _ s'=>∃σ' H',Inv X pins σ' H' s'/\Q σ' H') X.xe s
abbrev Ao:=V->V->V->Hp->(Hp->Prop)->Prop
def BX (X:Cx)(t:Ao):Prop:=
 ∀(pins:List (Addr×Obj)) (s:Shared) (σ:St) (H:Hp) (o i v:V) (ov iv u:Value) (Q:Hp->Prop),Inv X pins σ H s->cW o ov->cW i iv->cW v u->t o i v H Q ->
  wpAny (model X.prog X.w) X.A (setItem ov iv u) (fun _ s'=>∃H',Inv X pins σ H' s'/\Q H') X.xe s
abbrev TIp:=V->V->Hp->VK->Prop
variable {ti:L2.TIp}
def PIp (X:Cx)(op:Operator)(t:TIp):Prop:=
 ∀(pins:List (Addr×Obj)) (s:Shared) (σ:St) (H:Hp) (x y:V) (v u:Value) (Q:VK),Inv X pins σ H s->cW x v->cW y u->t x y H Q ->
  wpAny (model X.prog X.w) X.A (inplaceOp op v u) (EP X pins σ Q) X.xe s
section
variable {pos:Pos}
def eS (i:Nat):TG:=fun v σ H Q=>Q (σ.set i (some v)) H
theorem gG (hN:X.N.Nodup)(hi:X.N[i]?=some x)(hx:Loc X.env.scope x)(hf:X.fn x=true\/X.env.scope.names.lookup x=some .local:=by first|exact .inl rfl|exact .inr rfl|assumption):PG X (.Name x pos) (eS i):=by
 intro pins s σ H v u Q I r h;exact wpAny_assign_Name (iz I hN hi hx r (fun s' I'=>⟨_,H,I',h⟩) hf)
def Am:TGs:=fun vs σ H Q=>vs=[]/\Q σ H
def re (t:TG)(u:TGs):TGs:=fun vs σ H Q=>∃v r,vs=v::r/\t v σ H fun σ' H'=>u r σ' H' Q
theorem dS:PGs X [] Am:=by
 intro pins s σ H vs us Q I r h;obtain⟨e,h⟩:=h;subst e;cases r;exact assignInOrder_nil ⟨σ,H,I,h⟩
theorem bn {t}{u:TGs}(h1:PG X e t)(h2:PGs X es u)
  (hs:(assignEach (e::es) X.env).map (·.2)=assign e X.env::(assignEach es X.env).map (·.2):=by rfl):PGs X (e::es) (re t u):=by
 intro pins s σ H vs us Q I r h;obtain⟨v,vr,e1,h⟩:=h;subst e1;cases r with
 | cons r rr=>
  rw[hs];refine assignInOrder_cons (thn (h1 pins s σ H _ _ _ I r h) fun _ s1 zz=>?_);obtain⟨σ1,H1,I1,q1⟩:=zz;exact h2 pins s1 σ1 H1 _ _ Q I1 rr q1
def zU (K:Frag)(n:Nat)(t:TGs):TG:=fun v σ H Q=>∃a xs,v=.ref a/\SqT K H a xs/\xs.length=n/\t xs σ H Q
theorem gc {k:Nat}{t:TGs}(hc:X.calm=true)(h:PGs X es t)
  (hn:(assignEach es X.env).length=n:=by rfl) (hst:(assignEach es X.env).findIdx? (·.1)=none:=by rfl):PG X (.Tuple es k pos) (zU X.K n t):=by
 intro pins s σ H v u Q I r hw;obtain⟨a,xs,e1,hq,hl,hw⟩:=hw;subst e1;cases r;obtain⟨its,rv,ht,hz⟩:=I.tuple hq;refine assign_Tuple_tuple (I.ok.hd hc) ht (by simp[hn,<- hl,rv.length]) hst fun h' hx=>?_;have I1:Inv X pins σ H { s with heap:=h' }:=I.kept (t':=s.toks) fun b o e=>hx b o (aP (aZ e)) e;exact h pins _ σ H xs _ Q I1 (by simpa using rv) hw
def BU (to ti:TE)(t:Ao):TG:=fun v σ H Q=>to σ H fun o H1=>ti σ H1 fun i H2=>t o i v H2 fun H3=>Q σ H3
theorem pV {o i to ti}{t:Ao}(ho:PE X o to)(hi:PE X i ti)(hs:BX X t)
  (ha:∀v,assign (.Subscript o i pos) X.env v=(do
   let ov <- holding [v] (eval o X.env)
   let iv <- holding [v,ov] (eval i X.env)
   standAt pos
   holding [v,ov,iv] (setItem ov iv v)
   release [v,ov,iv] []):=by intro _;rfl):PG X (.Subscript o i pos) (BU to ti t):=by
 intro pins s σ H v u Q I r h;rw[ha];refine ac (bv (thn (ho pins s σ H _ I h) fun ov s1 zz=>?_));obtain⟨x,H1,I1,r1,q1⟩:=zz;refine ac (bv (thn (hi pins s1 σ H1 _ I1 q1) fun iv s2 zz=>?_));obtain⟨y,H2,I2,r2,q2⟩:=zz;refine ac (wpAny_standAt (ac (bv (thn (hs pins s2 σ H2 x y v ov iv u _ I2 r1 r2 r q2) fun _ s3 zz=>?_))))
 obtain⟨H3,I3,q3⟩:=zz;exact wpAny_release ⟨σ,H3,I3,q3⟩
def qO (te:TE)(g:TG):TS:=fun D σ H=>te σ H fun x H1=>g x σ H1 D.nx
theorem iF (he:PE X e te)(hg:PG X tg g)(hs:swapsWithSole [tg] e pos.line X.env=pure false:=by rfl)(hw:swappedStores [tg] e X.env=pure none:=by rfl)
  (h1:(assignEach [tg] X.env).map (·.2)=[assign tg X.env]:=by rfl):PS X (.Assign [tg] e pos) (qO te g):=by
 intro pins s σ H D I h;refine wpAny_Assign_stores (thn (he pins s σ H _ I h) fun v s1 ⟨x,H1,I1,r1,q1⟩=>?_) hs hw;rw[h1];exact thn (hg pins s1 σ H1 x v _ I1 r1 q1) fun _ s2 q=>q
theorem kF (hN:X.N.Nodup)(hi:X.N[i]?=some x)(hx:Loc X.env.scope x)(he:PE X e te)(hs:swapsWith e (some (.Name x pos')) pos.line X.env=pure false:=by rfl)(hf:X.fn x=true\/X.env.scope.names.lookup x=some .local:=by first|exact .inl rfl|exact .inr rfl|assumption) :
  PS X (.Assign [.Name x pos'] e pos) (qO te (eS i)):=by
 intro pins s σ H D I h;refine wpAny_Assign_Name (thn (he pins s σ H _ I h) fun v s1 ⟨y,H1,I1,r1,q1⟩=>?_) hs;exact iz I1 hN hi hx r1 (fun s2 I2=>⟨_,H1,I2,q1⟩) hf
def Br (i j:Nat)(ta:TA):TS:=fun D σ H=>ta σ H fun vs H1=>∃v w,vs=[v,w]/\D.nx ((σ.set i (some v)).set j (some w)) H1
theorem yQ {y a b ta pt}{kt k2 pt2}(hc:X.calm=true)(hN:X.N.Nodup)(hi:X.N[i]?=some x)(hj:X.N[j]?=some y)(hij:i≠j)
  (hx:X.env.scope.names.lookup x=some .local) (hy:X.env.scope.names.lookup y=some .local) (ha:PA X [a,b] ta)
  (hw:swappedStores [.Tuple [.Name x px,.Name y py] kt pt] (.Tuple [a,b] k2 pt2) X.env=pure (some [x,y]))
  (hs:swapsWithSole [.Tuple [.Name x px,.Name y py] kt pt] (.Tuple [a,b] k2 pt2) pos.line X.env=pure false:=by rfl) :
  PS X (.Assign [.Tuple [.Name x px,.Name y py] kt pt] (.Tuple [a,b] k2 pt2) pos) (Br i j ta):=by
 intro pins s σ H D I h;rw[exec_Assign_arm];refine ac (wpAny_standAt ?_);rw[hs];refine ac (aG ?_);rw[aA (by decide)];refine ac (Tuple_ (thn (ha _ pins s σ H _ I h) fun us s1 zz=>?_));obtain⟨vs,H1,I1,r1,q1⟩:=zz;obtain⟨v,w,e1,q1⟩:=q1;subst e1
 obtain⟨u1,u2,rfl,rv,rw'⟩:∃u1 u2,us=[u1,u2]/\cW v u1/\cW w u2:=by
  cases r1 with
  | cons p q=>
   cases q with
   | cons p' q'=>
    cases q';exact⟨_,_,rfl,p,p'⟩
 refine wpAny_newObj_type ?_ (by show 2<=sizeLine;decide);have I2:Inv X pins σ H1 { s1 with heap:=s1.heap.push { cls:=.type "tuple",data:=.seq [u1,u2].toArray } }:=I1.kept (t':=s1.toks) fun b o e=>az _ e;rw[hw];refine ac (aG ?_)
 show wpAny (model X.prog X.w) X.A (do rule "assign.swapped-stores";let items <- unpackItems (.ref s1.heap.objs.size) 2 none;assignInOrder [fun v=>bindName X.env y v,fun v=>bindName X.env x v] items.reverse;pure Flow.next) _ _ _;refine ac (wpAny_rule (ac (unpackItems_tuple (items:=#[u1,u2]) (I.ok.hd hc) (IsTup.new s1.heap _) fun h' hx'=>?_)))
 have I3:=I2.kept (h':=h') (t':=s1.toks) fun b o e=>hx' b o (aP (aZ e)) e;show wpAny _ _ (assignInOrder [fun v=>bindName X.env y v,fun v=>bindName X.env x v] [u2,u1] >>= fun _=>pure Flow.next) _ _ _;refine ac (assignInOrder_cons (wpAny_bindName (iz I3 hN hj (.inl hy) rw' (fun s2 I4=>?_) (.inr hy))))
 refine assignInOrder_cons (wpAny_bindName (iz I4 hN hi (.inl hx) rv (fun s3 I5=>assignInOrder_nil (aG ?_)) (.inr hx)));rw[List.set_comm _ _ (bM hij)] at I5;exact⟨_,H1,I5,q1⟩
def By (i:Nat)(te:TE)(ti:TIp):TS:=fun D σ H=>∃x,σ[i]?=some (some x)/\te σ H fun y H1=>ti x y H1 fun z H2=>D.nx (σ.set i (some z)) H2
theorem sj {op:Operator}(hN:X.N.Nodup)(hi:X.N[i]?=some x)(hx:Loc X.env.scope x)(he:PE X e te)(ho:PIp X op ti)(hf:X.fn x=true\/X.env.scope.names.lookup x=some .local:=by first|exact .inl rfl|exact .inr rfl|assumption) :
  PS X (.AugAssign (.Name x pos') op e pos) (By i te ti):=by
 intro pins s σ H D I h;obtain⟨v,e1,h⟩:=h;obtain⟨m,hn,hl⟩:=I.loc;have vis:Vis X.env.scope x:=by rcases hx with k|k;exact .inl k;exact .inr (.inl k)
 obtain⟨u,r,l⟩:=hl i x v hi e1 vis;refine wpAny_AugAssign_Name ?_
 have go:wpAny (model X.prog X.w) X.A (eval e X.env) (fun w s₂=>wpAny (model X.prog X.w) X.A (inplaceOp op u w) (fun r s₃=>wpAny (model X.prog X.w) X.A (storeName X.env x r) (fun _=>SP X pins D .next) X.xe s₃) X.xe s₂) X.xe s:=by
  refine thn (he pins s σ H _ I h) fun w s1 zz=>?_;obtain⟨y,H1,I1,r1,q1⟩:=zz;refine thn (ho pins s1 σ H1 v y u w _ I1 r r1 q1) fun z s2 zz=>?_;obtain⟨zv,H2,I2,r2,q2⟩:=zz;exact iz I2 hN hi hx r2 (fun s3 I3=>⟨_,H2,I3,q2⟩) hf
 rcases l with⟨hk,hm⟩|⟨hk,c,hc,hcell⟩
 ·exact wpAny_loadName_local I.ok.kind hk hn hm go
 ·rcases hk with hk|hk
  ·exact wpAny_loadName_cell I.ok.kind hk hc hcell go
  ·rcases hx with k|k
   ·have:X.env.scope.names.lookup x=some .free:=hk;rw[k] at this;cases this
   ·have:X.env.scope.names.lookup x=some .free:=hk;rw[k] at this;cases this
def ipI (f:Int->Int->Int):TIp:=fun x y H Q=>∃i j,x=.int i/\y=.int j/\Q (.int (f i j)) H
theorem zI:PIp X .Sub (ipI fun i j=>i - j):=by
 intro pins s σ H x y v u Q I r1 r2 h;obtain⟨i,j,e1,e2,q⟩:=h;subst e1;subst e2;obtain⟨t,rfl⟩:=r1;obtain⟨t',rfl⟩:=r2;exact isub_int ⟨.int _,H,I.tok _,⟨_,rfl⟩,q⟩
def vz (c:TT)(tb:TS):TS:=fun D σ H=>∃W:Nat->St->Hp->Prop,(∃m,W m σ H)/\∀m σ H,W m σ H ->
 c σ H fun b H1=>if b=true then ∃N:St->Hp->Prop,(∀σ' H',N σ' H'->∃m',m'<m/\W m' σ' H')/\tb { D with nx:=N,ct:=N,bk:=D.nx } σ H1 else D.nx σ H1
theorem iE (hp:PassesOwn (model X.prog X.w) X.A X.env X.xe)(hc:PT X c tc)(hb:PSs X body tb):PS X (.While c body [] pos) (vz tc tb):=by
 intro pins s σ H D I h;obtain⟨W,⟨m0,w0⟩,turn⟩:=h;refine wpAny_While (codeAny_whileLoop (fun n s'=>∃σ' H',Inv X pins σ' H' s'/\W n σ' H') ?_ m0 ⟨σ,H,I,w0⟩);rintro n s1 ⟨σ1,H1,I1,w1⟩;refine wpAny_passesOwn hp (thn (hc pins s1 σ1 H1 _ I1 (turn n σ1 H1 w1)) fun b s2 zz=>?_);obtain⟨H2,I2,q2⟩:=zz;cases b with
 | true=>
  obtain⟨N,hN,q2⟩:=q2;rw[aH rfl];refine wpAny_passesOwn hp (thn (hb pins s2 σ1 H2 _ I2 q2) fun f s3 q3=>?_);cases f with
  | next=>
   obtain⟨σ3,H3,I3,n3⟩:=q3;obtain⟨m',hm,w3⟩:=hN σ3 H3 n3;exact⟨m',hm,σ3,H3,I3,w3⟩
  | cont=>
   obtain⟨σ3,H3,I3,n3⟩:=q3;obtain⟨m',hm,w3⟩:=hN σ3 H3 n3;exact⟨m',hm,σ3,H3,I3,w3⟩
  | brk=>exact q3
  | ret v=>exact q3
 | false=>
  rw[aA ay];exact wpAny_execs_nil ⟨σ1,H2,I2,q2⟩
end
structure It where
 go:Nat->Hp->Prop
 yld:Nat->Hp->V->Hp->Prop
 stop:Nat->Hp->Prop
variable {J:L2.It}
def nZ (X:Cx)(pins:List (Addr×Obj))(H:Hp)(b:Addr):Prop:=
 H b=none/\b≠X.env.locals/\b∉X.fs/\(b∈X.ex\/X.s₀.heap.objs.size<=b)/\(∀x c,X.env.cells.lookup x=some c->c≠b)/\∀p∈X.pn++pins,p.1≠b
theorem Inv.fpOk (I:Inv X pins σ H s)(hb:s.heap.objs.size<=b)(hn:H' b=none):nZ X pins H' b:=by
 refine⟨hn,ne_of_gt (ba I.lt hb),I.nofs hb,.inr (bh I.sz hb),fun x c e z=>?_,fun p hp z=>?_⟩
 ·obtain⟨v,q⟩:=I.cell x c e;exact aY (ba q.lt (by rw[z];exact hb)) (lt_irrefl _)
 ·exact aY (ba (aZ (I.pin p hp).1) (by rw[z];exact hb)) (lt_irrefl _)
structure Turn (P:Program)(w:World)(K:Frag)(tg:Expr)(J:It)(fp:List Addr)(it:Addr)(tn:Nat->Heap->Prop):Prop where
 mem:it∈fp
 obj:∀i h,tn i h->∀b∈fp,∃o,h.get? b=some o/\∀v,o.data≠.cell v
 keep:∀i h h',tn i h->(∀b∈fp,∀o,h.get? b=some o->h'.get? b=some o)->tn i h'
 item:∀(X:Cx),X.prog=P->X.w=w->X.K=K->X.calm=true->∀(i:Nat) (pins:List (Addr×Obj)) (s:Shared) (σ:St) (H:Hp) (E:Value->Shared->Prop),Inv X pins σ H s->(∀b∈fp,nZ X pins H b)->tn i s.heap->J.go i H ->
  wpAny (model P w) X.A (pyNext (.ref it)) (fun r s1=>∃u,r=some u /\
   wpAny (model P w) X.A (letOwnedTupleGo tg (.ref it) u) (fun _ s2=>∃x H',Inv X pins σ H' s2/\cW x u/\J.yld i H x H'/\tn (i+1) s2.heap/\∀b∈fp,H' b=none) E s1) E s
 done:∀(X:Cx),X.prog=P->X.w=w->X.K=K->X.calm=true->∀(i:Nat) (pins:List (Addr×Obj)) (s:Shared) (σ:St) (H:Hp) (E:Value->Shared->Prop),Inv X pins σ H s->(∀b∈fp,nZ X pins H b)->tn i s.heap->J.stop i H ->
  wpAny (model P w) X.A (pyNext (.ref it)) (fun r s1=>r=none/\Inv X pins σ H s1) E s
 self:∀(A:Around) (i:Nat) (s:Shared) (Q:Value->Shared->Prop) (E:Value->Shared->Prop),tn i s.heap->Q (.ref it) s->wpAny (model P w) A (pyIter (.ref it)) Q E s
abbrev TI:=St->Hp->(It->Hp->Prop)->Prop
variable {wi:L2.TI}
def PIE (X:Cx)(pins:List (Addr×Obj))(σ:St)(tg:Expr)(R:It->Hp->Prop)(itv:Value)(s2:Shared):Prop:=
 ∃(it:Addr) (fp:List Addr) (tn:Nat->Heap->Prop) (J:It) (H':Hp),itv=.ref it/\Inv X pins σ H' s2/\Turn X.prog X.w X.K tg J fp it tn/\tn 0 s2.heap/\(∀b∈fp,nZ X pins H' b)/\R J H'
def PI (X:Cx)(tg iter:Expr)(wi:TI):Prop:=
 ∀(pins:List (Addr×Obj)) (s:Shared) (σ:St) (H:Hp) (R:It->Hp->Prop),Inv X pins σ H s->wi σ H R ->
  wpAny (model X.prog X.w) X.A (eval iter X.env) (fun v s1=>wpAny (model X.prog X.w) X.A (pyIter v) (PIE X pins σ tg R) X.xe s1) X.xe s
theorem tL {o:Obj}{n vs}{Q:Unit->Shared->Prop}(ho:s.heap.get? it=some o)(hc:o.cls=.type n)(hd:o.data=.fields vs)
    (hn:["enumerate","zip","dict_itemiterator","dict_reverseitemiterator","odict_iterator","itertools.zip_longest","itertools.pairwise"].contains n=false) (hQ:Q () s):wpAny M A (letOwnedTupleGo tg (.ref it) u) Q E s:=by
  unfold letOwnedTupleGo
  cases tg<;>first
    | exact aG hQ
    | (cases u<;>first
        | exact aG hQ
        | (refine ac (wpAny_load ho ?_)
           rw[hc,hd];show wpAny M A (if (["enumerate","zip","dict_itemiterator","dict_reverseitemiterator","odict_iterator","itertools.zip_longest","itertools.pairwise"].contains n&&vs[0]?==some (rawInt _))=true then _ else _) Q E s;rw[aA (by intro h;rw[hn,Bool.false_and] at h;cases h)]
           exact aG hQ))
def Itl (K:Frag)(a:Addr):It:=
 ⟨fun i H=>∃xs x,SqL K H a xs/\xs[i]?=some x,fun i H x H'=>H'=H/\∀xs,SqL K H a xs->xs[i]?=some x,fun i H=>∃xs,SqL K H a xs/\xs.length<=i⟩
def Itt (K:Frag)(a:Addr):It:=
 ⟨fun i H=>∃xs x,SqT K H a xs/\xs[i]?=some x,fun i H x H'=>H'=H/\∀xs,SqT K H a xs->xs[i]?=some x,fun i H=>∃xs,SqT K H a xs/\xs.length<=i⟩
def Itr (lo:Int)(n:Nat):It:=⟨fun i _=>i<n,fun i H x H'=>H'=H/\x=.int (lo+i),fun i _=>n<=i⟩
theorem rK (a it:Addr):Turn P w K tg (Itl K a) [it] it (fun i h=>h.IsListIter it a i) where
 mem:=by simp
 obj:=fun i h st b hb=>by
  have e:b=it:=by simpa using hb
  subst e;obtain⟨o,e,c,d⟩:=st;exact⟨o,e,fun v z=>by rw[d] at z;cases z⟩
 keep:=fun i h h' st k=>st.at fun o e=>k it (by simp) o e
 item:=by
  intro X hP hw hK hc i pins s σ H E I hf st hg;subst hP hw hK;obtain⟨xs,x,hq,hx⟩:=hg;obtain⟨its,rv,p,hz⟩:=I.list hq;obtain⟨u,hu,ru⟩:=rv.get hx;obtain⟨f0,f1,f2,f3,f4,f5⟩:=hf it (by simp);refine wpAny_pyNext_list_item st p.isList (x:=u) (by simpa using hu) fun h' st' sb=>?_;have I1:Inv X pins σ H { s with heap:=h' }:=I.turned (t':=s.toks) (fun b o hb e=>(sb.2 b hb).trans e) f0 f1 f3 f4 f5
  obtain⟨o,e,c,d⟩:=id st';exact⟨u,rfl,tL (s:={ s with heap:=h' }) e c d (by decide) ⟨x,H,I1,ru,⟨rfl,fun ys hy=>by rw[I.list_inj hy hq];exact hx⟩,st',fun b hb=>(hf b hb).1⟩⟩
 done:=by
  intro X hP hw hK hc i pins s σ H E I hf st hg;subst hP hw hK;obtain⟨xs,hq,hx⟩:=hg;obtain⟨its,rv,p,hz⟩:=I.list hq;obtain⟨f0,f1,f2,f3,f4,f5⟩:=hf it (by simp);have hl:=rv.length;exact wpAny_pyNext_list_end (I.ok.hd hc) st p.isList (by simp;lia) fun h' eb=>⟨rfl,I.turned (t':=s.toks) (fun b o hb e=>eb b o hb e) f0 f1 f3 f4 f5⟩
 self:=fun _ _ _ _ _ st h=>wpAny_pyIter_listiter st h
theorem qI (a it:Addr):Turn P w K tg (Itt K a) [it] it (fun i h=>h.IsTupleIter it a i) where
 mem:=by simp
 obj:=fun i h st b hb=>by
  have e:b=it:=by simpa using hb
  subst e;obtain⟨o,e,c,d⟩:=st;exact⟨o,e,fun v z=>by rw[d] at z;cases z⟩
 keep:=fun i h h' st k=>st.at fun o e=>k it (by simp) o e
 item:=by
  intro X hP hw hK hc i pins s σ H E I hf st hg;subst hP hw hK;obtain⟨xs,x,hq,hx⟩:=hg;obtain⟨its,rv,p,hz⟩:=I.tuple hq;obtain⟨u,hu,ru⟩:=rv.get hx;obtain⟨f0,f1,f2,f3,f4,f5⟩:=hf it (by simp);refine wpAny_pyNext_tuple_item st (show s.heap.IsTuple a its.toArray from p) (x:=u) (by simpa using hu) fun h' st' sb=>?_
  have I1:Inv X pins σ H { s with heap:=h' }:=I.turned (t':=s.toks) (fun b o hb e=>(sb.2 b hb).trans e) f0 f1 f3 f4 f5;obtain⟨o,e,c,d⟩:=id st';exact⟨u,rfl,tL (s:={ s with heap:=h' }) e c d (by decide) ⟨x,H,I1,ru,⟨rfl,fun ys hy=>by rw[I.tuple_inj hy hq];exact hx⟩,st',fun b hb=>(hf b hb).1⟩⟩
 done:=by
  intro X hP hw hK hc i pins s σ H E I hf st hg;subst hP hw hK;obtain⟨xs,hq,hx⟩:=hg;obtain⟨its,rv,p,hz⟩:=I.tuple hq;obtain⟨f0,f1,f2,f3,f4,f5⟩:=hf it (by simp);have hl:=rv.length;exact wpAny_pyNext_tuple_end (I.ok.hd hc) st (show s.heap.IsTuple a its.toArray from p) (by simp;lia) fun h' eb=>⟨rfl,I.turned (t':=s.toks) (fun b o hb e=>eb b o hb e) f0 f1 f3 f4 f5⟩
 self:=fun _ _ _ _ _ st h=>wpAny_pyIter_tupleiter st h
theorem qJ (it:Addr)(lo:Int)(n:Nat):Turn P w K tg (Itr lo n) [it] it (fun i h=>IsRangeIter h it (lo+(i:Nat) * 1) ((n:Int) - (i:Nat)) 1) where
 mem:=by simp
 obj:=fun i h st b hb=>by
  have e:b=it:=by simpa using hb
  subst e
  exact⟨_,st,fun v z=>by
   have z':Data.fields _=Data.cell v:=z
   cases z'⟩
 keep:=fun i h h' st k=>k it (by simp) _ st
 item:=by
  intro X hP hw hK hc i pins s σ H E I hf st hg;subst hP hw hK;obtain⟨f0,f1,f2,f3,f4,f5⟩:=hf it (by simp);have W:=Walks.range (prog:=X.prog) (w:=X.w) (I.ok.hd hc) it lo 1 n;refine W.item i s _ _ hg st fun v h' tk hv st' kk=>?_;obtain⟨t,rfl⟩:=hv;have I1:Inv X pins σ H { s with heap:=h',toks:=tk }:=I.turned (fun b o hb e=>kk b o (by simpa using hb) e) f0 f1 f3 f4 f5
  refine⟨_,rfl,tL (s:={ s with heap:=h',toks:=tk }) (n:="range_iterator") st' rfl rfl (by decide) ⟨.int (lo+i),H,I1,⟨t,?_⟩,⟨rfl,rfl⟩,st',fun b hb=>(hf b hb).1⟩⟩;rw[Int.mul_one]
 done:=by
  intro X hP hw hK hc i pins s σ H E I hf st hg;subst hP hw hK;obtain⟨f0,f1,f2,f3,f4,f5⟩:=hf it (by simp);exact wpAny_pyNext_range_end (I.ok.hd hc) st (by have:n<=i:=hg;lia) fun h' eb=>⟨rfl,I.turned (t':=s.toks) (fun b o hb e=>eb b o hb e) f0 f1 f3 f4 f5⟩
 self:=fun _ _ _ _ _ st h=>wpAny_pyIter_rangeiter st h
section
def tH (K:Frag)(tl:TE):TI:=fun σ H R=>tl σ H fun x H1=>∃a,x=.ref a/\(∃xs,SqL K H1 a xs)/\R (Itl K a) H1
def Cu (K:Frag)(tl:TE):TI:=fun σ H R=>tl σ H fun x H1=>∃a,x=.ref a/\(∃xs,SqT K H1 a xs)/\R (Itt K a) H1
theorem dm {l}(hl:PE X l tl):PI X tg l (tH X.K tl):=by
 intro pins s σ H R I h;refine thn (hl pins s σ H _ I h) fun v s1 zz=>?_;obtain⟨x,H1,I1,r1,q1⟩:=zz;obtain⟨a,e,⟨xs,hq⟩,q⟩:=q1;subst e;cases r1;obtain⟨its,rv,p,hz⟩:=I1.list hq;refine wpAny_pyIter_list p.isList ?_;refine⟨s1.heap.objs.size,[s1.heap.objs.size],_,_,H1,rfl,I1.kept (t':=s1.toks) fun b o e=>az _ e,rK a _,⟨_,aV _ rfl,rfl,rfl⟩,fun b hb=>?_,q⟩
 have e:b=s1.heap.objs.size:=by simpa using hb
 subst e;exact I1.fpOk (aE _) (I1.hok.fresh (aE _))
theorem yV {l}(hl:PE X l tl):PI X tg l (Cu X.K tl):=by
 intro pins s σ H R I h;refine thn (hl pins s σ H _ I h) fun v s1 zz=>?_;obtain⟨x,H1,I1,r1,q1⟩:=zz;obtain⟨a,e,⟨xs,hq⟩,q⟩:=q1;subst e;cases r1;obtain⟨its,rv,p,hz⟩:=I1.tuple hq;refine wpAny_pyIter_tuple (show s1.heap.IsTuple a its.toArray from p) ?_
 refine⟨s1.heap.objs.size,[s1.heap.objs.size],_,_,H1,rfl,I1.kept (t':=s1.toks) fun b o e=>az _ e,qI a _,⟨_,aV _ rfl,rfl,rfl⟩,fun b hb=>?_,q⟩;have e:b=s1.heap.objs.size:=by simpa using hb
 subst e;exact I1.fpOk (aE _) (I1.hok.fresh (aE _))
theorem uH {R:It->Hp->Prop}{hi:Int}{t u v:Tok}{tk:Nat}(I:Inv X pins σ H s)(h1:-(2 ^ 62)<=lo)(h2:lo<2 ^ 62)(h3:-(2 ^ 62)<=hi)(h4:hi<2 ^ 62)
  (q:R (Itr lo (hi - lo).toNat) H):wpAny (model X.prog X.w) X.A (pyIter (.ref s.heap.objs.size)) (PIE X pins σ tg R) E { s with heap:=s.heap.push { cls:=.type "range",data:=.fields #[.int lo t,.int hi u,.int 1 v] },toks:=tk }:=by
 refine wpAny_pyIter_range (IsRange.new ..) (small_one h1 h2 h3 h4) ?_;have I1:Inv X pins σ H { s with heap:=s.heap.push { cls:=.type "range",data:=.fields #[.int lo t,.int hi u,.int 1 v] },toks:=tk }:=I.kept fun b o e=>az _ e
 refine⟨(s.heap.push { cls:=.type "range",data:=.fields #[.int lo t,.int hi u,.int 1 v] }).objs.size,[(s.heap.push { cls:=.type "range",data:=.fields #[.int lo t,.int hi u,.int 1 v] }).objs.size],_,_,H,rfl,
  I1.kept (t':=tk) fun b o e=>az _ e,qJ _ lo (hi - lo).toNat,?_,fun b hb=>?_,q⟩
 ·have e1:lo+((0:Nat):Int) * 1=lo:=by simp
  have e2:(((hi - lo).toNat:Nat):Int) - ((0:Nat):Int)=Builtin.Range.rangeSize lo hi 1:=by rw[rangeSize_one];split<;>lia
  show IsRangeIter _ _ (lo+((0:Nat):Int) * 1) ((((hi - lo).toNat:Nat):Int) - ((0:Nat):Int)) 1;rw[e1,e2];exact aV _ rfl
 ·have e:b=(s.heap.push { cls:=.type "range",data:=.fields #[.int lo t,.int hi u,.int 1 v] }).objs.size:=by simpa using hb
  subst e;exact I1.fpOk (aE _) (I1.hok.fresh (aE _))
def zO (ta:TA):TI:=fun σ H R=>ta σ H fun vs H1=>∃j:Int,vs=[.int j]/\-(2 ^ 62)<=j/\j<2 ^ 62/\R (Itr 0 j.toNat) H1
theorem da {a ta}{pos:Pos}(hg:Gl X "range")(hm:X.mg "range" = none)(ha:PA X [a] ta)(hs:starEach [a] X.env=[(false,eval a X.env)]:=by rfl):PI X tg (.Call (.Name "range" p) [a] [] pos) (zO ta):=by
 intro pins s σ H R I h;refine Call_ (h_ I hg hm boot_range (PyProof.Rows.callWith_type1 (thn (ha pos pins s σ H _ I h) fun us s1 ⟨vs,H1,I1,r1,q1⟩=>?_) hs rfl));obtain⟨j,e,q1,q2,q⟩:=q1;subst e;cases r1 with
 | cons r rr=>
  cases rr;obtain⟨t,rfl⟩:=r;exact call_range_1 (uH I1 (by lia) (by lia) q1 q2 (by simpa using q))
def Ad (wi:TI)(g:TG)(tb:TS):TS:=fun D σ H=>wi σ H fun J H1=>∃W:Nat->Nat->St->Hp->Prop,(∃m,W 0 m σ H1)/\∀i m σ H,W i m σ H ->
 (J.stop i H/\D.nx σ H)\/(J.go i H/\∃N:St->Hp->Prop,(∀σ' H',N σ' H'->∃m',m'<m/\W (i+1) m' σ' H')/\∀x H',J.yld i H x H'->g x σ H' fun σ2 H2=>tb { D with nx:=N,ct:=N,bk:=D.nx } σ2 H2)
def kH (fp:List Addr)(h:Heap):List (Addr×Obj):=fp.filterMap fun b=>(h.get? b).map fun o=>(b,o)
theorem eW {o}(hb:b∈fp)(e:h.get? b=some o):(b,o)∈kH fp h:=mem_filterMap.mpr ⟨b,hb,by rw[e];rfl⟩
theorem sN {p:Addr×Obj}(hp:p∈kH fp h):p.1∈fp/\h.get? p.1=some p.2:=by
 obtain⟨b,hb,e⟩:=mem_filterMap.mp hp;cases q:h.get? b with
 | none=>rw[q] at e;cases e
 | some o=>
  rw[q] at e;have e':(b,o)=p:=aw e;subst e';exact⟨hb,q⟩
theorem Inv.pinned (I:Inv X pins σ H s)(hf:∀b∈fp,nZ X pins H b)(ho:∀b∈fp,∃o,s.heap.get? b=some o/\∀v,o.data≠.cell v):Inv X (pins++kH fp s.heap) σ H s:=
 I.pins_of fun p hp=>(aT.mp hp).elim (fun z=>I.pin p (aU _ z)) fun z=>by
  obtain⟨hb,e⟩:=sN z;obtain⟨f0,f1,f2,_⟩:=hf p.1 hb;obtain⟨o,e',d⟩:=ho p.1 hb;rw[e] at e';cases e';exact⟨e,f0,f1,f2,d⟩
theorem Inv.unpinned {pl}(I:Inv X (pins++pl) σ H s):Inv X pins σ H s:=I.pins_of fun p hp=>I.pin p (aU _ (bE _ hp))
theorem dC {pos:Pos}(hp:PassesOwn (model X.prog X.w) X.A X.env X.xe)(hc:X.calm=true)(hi:PI X tg iter wi)(hg:PG X tg g)(hb:PSs X body tb)
  (hs:∀x,foldedSetIterable iter X.env x=pure x:=by intro _;rfl):PS X (.For tg iter body [] pos) (Ad wi g tb):=by
 intro pins s σ H D I h;refine wpAny_For (thn (hi pins s σ H _ I h) fun v s1 h1=>thn h1 fun itv s2 h2=>?_) hs;obtain⟨it,fp,tn,J,H2,e,I2,T,st2,f2,W,⟨m0,w0⟩,turn⟩:=h2;subst e
 -- what stays true of the iterator's objects through the loop
 have stat:∀{H':Hp},(∀b∈fp,H' b=none)->∀b∈fp,nZ X pins H' b:=fun hn b hb=>⟨hn b hb,(f2 b hb).2⟩;refine codeAny_forLoop_any (fun n s'=>∃i σ' H',Inv X pins σ' H' s'/\tn i s'.heap/\(∀b∈fp,H' b=none)/\W i n σ' H') ?_ m0 ⟨0,σ,H2,I2,st2,fun b hb=>(f2 b hb).1,w0⟩;rintro n s3 ⟨i,σ3,H3,I3,st3,fr3,w3⟩;rcases turn i n σ3 H3 w3 with⟨stop,qn⟩|⟨go,N,hN,step⟩
 ·refine wpAny_passesOwn hp (thn (T.done X rfl rfl rfl hc i pins s3 σ3 H3 X.xe I3 (stat fr3) st3 stop) fun r s4 zz=>?_);obtain⟨hr,I4⟩:=zz;subst hr;exact wpAny_execs_nil ⟨σ3,H3,I4,qn⟩
 ·refine wpAny_passesOwn hp (thn (T.item X rfl rfl rfl hc i pins s3 σ3 H3 X.xe I3 (stat fr3) st3 go) fun r s4 zz=>?_);obtain⟨u,hr,h4⟩:=zz;subst hr;refine wpAny_passesOwn hp (thn h4 fun _ s5 zz=>?_);obtain⟨x,H5,I5,r5,y5,st5,fr5⟩:=zz;have I5':=I5.pinned (stat fr5) (T.obj _ _ st5);refine wpAny_passesOwn hp (thn (hg _ s5 σ3 H5 x u _ I5' r5 (step x H5 y5)) fun _ s6 zz=>?_);obtain⟨σ6,H6,I6,q6⟩:=zz
  refine wpAny_passesOwn hp (thn (hb _ s6 σ6 H6 _ I6 q6) fun f s7 q7=>?_)
  have again:∀{σ7:St} {H7:Hp},Inv X (pins++kH fp s5.heap) σ7 H7 s7->N σ7 H7->∃m,m<n/\∃i σ' H',Inv X pins σ' H' s7/\tn i s7.heap/\(∀b∈fp,H' b=none)/\W i m σ' H':=fun {σ7 H7} I7 n7=>by
   obtain⟨m',hm,w7⟩:=hN σ7 H7 n7;refine⟨m',hm,i+1,σ7,H7,I7.unpinned,T.keep _ _ _ st5 fun b hb o e=>(I7.pin (b,o) (aU _ (aU _ (eW hb e)))).1,fun b hb=>?_,w7⟩;obtain⟨o,e,d⟩:=T.obj _ _ st5 b hb;exact(I7.pin (b,o) (aU _ (aU _ (eW hb e)))).2.1
  cases f with
  | next=>obtain⟨σ7,H7,I7,n7⟩:=q7;exact again I7 n7
  | cont=>obtain⟨σ7,H7,I7,n7⟩:=q7;exact again I7 n7
  | brk=>obtain⟨σ7,H7,I7,q7⟩:=q7;exact⟨σ7,H7,I7.unpinned,q7⟩
  | ret v=>obtain⟨x7,σ7,H7,I7,r7,q7⟩:=q7;exact⟨x7,σ7,H7,I7.unpinned,r7,q7⟩
end
theorem qB {D:Ends}(Pv:Nat->St->Hp->Prop)(h0:Pv 0 σ H)(hl:∀i σ H,i<=xs.length->Pv i σ H->SqL K H a xs)
  (hs:∀i x σ H,xs[i]?=some x->Pv i σ H->g x σ H fun σ2 H2=>tb { D with nx:=Pv (i+1),ct:=Pv (i+1),bk:=D.nx } σ2 H2) (hd:∀σ H,Pv xs.length σ H->D.nx σ H) :
  ∃W:Nat->Nat->St->Hp->Prop,(∃m,W 0 m σ H)/\∀i m σ H,W i m σ H ->
   ((Itl K a).stop i H/\D.nx σ H)\/((Itl K a).go i H/\∃N:St->Hp->Prop,(∀σ' H',N σ' H'->∃m',m'<m/\W (i+1) m' σ' H')/\∀x H',(Itl K a).yld i H x H'->g x σ H' fun σ2 H2=>tb { D with nx:=N,ct:=N,bk:=D.nx } σ2 H2):=by
 refine⟨fun i m σ H=>m=xs.length - i/\i<=xs.length/\Pv i σ H,⟨xs.length,by simp,zero_le _,h0⟩,?_⟩;rintro i m σ H ⟨rfl,hi,p⟩;have q:=hl i σ H hi p;by_cases hlt:i<xs.length
 ·refine .inr ⟨⟨xs,xs[i],q,by simp[hlt]⟩,Pv (i+1),fun σ' H' p'=>⟨xs.length - (i+1),by lia,rfl,hlt,p'⟩,fun x H' y=>?_⟩;obtain⟨e,y⟩:=y;subst e;exact hs i x σ _ (y xs q) p
 ·have e:i=xs.length:=by lia
  subst e;exact .inl ⟨⟨xs,q,aE _⟩,hd σ H p⟩
theorem tM {D:Ends}(Pv:Nat->St->Hp->Prop)(h0:Pv 0 σ H)
  (hs:∀i σ H,i<n->Pv i σ H->g (.int (lo+i)) σ H fun σ2 H2=>tb { D with nx:=Pv (i+1),ct:=Pv (i+1),bk:=D.nx } σ2 H2) (hd:∀σ H,Pv n σ H->D.nx σ H) :
  ∃W:Nat->Nat->St->Hp->Prop,(∃m,W 0 m σ H)/\∀i m σ H,W i m σ H ->
   ((Itr lo n).stop i H/\D.nx σ H)\/((Itr lo n).go i H/\∃N:St->Hp->Prop,(∀σ' H',N σ' H'->∃m',m'<m/\W (i+1) m' σ' H')/\∀x H',(Itr lo n).yld i H x H'->g x σ H' fun σ2 H2=>tb { D with nx:=N,ct:=N,bk:=D.nx } σ2 H2):=by
 refine⟨fun i m σ H=>m=n - i/\i<=n/\Pv i σ H,⟨n,by simp,zero_le _,h0⟩,?_⟩;rintro i m σ H ⟨rfl,hi,p⟩;by_cases hlt:i<n
 ·refine .inr ⟨hlt,Pv (i+1),fun σ' H' p'=>⟨n - (i+1),by lia,rfl,hlt,p'⟩,fun x H' y=>?_⟩;obtain⟨e,y⟩:=y;subst e y;exact hs i σ _ hlt p
 ·have e:i=n:=by lia
  subst e;exact .inl ⟨aE _,hd σ H p⟩
abbrev R2:=V->V->Hp->VK->Prop
variable {r r':L2.R2}
def OpR (X:Cx)(f:Value->Value->Sem Value)(r:R2):Prop:=
 ∀(pins:List (Addr×Obj)) (s:Shared) (σ:St) (H:Hp) (x y:V) (v u:Value) (Q:VK),Inv X pins σ H s->cW x v->cW y u->r x y H Q ->
  wpAny (model X.prog X.w) X.A (f v u) (EP X pins σ Q) X.xe s
def UnR (X:Cx)(f:Value->Sem Value)(r:V->Hp->VK->Prop):Prop:=
 ∀(pins:List (Addr×Obj)) (s:Shared) (σ:St) (H:Hp) (x:V) (v:Value) (Q:VK),Inv X pins σ H s->cW x v->r x H Q ->
  wpAny (model X.prog X.w) X.A (f v) (EP X pins σ Q) X.xe s
def fX (X:Cx)(f:Value)(r:List V->Hp->VK->Prop):Prop:=
 ∀(pins:List (Addr×Obj)) (s:Shared) (σ:St) (H:Hp) (xs:List V) (us:List Value) (Q:VK),Inv X pins σ H s->cU xs us->r xs H Q ->
  wpAny (model X.prog X.w) X.A (call f us) (EP X pins σ Q) X.xe s
def Cy (X:Cx)(r:V->Hp->(Bool->Hp->Prop)->Prop):Prop:=
 ∀(pins:List (Addr×Obj)) (s:Shared) (σ:St) (H:Hp) (x:V) (v:Value) (Q:Bool->Hp->Prop),Inv X pins σ H s->cW x v->r x H Q ->
  wpAny (model X.prog X.w) X.A (truthy v) (TP X pins σ Q) X.xe s
def tOp (r:R2)(ta tb:TE):TE:=fun σ H Q=>ta σ H fun x H1=>tb σ H1 fun y H2=>r x y H2 Q
def tUn (r:V->Hp->VK->Prop)(ta:TE):TE:=fun σ H Q=>ta σ H fun x H1=>r x H1 Q
def rI (C:Int->Int->Prop)(g:Int->Int->V):R2:=fun x y H Q=>∃i j,x=.int i/\y=.int j/\C i j/\Q (g i j) H
def rI0 (g:Int->Int->V):R2:=fun x y H Q=>∃i j,x=.int i/\y=.int j/\Q (g i j) H
def rU (g:Int->V):V->Hp->VK->Prop:=fun x H Q=>∃i,x=.int i/\Q (g i) H
section
variable {a b:Expr}{tb tc:TE}{pos:Pos}
theorem Bn (ha:PE X a ta)(hb:PE X b tb){R:V->V->Hp->Prop}(I:Inv X pins σ H s)
  (h:ta σ H fun x H1=>tb σ H1 fun y H2=>R x y H2) {f:Value->Value->Sem Value}
  (hf:∀v u s2 x y H2,Inv X pins σ H2 s2->cW x v->cW y u->R x y H2->wpAny (model X.prog X.w) X.A (f v u) Q X.xe s2) :
  wpAny (model X.prog X.w) X.A (eval a X.env) (fun v s₁=>wpAny (model X.prog X.w) X.A (eval b X.env) (fun u s₂=>wpAny (model X.prog X.w) X.A (f v u) Q X.xe s₂) X.xe s₁) X.xe s:=by
 refine thn (ha pins s σ H _ I h) fun v s1 zz=>?_;obtain⟨x,H1,I1,r1,q1⟩:=zz;refine thn (hb pins s1 σ H1 _ I1 q1) fun u s2 zz=>?_;obtain⟨y,H2,I2,r2,q2⟩:=zz;exact hf v u s2 x y H2 I2 r1 r2 q2
theorem bN {op:Operator}(ho:OpR X (binaryOp op) r)(ha:PE X a ta)(hb:PE X b tb):PE X (.BinOp a op b pos) (tOp r ta tb):=by
 intro pins s σ H Q I h;exact wpAny_BinOp (Bn ha hb I h fun v u s2 x y H2 I2 rx ry q=>ho pins s2 σ H2 x y v u Q I2 rx ry q)
theorem ii {op:UnaryOp}{r:V->Hp->VK->Prop}(ho:UnR X (unaryOp op) r)(ha:PE X a ta):PE X (.UnaryOp op a pos) (tUn r ta):=by
 intro pins s σ H Q I h;exact UnaryOp_ (thn (ha pins s σ H _ I h) fun v s1 zz=>by obtain⟨x,H1,I1,r1,q1⟩:=zz;exact ho pins s1 σ H1 x v Q I1 r1 q1)
theorem opI {f:Value->Value->Sem Value}{C:Int->Int->Prop}{g:Int->Int->Int}
  (rule:∀(i j:Int) (t u:Tok) (s:Shared) (Q:Value->Shared->Prop) (E:Value->Shared->Prop),C i j->Q (.int (g i j) s.toks) { s with toks:=s.toks+1 }->wpAny (model X.prog X.w) X.A (f (.int i t) (.int j u)) Q E s) :
  OpR X f (rI C fun i j=>.int (g i j)):=by
 intro pins s σ H x y v u Q I rx ry h;obtain⟨i,j,rfl,rfl,hc,q⟩:=h;obtain⟨t,rfl⟩:=rx;obtain⟨t',rfl⟩:=ry;exact rule i j t t' s _ _ hc ⟨.int (g i j),H,I.tok _,⟨_,rfl⟩,q⟩
theorem BJ {f:Value->Value->Sem Value}{g:Int->Int->Int}
  (rule:∀(i j:Int) (t u:Tok) (s:Shared) (Q:Value->Shared->Prop) (E:Value->Shared->Prop),Q (.int (g i j) s.toks) { s with toks:=s.toks+1 }->wpAny (model X.prog X.w) X.A (f (.int i t) (.int j u)) Q E s) :
  OpR X f (rI0 fun i j=>.int (g i j)):=by
 intro pins s σ H x y v u Q I rx ry h;obtain⟨i,j,rfl,rfl,q⟩:=h;obtain⟨t,rfl⟩:=rx;obtain⟨t',rfl⟩:=ry;exact rule i j t t' s _ _ ⟨.int (g i j),H,I.tok _,⟨_,rfl⟩,q⟩
theorem Ak {f:Value->Value->Sem Value}{g:Int->Int->Bool}
  (rule:∀(i j:Int) (t u:Tok) (s:Shared) (Q:Value->Shared->Prop) (E:Value->Shared->Prop),Q (.bool (g i j)) s->wpAny (model X.prog X.w) X.A (f (.int i t) (.int j u)) Q E s) :
  OpR X f (rI0 fun i j=>.bl (g i j)):=by
 intro pins s σ H x y v u Q I rx ry h;obtain⟨i,j,rfl,rfl,q⟩:=h;obtain⟨t,rfl⟩:=rx;obtain⟨t',rfl⟩:=ry;exact rule i j t t' s _ _ ⟨.bl (g i j),H,I,rfl,q⟩
def CB (i j:Int):Prop:=0<=j/\j<=1000000/\i.natAbs<2 ^ 64
def Bq (i j:Int):Prop:=(-(2 ^ 64)<i/\i<2 ^ 64)\/(-(2 ^ 64)<j/\j<2 ^ 64)
theorem Bq.ok {i j:Int}(h:Bq i j):IntMulOk i j:=by
 rcases h with⟨h1,h2⟩|⟨h1,h2⟩
 ·exact .of_left (intBits_le_64 h1 h2)
 ·exact .of_right (intBits_le_64 h1 h2)
theorem cH:OpR X (binaryOp .Add) (rI0 fun i j=>.int (i+j)):=BJ fun _ _ _ _ _ _ _ q=>add_int q
theorem g_:OpR X (binaryOp .Sub) (rI0 fun i j=>.int (i - j)):=BJ fun _ _ _ _ _ _ _ q=>sub_int q
theorem mM:OpR X (binaryOp .Mult) (rI Bq fun i j=>.int (i * j)):=opI fun _ _ _ _ _ _ _ hc q=>mul_int q hc.ok
theorem jp:OpR X (binaryOp .Mod) (rI (fun _ j=>0<j) fun i j=>.int (i % j)):=opI fun i j _ _ _ _ _ hc q=>by
 have h1:(0:Int)<j:=hc;exact mod_int' (by lia) (by rw[Int.fmod_eq_emod_of_nonneg i (by lia)];exact q)
theorem vL:OpR X (binaryOp .Pow) (rI CB fun i j=>.int (i ^ j.toNat)):=opI fun _ _ _ _ _ _ _ hc q=>pow_int_small hc.1 hc.2.1 hc.2.2 q
theorem unI {f:Value->Sem Value}{g:Int->Int}
  (rule:∀(i:Int) (t:Tok) (s:Shared) (Q:Value->Shared->Prop) (E:Value->Shared->Prop),Q (.int (g i) s.toks) { s with toks:=s.toks+1 }->wpAny (model X.prog X.w) X.A (f (.int i t)) Q E s) :
  UnR X f (rU fun i=>.int (g i)):=by
 intro pins s σ H x v Q I rx h;obtain⟨i,rfl,q⟩:=h;obtain⟨t,rfl⟩:=rx;exact rule i t s _ _ ⟨.int (g i),H,I.tok _,⟨_,rfl⟩,q⟩
theorem eX:UnR X (unaryOp .USub) (rU fun i=>.int (-i)):=unI fun _ _ _ _ _ q=>neg_int q
end
def Ah:V->V->Bool
 | .non,.non=>true|.non,.int _=>true|.int _,.non=>true|.non,.bl _=>true|.bl _,.non=>true|.non,.str _=>true|.str _,.non=>true
 | .int _,.int _=>true|.bl _,.bl _=>true|.str _,.str _=>true|.byt _,.byt _=>true
 | .int _,.str _=>true|.str _,.int _=>true|.bl _,.str _=>true|.str _,.bl _=>true
 | _,_=>false
def rEq:R2:=fun x y H Q=>Ah x y=true/\Q (.bl (decide (x=y))) H
def rNe:R2:=fun x y H Q=>Ah x y=true/\Q (.bl (!decide (x=y))) H
theorem tT {i j:Int}:decide (V.int i=V.int j)=(i==j):=by
 rw[Bool.eq_iff_iff];simp
theorem v3 {i j}:decide (V.bl i=V.bl j)=(i==j):=by
 rw[Bool.eq_iff_iff];simp
theorem tS {i j}:decide (V.str i=V.str j)=(i==j):=by
 rw[Bool.eq_iff_iff];simp
theorem tU {i j:Array UInt8}:decide (V.byt i=V.byt j)=(i.toList==j.toList):=by
 rw[Bool.eq_iff_iff];cases i;cases j;simp
section
variable {a b:Expr}{tb tc:TE}{pos:Pos}
theorem cB {Q k k'}(I:Inv X pins σ H s)(q:Q (.bl k) H)(e:k=k'):EP X pins σ Q (.bool k') s:=by
 subst e;exact⟨.bl k,H,I,rfl,q⟩
theorem fJ:OpR X (compareOp .Eq) rEq:=by
 intro pins s σ H x y v u Q I rx ry h;obtain⟨hs,q⟩:=h;cases x with
 | non=>
  cases rx;cases y with
  | non=>cases ry;exact PySem.EqNone.eq_none_none (cB I q (by simp))
  | bl j=>cases ry;exact PySem.EqNone.eq_none_bool (cB I q (by simp))
  | int j=>obtain⟨t',rfl⟩:=ry;exact PySem.EqNone.eq_none_int (cB I q (by simp))
  | str j=>obtain⟨t',rfl⟩:=ry;exact PySem.EqNone.eq_none_str (cB I q (by simp))
  | _=>exact aY (show false=true from hs) ay
 | bl i=>
  cases rx;cases y with
  | non=>cases ry;exact PySem.EqNone.eq_bool_none (cB I q (by simp))
  | bl j=>cases ry;exact eq_bool (cB I q v3)
  | str j=>obtain⟨t',rfl⟩:=ry;exact PySem.EqMixed.eq_bool_str (cB I q (by simp))
  | _=>exact aY (show false=true from hs) ay
 | int i=>
  obtain⟨t,rfl⟩:=rx;cases y with
  | non=>cases ry;exact PySem.EqNone.eq_int_none (cB I q (by simp))
  | int j=>obtain⟨t',rfl⟩:=ry;exact eq_int (cB I q tT)
  | str j=>obtain⟨t',rfl⟩:=ry;exact PySem.EqMixed.eq_int_str (cB I q (by simp))
  | _=>exact aY (show false=true from hs) ay
 | str i=>
  obtain⟨t,rfl⟩:=rx;cases y with
  | non=>cases ry;exact PySem.EqNone.eq_str_none (cB I q (by simp))
  | bl j=>cases ry;exact PySem.EqMixed.eq_str_bool (cB I q (by simp))
  | int j=>obtain⟨t',rfl⟩:=ry;exact PySem.EqMixed.eq_str_int (cB I q (by simp))
  | str j=>obtain⟨t',rfl⟩:=ry;exact eq_str (cB I q tS)
  | _=>exact aY (show false=true from hs) ay
 | byt i=>
  obtain⟨t,rfl⟩:=rx;cases y with
  | byt j=>obtain⟨t',rfl⟩:=ry;exact PySem.W.eq_bytes (cB I q tU)
  | _=>exact aY (show false=true from hs) ay
 | _=>cases y<;>exact aY (show false=true from hs) ay
theorem qR:OpR X (compareOp .NotEq) rNe:=by
 intro pins s σ H x y v u Q I rx ry h;obtain⟨hs,q⟩:=h;cases x with
 | non=>
  cases rx;cases y with
  | non=>cases ry;exact PySem.EqNone.ne_none_none (cB I q (by simp))
  | bl j=>cases ry;exact PySem.EqNone.ne_none_bool (cB I q (by simp))
  | int j=>obtain⟨t',rfl⟩:=ry;exact PySem.EqNone.ne_none_int (cB I q (by simp))
  | str j=>obtain⟨t',rfl⟩:=ry;exact PySem.EqNone.ne_none_str (cB I q (by simp))
  | _=>exact aY (show false=true from hs) ay
 | bl i=>
  cases rx;cases y with
  | non=>cases ry;exact PySem.EqNone.ne_bool_none (cB I q (by simp))
  | bl j=>cases ry;exact ne_bool (cB I q (bq not v3))
  | str j=>obtain⟨t',rfl⟩:=ry;exact PySem.EqMixed.ne_bool_str (cB I q (by simp))
  | _=>exact aY (show false=true from hs) ay
 | int i=>
  obtain⟨t,rfl⟩:=rx;cases y with
  | non=>cases ry;exact PySem.EqNone.ne_int_none (cB I q (by simp))
  | int j=>obtain⟨t',rfl⟩:=ry;exact ne_int (cB I q (bq not tT))
  | str j=>obtain⟨t',rfl⟩:=ry;exact PySem.EqMixed.ne_int_str (cB I q (by simp))
  | _=>exact aY (show false=true from hs) ay
 | str i=>
  obtain⟨t,rfl⟩:=rx;cases y with
  | non=>cases ry;exact PySem.EqNone.ne_str_none (cB I q (by simp))
  | bl j=>cases ry;exact PySem.EqMixed.ne_str_bool (cB I q (by simp))
  | int j=>obtain⟨t',rfl⟩:=ry;exact PySem.EqMixed.ne_str_int (cB I q (by simp))
  | str j=>obtain⟨t',rfl⟩:=ry;exact ne_str (cB I q (bq not tS))
  | _=>exact aY (show false=true from hs) ay
 | byt i=>
  obtain⟨t,rfl⟩:=rx;cases y with
  | byt j=>obtain⟨t',rfl⟩:=ry;exact PySem.W.ne_bytes (cB I q (bq not tU))
  | _=>exact aY (show false=true from hs) ay
 | _=>cases y<;>exact aY (show false=true from hs) ay
theorem qS:OpR X (compareOp .Lt) (rI0 fun i j=>.bl (decide (i<j))):=Ak fun _ _ _ _ _ _ _ q=>lt_int q
theorem oy:OpR X (compareOp .LtE) (rI0 fun i j=>.bl (decide (i<=j))):=Ak fun _ _ _ _ _ _ _ q=>le_int q
theorem i8:OpR X (compareOp .Gt) (rI0 fun i j=>.bl (decide (j<i))):=Ak fun _ _ _ _ _ _ _ q=>gt_int q
theorem wQ:OpR X (compareOp .GtE) (rI0 fun i j=>.bl (decide (j<=i))):=Ak fun _ _ _ _ _ _ _ q=>ge_int q
theorem jq:OpR X (compareOp .Is) (fun x y H Q=>y=.non/\Q (.bl (decide (x=.non))) H):=by
 intro pins s σ H x y v u Q I rx ry h;obtain⟨rfl,q⟩:=h;cases ry;refine is_none_gen (cB I q ?_)
 cases x<;>first
  | (cases rx;rfl)
  | (obtain⟨t,rfl⟩:=rx;rfl)
theorem i7:OpR X (compareOp .IsNot) (fun x y H Q=>y=.non/\Q (.bl (!decide (x=.non))) H):=by
 intro pins s σ H x y v u Q I rx ry h;obtain⟨rfl,q⟩:=h;cases ry;refine isnot_none_gen (cB I q ?_)
 cases x<;>first
  | (cases rx;rfl)
  | (obtain⟨t,rfl⟩:=rx;rfl)
theorem gw (b:Expr)(h:op≠.In:=by decide)(h2:op≠.NotIn:=by decide):behindInMarks op b=false:=by
 have e1:(op==CmpOp.In)=false:=by cases op<;>first|rfl|exact aY rfl h
 have e2:(op==CmpOp.NotIn)=false:=by cases op<;>first|rfl|exact aY rfl h2
 cases b<;>simp[behindInMarks,e1,e2]
theorem eB (ho:OpR X (compareOp op) r)(ha:PE X a ta)(hb:PE X b tb)(hm:behindInMarks op b=false):PE X (.Compare a [op] [b] pos) (tOp r ta tb):=by
 intro pins s σ H Q I h;exact wpAny_Compare1 (Bn ha hb I h fun v u s2 x y H2 I2 rx ry q=>ho pins s2 σ H2 x y v u Q I2 rx ry q) hm
def wj (t:TE):TT:=fun σ H Q=>t σ H fun x H'=>∃k,x=.bl k/\Q k H'
theorem dF (ho:OpR X (compareOp op) r)(ha:PE X a ta)(hb:PE X b tb)(hm:behindInMarks op b=false):PT X (.Compare a [op] [b] pos) (wj (tOp r ta tb)):=by
 intro pins s σ H Q I h
 refine wpAny_isTrue_Compare1 (thn (ha pins s σ H _ I h) fun v s1 ⟨x,H1,I1,r1,q1⟩=>thn (hb pins s1 σ H1 _ I1 q1) fun u s2 ⟨y,H2,I2,r2,q2⟩=>
  thn (ho pins s2 σ H2 x y v u _ I2 r1 r2 q2) fun c s3 ⟨z,H3,I3,r3,k,e,q3⟩=>?_) hm
 subst e;cases r3;exact wpAny_truthy_bool ⟨H3,I3,q3⟩
def vC (r r':R2)(ta tb tc:TE):TE:=fun σ H Q=>ta σ H fun x H1=>tb σ H1 fun y H2=>r x y H2 fun z H3=>∃k,z=.bl k /\
 (if k=true then tc σ H3 fun w' H4=>r' y w' H4 Q else Q (.bl false) H3)
theorem pZ (ho:OpR X (compareOp op) r)(ho':OpR X (compareOp op') r')(ha:PE X a ta)(hb:PE X b tb)(hc:PE X c tc)
  (hm:lastMarks [op,op'] [b,c]=false:=by with_unfolding_all rfl):PE X (.Compare a [op,op'] [b,c] pos) (vC r r' ta tb tc):=by
 intro pins s σ H Q I h
 refine Compare_chain (thn (ha pins s σ H _ I h) fun v s1 ⟨x,H1,I1,r1,q1⟩=>chain_link (thn (hb pins s1 σ H1 _ I1 q1) fun u s2 ⟨y,H2,I2,r2,q2⟩=>
  thn (ho pins s2 σ H2 x y v u _ I2 r1 r2 q2) fun d s3 ⟨z,H3,I3,r3,k,e,q3⟩=>?_)) hm
 subst e;cases r3;refine wpAny_truthy_bool ?_;cases k with
 | false=>exact ite_ff ⟨.bl false,H3,I3,rfl,q3⟩
 | true=>exact ite_tt (chain_last (thn (hc pins s3 σ H3 _ I3 q3) fun w' s4 ⟨z',H4,I4,r4,q4⟩=>ho' pins s4 σ H4 y z' u w' Q I4 r2 r4 q4))
def An (K:Frag)(x:V)(H:Hp)(k:Bool):Prop:=
 match x with
 | .non=>k=false
 | .bl b=>k=b
 | .int i=>k=(i != 0)
 | .str y=>y.length<=sizeLine/\k=((y.length:Int) != 0)
 | .byt y=>y.size<=sizeLine/\k=((y.size:Int) != 0)
 | .ref p=>(∃xs,SqL K H p xs/\k = !xs.isEmpty)\/(∃xs,SqT K H p xs/\k = !xs.isEmpty)\/∃kvs,H p=some (.dK kvs)/\k = !kvs.isEmpty
 | _=>False
theorem q_ {κ:Type}{kvs:List (κ×V)}{vs:List (κ×Value)}(r:KV kvs vs):(!vs.isEmpty) = !kvs.isEmpty:=by
 cases r<;>rfl
theorem kS {its:List Value}(r:cU xs its):(!its.toArray.isEmpty) = !xs.isEmpty:=by
 cases r<;>simp
theorem kP:(sizeLine:Nat)<2 ^ 63:=by rw[sizeLine_eq];decide
theorem vy:Cy X (fun x H Q=>∃k,An X.K x H k/\Q k H):=by
 intro pins s σ H x v Q I rx h;obtain⟨k,e,q⟩:=h;have hl:=kP;have hs:sizeLine=16777216:=sizeLine_eq;cases x with
 | non=>
  cases rx;have e':k=false:=e;subst e';exact truthy_none ⟨H,I,q⟩
 | bl b=>
  cases rx;have e':k=b:=e;subst e';exact wpAny_truthy_bool ⟨H,I,q⟩
 | int i=>
  obtain⟨t,rfl⟩:=rx;have e':k=(i != 0):=e;subst e';exact PySem.P.truthy_int ⟨H,I,q⟩
 | str y=>
  obtain⟨t,rfl⟩:=rx;obtain⟨hy,e'⟩:y.length<=sizeLine/\k=((y.length:Int) != 0):=e;subst e';exact PySem.P.truthy_str (by lia) ⟨H,I.tok _,q⟩
 | byt y=>
  obtain⟨t,rfl⟩:=rx;obtain⟨hy,e'⟩:y.size<=sizeLine/\k=((y.size:Int) != 0):=e;subst e';exact PySem.W.truthy_bytes (by lia) ⟨H,I.tok _,q⟩
 | ref p=>
  cases rx;have e':(∃xs,SqL X.K H p xs/\k = !xs.isEmpty)\/(∃xs,SqT X.K H p xs/\k = !xs.isEmpty)\/∃kvs,H p=some (.dK kvs)/\k = !kvs.isEmpty:=e;rcases e' with⟨xs,hx,e'⟩|⟨xs,hx,e'⟩|⟨kvs,hx,e'⟩
  ·subst e';obtain⟨its,r,pl,hz⟩:=I.list hx;have hlen:=r.length;exact wpAny_truthy_list pl.isList (by simp only[aJ];lia) ⟨H,I.tok _,by rw[kS r];exact q⟩
  ·subst e';obtain⟨its,r,pl,hz⟩:=I.tuple hx;have hlen:=r.length;exact truthy_tuple pl (by simp only[aJ];lia) ⟨H,I.tok _,by rw[kS r];exact q⟩
  ·subst e';obtain⟨hz,hS,vs,r,m⟩:kvs.length<=sizeLine/\(p==sysModules)=false/\∃vs,KV kvs vs/\s.heap.DictOf (bX X.prog X.w) p vs:=I.hok p _ hx;have hlen:kvs.length=vs.length:=Paired.length r;exact wpAny_truthy_dict hS m (by lia) ⟨H,I.tok _,by rw[q_ r];exact q⟩
 | _=>exact(show False from e).elim
theorem pQ (ha:PE X a ta)(he:∀ku,isTrue a X.env ku=(do let v <- ku;standAt a.pos;holding [v] (truthy v))) :
  PT X a (fun σ H Q=>ta σ H fun x H'=>∃k,An X.K x H' k/\Q k H'):=by
 intro pins s σ H Q I h;exact isTrue_plain (thn (ha pins s σ H _ I h) fun v s1 zz=>by obtain⟨x,H1,I1,r1,q1⟩:=zz;exact vy pins s1 σ H1 x v Q I1 r1 q1) (he _)
theorem g6 {x us}(r:cU [x] us):∃u,us=[u]/\cW x u:=by
 cases r with
 | cons r1 r2=>cases r2;exact⟨_,rfl,r1⟩
theorem mz {x us}(r:cU [x,y] us):∃u w',us=[u,w']/\cW x u/\cW y w':=by
 cases r with
 | cons r1 r2=>
  cases r2 with
  | cons r3 r4=>cases r4;exact⟨_,_,rfl,r1,r3⟩
theorem iS (hc:X.calm=true):fX X (.builtin "max") (fun xs H Q=>∃i j,xs=[.int i,.int j]/\Q (.int (if j > i then j else i)) H):=by
 intro pins s σ H xs us Q I r h;obtain⟨i,j,rfl,q⟩:=h;obtain⟨u,w',rfl,⟨t,rfl⟩,⟨t',rfl⟩⟩:=mz r;refine max_two_ints (I.ok.hd hc) fun h' tk k=>⟨_,H,I.kept k,?_,q⟩;by_cases hj:j > i
 ·rw[aH hj,aH hj];exact⟨_,rfl⟩
 ·rw[aA hj,aA hj];exact⟨_,rfl⟩
theorem iR (hc:X.calm=true):fX X (.builtin "min") (fun xs H Q=>∃i j,xs=[.int i,.int j]/\Q (.int (if j<i then j else i)) H):=by
 intro pins s σ H xs us Q I r h;obtain⟨i,j,rfl,q⟩:=h;obtain⟨u,w',rfl,⟨t,rfl⟩,⟨t',rfl⟩⟩:=mz r;refine min_two_ints (I.ok.hd hc) fun h' tk k=>⟨_,H,I.kept k,?_,q⟩;by_cases hj:j<i
 ·rw[aH hj,aH hj];exact⟨_,rfl⟩
 ·rw[aA hj,aA hj];exact⟨_,rfl⟩
end
structure ObjM (h:Heap)(x dx C:Addr)(mA:Str->Option Value):Prop where
 obj:h.get? x=some (instObj C dx)
 ns:h.Ns1 dx mA
 ne:dx≠x
theorem sS (n:h.Ns1 dx mA):∃od,h.get? dx=some od/\∀name,lookIn name od=some (mA name):=by
 obtain⟨o,es,ep,ho,hd,hk,_,hm⟩:=n;refine⟨o,ho,fun name=>?_⟩;have e:=hm name;unfold nsFind findBy at e;rw[<- Array.find?_toList] at e;unfold lookIn;rw[hd];dsimp only;split
 ·rename_i y q
  rw[q] at e;exact bq some e
 ·rename_i q
  rw[q] at e
  have a:es.toList.any (·.refKey)=false:=by
   rw[List.any_eq_false];intro y hy;obtain⟨z,t,hkey⟩:=hk y (Array.mem_toList_iff.mp hy);simp[DictEntry.refKey,hkey]
  have a':¬es.toList.any (·.refKey)=true:=by rw[a];exact ay
  rw[aA a'];exact bq some e
theorem ObjM.look {x}(I:ObjM h x dx C mA):∃od,InstAt h x (instObj C dx) C (some od)/\∀name,lookIn name od=some (mA name):=
 let⟨od,ho,hl⟩:=sS I.ns
 ⟨od,⟨I.obj,rfl,rfl,ho⟩,hl⟩
section
variable {x:Addr}{v:Value}
theorem xC (X:K.In s.heap)(I:ObjM s.heap x dx C mA)(hg:plainGet K C name=true)(hh:hasDictIn K C=true)
  (ha:findIn K (.ref C) name=some none) (hv:mA name=some v) (hv':handedIn v=true) (h:Q v { s with toks:=s.toks+1 }) :
  wpAny (model prog w) A (getAttr (.ref x) name expr) Q E s:=by
 obtain⟨od,J,hl⟩:=I.look;exact PySem.W.get_value X J (plainGet_of hg).1 (PySem.W.findObj_own hh ha rfl (by rw[hl,hv])) hv' h
theorem vd {Q:Value×List Value->Shared->Prop}(X:K.In s.heap)(I:ObjM s.heap x dx C mA)(hg:plainGet K C name=true)
  (hf:findIn K (.ref C) name=some (some (.ref f))) (ht:isFn K (.ref f)=true) (hv:mA name=none) (h:Q (.ref f,[.ref x]) s) :
  wpAny (model prog w) A (getMethod (.ref x) name pl) Q E s:=by
 obtain⟨od,J,hl⟩:=I.look;exact PySem.W.method_fn X J (plainGet_of hg).1 (plainGet_of hg).2 hf (beq_iff_eq.mp ht) (by show (lookIn name od).map (·.isSome)=some false;rw[hl,hv];rfl) h
theorem wp {ns:List Str}{Q:Unit->Shared->Prop}(X:K.In s.heap)(I:ObjM s.heap x dx C mA)
  (hs:findIn K (.ref C) "__setattr__" = some (some (.builtin "object.__setattr__"))) (hp:plainOver K C=true) (ht:takerIn K C name=some none) (hh:hasDictIn K C=true)
  (hw:PySem.Within mA ns) (hsz:ns.length<=sizeLine)
  (h:∀h',ObjM h' x dx C (fun y=>if y=name then some v else mA y)->Heap.SameBut dx s.heap h'->Q () { s with heap:=h',toks:=s.toks+2 }) :
  wpAny (model prog w) A (setAttr (.ref x) name v) Q E s:=by
 obtain⟨od,J,hl⟩:=I.look;refine PySem.W.set_plain X J hs (PySem.W.osa_open (s:={ s with toks:=s.toks+1 }) (r:=none) X J hp ht fun b=>?_);obtain⟨cd,hc,hd'⟩:=PySem.W.any_some hh;have hx:s.heap.get? x=some ⟨.ref C,some dx,.plain,#[]⟩:=I.obj
 refine ac (aG (ac (ac (wpAny_loadPart hx (ac (PySem.W.Looks.here (s:={ s with toks:=s.toks+1 }) (PySem.W.looks_clsIn X hc) ?_))))));rw[hd'];refine aG (a:=some dx) (ac (aG (ac ?_)));refine wpAny_nsSet1 (s:={ s with toks:=s.toks+1 }) I.ns fun h' hn2 hs2=>?_;obtain⟨oD,esD,epD,hoD,hdD,hcD⟩:=hn2.count (PySem.Within.cons name v hw)
 refine ac (wpAny_lookBehind hoD (by rw[hdD];exact pastItsLine_dict (bh hcD (by rw[bf];lia))) ?_);exact aG (h _ ⟨(hs2.2 _ (bM I.ne)).trans I.obj,hn2,I.ne⟩ hs2)
theorem uZ {vs}(X:K.In s.heap)(hm:makesIn K C=true)
  (hi:findIn K (.ref C) "__init__" = some (some (.ref f))) (hf:typeIn K (.ref f)=some (.type "function"))
  (h:codeAny (model prog w) (A.under (.builtin "type.__call__" ⟨.ref C::vs,kw⟩)) (.call (.ref f) ⟨.ref (s.heap.objs.size+1)::vs,kw⟩) (PySem.W.InitBack (s.heap.objs.size+1) R)
   { s with heap:=(s.heap.push emptyDict).push (instObj C s.heap.objs.size) }) :
  codeAny (model prog w) A (.call (.ref C) ⟨vs,kw⟩) R s:=by
 obtain⟨hh,g,d,t,os⟩:=s;exact PySem.W.make_core (PySem.W.makes_of X hm) (looks_findIn X hi) (fun self=>PySem.W.bind_fn X self hf) (.inl rfl) h
end
def gW (f:Str)(v:V):List (Str×V)->List (Str×V)
 | []=>[(f,v)]
 | (g,x)::r=>if g=f then (g,v)::r else (g,x)::gW f v r
theorem j5 (f g:Str)(v:V):∀fs:List (Str×V),(gW f v fs).lookup g=if g=f then some v else fs.lookup g
 | []=>by
  show List.lookup g [(f,v)]=_;by_cases h:g=f
  ·have hb:(g==f)=true:=beq_iff_eq.mpr h;simp only[List.lookup,hb,aH h]
  ·have hb:(g==f)=false:=beq_eq_false_iff_ne.mpr h;simp only[List.lookup,hb,aA h]
 | (k,x)::r=>by
  have ih:=j5 f g v r;rw[show gW f v ((k,x)::r)=(if k=f then (k,v)::r else (k,x)::gW f v r) from rfl];by_cases hk:k=f
  ·rw[aH hk];by_cases h:g=k
   ·have hb:(g==k)=true:=beq_iff_eq.mpr h;simp only[List.lookup,hb,aH (h.trans hk)]
   ·have hb:(g==k)=false:=beq_eq_false_iff_ne.mpr h;simp only[List.lookup,hb,aA (fun e:g=f=>h (e.trans hk.symm))]
  ·rw[aA hk];by_cases h:g=k
   ·have hb:(g==k)=true:=beq_iff_eq.mpr h;simp only[List.lookup,hb,aA (fun e:g=f=>hk (h.symm.trans e))]
   ·have hb:(g==k)=false:=beq_eq_false_iff_ne.mpr h;simp only[List.lookup,hb];exact ih
theorem j8 (f:Str)(v:V):∀fs:List (Str×V),f∈(gW f v fs).map (·.1)/\∀g,g∈fs.map (·.1)->g∈(gW f v fs).map (·.1)
 | []=>⟨by simp[gW],fun g h=>by simp at h⟩
 | (k,x)::r=>by
  obtain⟨i1,i2⟩:=j8 f v r;rw[show gW f v ((k,x)::r)=(if k=f then (k,v)::r else (k,x)::gW f v r) from rfl];by_cases hk:k=f
  ·rw[aH hk];subst hk;exact⟨by simp,fun g h=>by simpa using h⟩
  ·rw[aA hk];refine⟨?_,fun g h=>?_⟩
   ·rw[bH];exact br _ i1
   ·rw[bH] at h ⊢;rcases bm.mp h with e|e
    ·exact bm.mpr (.inl e)
    ·exact br _ (i2 g e)
theorem j6 (f:Str)(v:V):∀fs:List (Str×V),(gW f v fs).length<=fs.length+1
 | []=>by simp[gW]
 | (k,x)::r=>by
  have ih:=j6 f v r;rw[show gW f v ((k,x)::r)=(if k=f then (k,v)::r else (k,x)::gW f v r) from rfl];by_cases hk:k=f
  ·rw[aH hk,bf,bf];lia
  ·rw[aA hk,bf,bf];lia
theorem nY.some_of {o}(r:nY (some v) o):∃u,o=some u/\cW v u:=by
 cases o with
 | none=>exact(show False from r).elim
 | some u=>exact⟨u,rfl,r⟩
theorem nY.none_of {o}(r:nY none o):o=none:=by
 cases o with
 | none=>rfl
 | some u=>exact(show False from r).elim
theorem tK (r:cW v u):handedIn u=true:=by
 cases v with
 | non=>cases(show u=Value.none from r);rfl
 | bl b=>cases(show u=Value.bool b from r);rfl
 | int i=>obtain⟨t,e⟩:=(show ∃t,u=Value.int i t from r);cases e;rfl
 | str x=>obtain⟨t,e⟩:=(show ∃t,u=Value.str x t from r);cases e;rfl
 | byt b=>obtain⟨t,e⟩:=(show ∃t,u=bytes b t from r);cases e;rfl
 | flt b=>obtain⟨t,e⟩:=(show ∃t,u=float b t from r);cases e;rfl
 | ref a=>cases(show u=Value.ref a from r);rfl
 | ty n=>cases(show u=type n from r);rfl
section
variable {fs fs':List (Str×V)}
theorem ma (hok:HOk P w H h)(e:H a=some (.ins C dx fs)):∃mA,ObjM h a dx C mA/\(∀f,nY (fs.lookup f) (mA f))/\PySem.Within mA (fs.map (·.1))/\fs.length<=1000/\H dx=some (.own a):=by
 obtain⟨d,z,ne,ob,mA,n,r,q⟩:=(show cE P w H h a (.ins C dx fs) from hok a _ e);exact⟨mA,⟨ob,n,ne⟩,r,q,z,d⟩
end
structure Cls (K:Frag)(C:Addr):Prop where
 pg:plainGet K C Str.empty=true
 hd:hasDictIn K C=true
 po:plainOver K C=true
 sa:findIn K (.ref C) "__setattr__" = some (some (.builtin "object.__setattr__"))
theorem Cls.get (c:Cls K C)(f:Str):plainGet K C f=true:=c.pg
def cC (K:Frag)(C:Addr)(f:Str):Prop:=findIn K (.ref C) f=some none
theorem cC.taker {f}(n:cC K C f):takerIn K C f=some none:=by
 unfold takerIn;rw[show findIn K (.ref C) f=some none from n];rfl
structure Meth (K:Frag)(C:Addr)(m:Str)(f:Addr):Prop where
 at_:findIn K (.ref C) m=some (some (.ref f))
 fn:isFn K (.ref f)=true
 kp:keepIn K (.ref f)=true
section
variable {fs:List (Str×V)}{f:Str}
theorem kU {b}(I:Inv X pins σ H s)(e:H a=some (.ins C dx fs))(c:Cls X.K C)(n:cC X.K C f)(l:fs.lookup f=some v)
  (h:∀u s',Inv X pins σ H s'->cW v u->Q u s'):wpAny (model X.prog X.w) A (getAttr (.ref a) f b) Q E s:=by
 obtain⟨mA,O,r,_,_,_⟩:=ma I.hok e;obtain⟨u,hu,ru⟩:=nY.some_of (v:=v) (o:=mA f) (by rw[<- l];exact r f);exact xC I.kIn O (c.get f) c.hd n hu (tK ru) (h u _ (I.tok _) ru)
theorem jc {g}{Q:Value×List Value->Shared->Prop}(I:Inv X pins σ H s)(e:H a=some (.ins C dx fs))(c:Cls X.K C)(k:Meth X.K C m g)(l:fs.lookup m=none)
  (h:Q (.ref g,[.ref a]) s):wpAny (model X.prog X.w) A (getMethod (.ref a) m pl) Q E s:=by
 obtain⟨mA,O,r,_,_,_⟩:=ma I.hok e;have hn:mA m=none:=nY.none_of (by rw[<- l];exact r m);exact vd I.kIn O (c.get m) k.at_ k.fn hn h
theorem kE {Q:Unit->Shared->Prop}(I:Inv X pins σ H s)(e:H a=some (.ins C dx fs))(c:Cls X.K C)(n:cC X.K C f)(hl:fs.length<1000)(ry:cW y u)
  (h:∀s',Inv X pins σ (upd H a (.ins C dx (gW f y fs))) s'->Q () s'):wpAny (model X.prog X.w) A (setAttr (.ref a) f u) Q E s:=by
 obtain⟨mA,O,r,wi,_,ho⟩:=ma I.hok e;have hz:(fs.map (·.1)).length<=sizeLine:=by rw[af,sizeLine_eq];lia
 refine wp I.kIn O c.sa c.po n.taker c.hd wi hz fun h' O' sb=>h _ ?_;have hd:∃o,h'.get? dx=some o:=let⟨o,_,_,e',_⟩:=O'.ns;⟨o,e'⟩;refine I.write (x:=a) (e:=dx) (by rw[e];exact True.intro) (.inr ho) (fun b q hb z=>(sb.2 b hb).trans z) hd ?_;refine⟨by rw[ak O.ne];exact ho,?_,O.ne,O'.obj,_,O'.ns,fun g=>?_,fun g hg=>?_⟩
 ·have:=j6 f y fs;lia
 ·show nY ((gW f y fs).lookup g) (if g=f then some u else mA g);rw[j5];by_cases q:g=f
  ·rw[aH q,aH q];exact ry
  ·rw[aA q,aA q];exact r g
 ·by_cases q:g=f
  ·rw[q];exact(j8 f y fs).1
  ·refine(j8 f y fs).2 g (wi g fun z=>hg ?_);show (if g=f then some u else mA g)=none;rw[aA q];exact z
theorem Inv.made (I:Inv X pins σ H s):Inv X pins σ (upd (upd H s.heap.objs.size (.own (s.heap.objs.size+1))) (s.heap.objs.size+1) (.ins C s.heap.objs.size []))
  { s with heap:=(s.heap.push emptyDict).push (instObj C s.heap.objs.size) }:=by
 have e1:(s.heap.push emptyDict).get? s.heap.objs.size=some emptyDict:=aV s.heap rfl
 have e2:((s.heap.push emptyDict).push (instObj C s.heap.objs.size)).get? (s.heap.objs.size+1)=some (instObj C s.heap.objs.size):=by
  have:=aV (s.heap.push emptyDict) (o:=instObj C s.heap.objs.size) rfl
  rwa[cj] at this
 have e3:(s.heap.push emptyDict).Ns s.heap.objs.size (fun _=>none):=⟨emptyDict,#[],_,e1,rfl,(fun e he=>aY he (by simp)),fun _=>rfl⟩;have I1:=I.laid (a:=s.heap.objs.size) (o:=.own (s.heap.objs.size+1)) (h':=s.heap.push emptyDict) (t':=s.toks) (fun b u q=>az _ q) (aE _) ⟨_,e1⟩
 refine I1.laid (a:=s.heap.objs.size+1) (o:=.ins C s.heap.objs.size []) (t':=s.toks) (fun b u q=>az _ q) (le_of_eq (cj _ _)) ?_;have ne:s.heap.objs.size≠s.heap.objs.size+1:=aP (lt_succ_self _);refine⟨by rw[ak ne,ae],zero_le _,ne,e2,fun _=>none,(Heap.Ns1.of_empty e3).at fun o q=>az _ q,fun _=>True.intro,fun y hy=>aY rfl hy⟩
theorem xL {pos}(hb:attributeBase e f env (eval e env)=eval e env)
  (h:wpAny (model prog w) A (eval e env) (fun o s₁=>wpAny (model prog w) A (getAttr o f true) Q E s₁) E s):wpAny (model prog w) A (eval (.Attribute e f pos) env) Q E s:=
 Attribute_any_ h (by rw[arm_eval_Attribute,hb])
end
def Bw (K:Frag)(ta:TE)(f:Str):TE:=fun σ H Q=>ta σ H fun x H1=>∃a C dx fs v,x=.ref a/\H1 a=some (.ins C dx fs)/\Cls K C/\cC K C f/\fs.lookup f=some v/\Q v H1
def BC (K:Frag)(ta tv:TE)(f:Str):TS:=fun D σ H=>tv σ H fun y H1=>ta σ H1 fun x H2=>∃a C dx fs,x=.ref a/\H2 a=some (.ins C dx fs)/\Cls K C/\cC K C f/\fs.length<1000 /\
 D.nx σ (upd H2 a (.ins C dx (gW f y fs)))
def Bp (X:Cx)(op:Operator)(rd:V->V->Hp->VK->Prop):Prop:=
 ∀(pins:List (Addr×Obj)) (s:Shared) (σ:St) (H:Hp) (x y:V) (u v:Value) (Q:VK),Inv X pins σ H s->cW x u->cW y v->rd x y H Q->wpAny (model X.prog X.w) X.A (inplaceOp op u v) (EP X pins σ Q) X.xe s
def wx (K:Frag)(ta tv:TE)(rd:V->V->Hp->VK->Prop)(f:Str):TS:=fun D σ H=>ta σ H fun x H1=>∃a C dx fs v,x=.ref a/\H1 a=some (.ins C dx fs)/\Cls K C/\cC K C f/\fs.lookup f=some v /\
 tv σ H1 fun y H2=>rd v y H2 fun z H3=>∃dx' fs',H3 a=some (.ins C dx' fs')/\fs'.length<1000/\D.nx σ (upd H3 a (.ins C dx' (gW f z fs')))
section
variable {o:Expr}{f:Str}{pos:Pos}
theorem bu (he:PE X e ta)(hb:attributeBase e f X.env (eval e X.env)=eval e X.env):PE X (.Attribute e f pos) (Bw X.K ta f):=by
 intro pins s σ H Q I h;refine xL hb (thn (he pins s σ H _ I h) fun u s1 zz=>?_);obtain⟨x,H1,I1,rx,a,C,dx,fs,v,ex,ea,c,n,l,q⟩:=zz;subst ex;obtain rfl:u=Value.ref a:=rx;exact kU I1 ea c n l fun u' s2 I2 ru=>⟨v,H1,I2,ru,q⟩
theorem cQ (ha:PE X o ta)(hv:PE X value tv)(hs:swapsWith value (some (.Attribute o f pos')) pos.line X.env=pure false):PS X (.Assign [.Attribute o f pos'] value pos) (BC X.K ta tv f):=by
 intro pins s σ H D I h;refine plainObj_wpAny_Assign_Attribute (thn (hv pins s σ H _ I h) fun u s1 ⟨y,H1,I1,ry,q⟩=>thn (ha pins s1 σ H1 _ I1 q) fun ov s2 ⟨x,H2,I2,rx,a,C,dx,fs,ex,ea,c,n,l,q2⟩=>?_) hs;subst ex;obtain rfl:ov=Value.ref a:=rx;exact kE I2 ea c n l ry fun s3 I3=>⟨σ,_,I3,q2⟩
theorem sf {op:Operator}(ha:PE X o ta)(hv:PE X value tv)(hop:Bp X op rd):PS X (.AugAssign (.Attribute o f tpos) op value pos) (wx X.K ta tv rd f):=by
 intro pins s σ H D I h;refine wpAny_AugAssign_AttributeAny (thn (ha pins s σ H _ I h) fun ov s1 zz=>?_);obtain⟨x,H1,I1,rx,a,C,dx,fs,v,ex,ea,c,n,l,q⟩:=zz;subst ex;obtain rfl:ov=Value.ref a:=rx;refine kU I1 ea c n l fun u s2 I2 ru=>thn (hv pins s2 σ H1 _ I2 q) fun w3 s3 zz=>?_;obtain⟨y,H2,I3,ry,q3⟩:=zz;refine thn (hop pins s3 σ H2 v y u w3 _ I3 ru ry q3) fun w4 s4 zz=>?_
 obtain⟨z,H3,I4,rz,dx',fs',ea',l',q4⟩:=zz;exact kE I4 ea' c n l' rz fun s5 I5=>⟨σ,_,I5,q4⟩
def BI:V->V->Hp->VK->Prop:=fun x y H Q=>∃i j,x=.int i/\y=.int j/\Q (.int (i+j)) H
theorem tG:Bp X .Add BI:=by
 rintro pins s σ H x y u v Q I rx ry ⟨i,j,rfl,rfl,q⟩;obtain⟨t,rfl⟩:=(show ∃t,u=Value.int i t from rx);obtain⟨t',rfl⟩:=(show ∃t',v=Value.int j t' from ry);exact iadd_int ⟨.int (i+j),H,I.tok _,⟨_,rfl⟩,q⟩
end
section
variable {c:Value}{b:Bool}
inductive TyOf (K:Frag)(H:Hp):V->Value->Prop where
 | non:TyOf K H .non (.type "NoneType")
 | bl (x:Bool):TyOf K H (.bl x) (.type "bool")
 | int (i:Int):TyOf K H (.int i) (.type "int")
 | str (x:Str):TyOf K H (.str x) (.type "str")
 | flt (x:UInt64):TyOf K H (.flt x) (.type "float")
 | lst {a:Addr} {xs:List V} (e:H a=some (.lst xs)):TyOf K H (.ref a) (.type "list")
 | frz {a:Addr} {o:Obj} {xs:List V} (e:H a=some (.frz o (.lst xs))):TyOf K H (.ref a) (.type "list")
 | tup {a:Addr} {xs:List V} (e:H a=some (.tup xs)):TyOf K H (.ref a) (.type "tuple")
 | dK {a:Addr} {kvs:List (Key×V)} (e:H a=some (.dK kvs)):TyOf K H (.ref a) (.type "dict")
 | dT {a:Addr} {kvs:List (List Key×V)} (e:H a=some (.dT kvs)):TyOf K H (.ref a) (.type "dict")
 | ins {a C dx:Addr} {fs:List (Str×V)} (e:H a=some (.ins C dx fs)) (cl:Cls K C) (ha:findIn K (.ref C) "__class__" = some (some (.builtin "object.__class__")))
   (hn:specialIn K (.builtin "object.__class__") "__get__" = some (some (.builtin "getset_descriptor.__get__"))) (htk:takesIn K (.builtin "object.__class__")=some true)
   (hm:mroIn K C (.type "object")=some true):TyOf K H (.ref a) (.ref C)
theorem tw {x t}(I:Inv X pins σ H s)(rx:cW x u)(ty:TyOf X.K H x t)(e:kitOne X.K t c=some b)(h:∀tk,Q (.bool b) { s with toks:=tk }) :
  wpAny (model X.prog X.w) A (call (.builtin "isinstance") [u,c]) Q E s:=by
 cases ty with
 | non=>cases(show u=Value.none from rx);exact kia_one kitx_none I.kIn True.intro e (fun z=>nomatch z) h
 | bl y=>cases(show u=Value.bool y from rx);exact kia_one kitx_bool I.kIn True.intro e (fun z=>nomatch z) h
 | int i=>obtain⟨t,q⟩:=(show ∃t,u=Value.int i t from rx);cases q;exact kia_one kitx_int I.kIn True.intro e (fun z=>nomatch z) h
 | str y=>obtain⟨t,q⟩:=(show ∃t,u=Value.str y t from rx);cases q;exact kia_one kitx_str I.kIn True.intro e (fun z=>nomatch z) h
 | flt y=>obtain⟨t,q⟩:=(show ∃t,u=float y t from rx);cases q;exact kia_one PySem.W.kitx_float I.kIn True.intro e (fun z=>nomatch z) h
 | @lst a xs ea=>
  cases(show u=Value.ref a from rx);obtain⟨_,_,n,_,h1⟩:=(show cE X.prog X.w H s.heap a (.lst xs) from I.hok a _ ea);exact kia_one kitx_list I.kIn ⟨_,h1,rfl⟩ e (fun z=>nomatch z) h
 | @frz a ob xs ea=>
  cases(show u=Value.ref a from rx);obtain⟨_,_,_,n,_,h1⟩:=(show cE X.prog X.w H s.heap a (.frz ob (.lst xs)) from I.hok a _ ea);exact kia_one kitx_list I.kIn ⟨_,h1,rfl⟩ e (fun z=>nomatch z) h
 | @tup a xs ea=>
  cases(show u=Value.ref a from rx);obtain⟨_,_,_,p,_⟩:=(show cE X.prog X.w H s.heap a (.tup xs) from I.hok a _ ea);obtain⟨o,h1,h2,_⟩:=p;exact kia_one kitx_tuple I.kIn ⟨o,h1,h2⟩ e (fun z=>nomatch z) h
 | @dK a kvs ea=>
  cases(show u=Value.ref a from rx);obtain⟨_,_,vs,_,p⟩:=(show cE X.prog X.w H s.heap a (.dK kvs) from I.hok a _ ea);obtain⟨o,es,ep,h1,h2,_⟩:=p;exact kia_one kitx_dict I.kIn ⟨o,h1,h2.1⟩ e (fun z=>nomatch z) h
 | @dT a kvs ea=>
  cases(show u=Value.ref a from rx);obtain⟨_,_,xs,_,o,es,ep,h1,h2,_⟩:=(show cE X.prog X.w H s.heap a (.dT kvs) from I.hok a _ ea);exact kia_one kitx_dict I.kIn ⟨o,h1,h2.1⟩ e (fun z=>nomatch z) h
 | @ins a C dx fs ea cl ha hn htk hm=>
  cases(show u=Value.ref a from rx);obtain⟨mA,O,_⟩:=ma I.hok ea;obtain⟨od,J,_⟩:=O.look;exact kia_one (PySem.W.kitx_own (cl.get _) cl.hd ha hn htk hm) I.kIn J e (fun z=>nomatch z) h
end
structure RoomG (b:Bool)(k:Nat)(A:Around):Prop where
 hd:b=true->A.handled=none
 dp:A.depth+3 * k+5<recursionLimit
 un:A.units+16 * k+200<cLine
 gd:A.guards=some []
abbrev nX:=RoomG true
theorem RoomG.mono {b}{k:Nat}(r:RoomG b k A)(h:j<=k):RoomG b j A:=⟨r.hd,by have:=r.dp;lia,by have:=r.un;lia,r.gd⟩
theorem RoomG.deeper {b}{k:Nat}(r:RoomG b (k+1) A)(env:Env):RoomG b k (A.deeper env):=
 ⟨r.hd,by have:=r.dp;show A.depth+1+3 * k+5<_;lia,by have:=r.un;show A.units+3+16 * k+200<_;lia,r.gd⟩
theorem RoomG.in1 {k:Nat}(r:nX (k+1) A):nX k A.in1:=
 ⟨r.hd,by have:=r.dp;show A.depth+3 * k+5<_;lia,by have:=r.un;show A.units+1+16 * k+200<_;lia,r.gd⟩
theorem qZ {us}:(A.under (.builtin "type.__call__" ⟨.ref C::us,kw⟩)).depth=A.depth+1:=by
 first|rfl|simp[Around.under,Code.weight,Code.isCreation,Code.isGuard,Code.isCaller,Code.frames,isFrame,guardIds]
theorem qY {us}:(A.under (.builtin "type.__call__" ⟨.ref C::us,kw⟩)).units=A.units+1:=by
 first|rfl|simp[Around.under,cUnits,Code.frames,isFrame]
theorem oM {us}:(A.under (.builtin "type.__call__" ⟨.ref C::us,kw⟩)).guards=A.guards:=by
 first|rfl|simp[Around.under,cUnits,Code.frames,isFrame]
theorem RoomG.make {k:Nat}(r:nX (k+1) A)(C:Addr)(us:List Value)(kw:List (Str×Value)):nX k (A.under (.builtin "type.__call__" ⟨.ref C::us,kw⟩)):=
 ⟨r.hd,by have:=r.dp;rw[qZ];lia,by have:=r.un;rw[qY];lia,by rw[oM];exact r.gd⟩
theorem RoomG.depth {b}{k:Nat}(r:RoomG b k A):A.depth<recursionLimit:=by have:=r.dp;lia
theorem RoomG.units {b}{k:Nat}(r:RoomG b k A):A.units+64<cLine:=by have:=r.un;lia
theorem RoomG.units0 {b}{k:Nat}(r:RoomG b k A):A.units<cLine:=by have:=r.un;lia
def pC:TA:=fun _ H Q=>Q [] H
def eY (ta:TE)(tr:TA):TA:=fun σ H Q=>ta σ H fun x H1=>tr σ H1 fun xs H2=>Q (x::xs) H2
section
variable {t:TA}{pos:Pos}
theorem cy:PA X [] pC:=fun _ _ _ _ H Q I h=>Calls.spliced_nil ⟨[],H,I,.nil,h⟩
theorem wP (ha:PE X e te)(hr:PA X es t)(hs:starEach (e::es) X.env=(false,eval e X.env)::starEach es X.env:=by rfl):PA X (e::es) (eY te t):=by
 intro pos pins s σ H Q I h;rw[hs];show wpAny _ _ (spliced ((false,eval e X.env)::backTo pos (starEach es X.env))) _ _ s;refine Calls.spliced_cons (thn (ha pins s σ H _ I h) fun u s1 zz=>?_);obtain⟨x,H1,I1,r1,q1⟩:=zz;exact thn (hr pos pins s1 σ H1 _ I1 q1) fun us s2 ⟨xs,H2,I2,r2,q2⟩=>⟨x::xs,H2,I2,.cons r1 r2,q2⟩
def Ac (t:TA):TE:=fun σ H Q=>t σ H fun xs H1=>xs.length<=sizeLine/\∀p,H1 p=none->Q (.ref p) (upd H1 p (.tup xs))
def Bv (t:TA):TE:=fun σ H Q=>t σ H fun xs H1=>xs.length<=sizeLine/\∀p,H1 p=none->Q (.ref p) (upd H1 p (.lst xs))
theorem dU {x1}(h:PA X es t):PE X (.Tuple es x1 pos) (Ac t):=by
 intro pins s σ H Q I hq;refine wpAny_Tuple_spliced (thn (h pos pins s σ H _ I hq) fun us s1 zz=>?_);obtain⟨xs,H1,I1,r,z,q⟩:=zz;refine⟨by rw[<- r.length];exact z,?_⟩;have hf:H1 s1.heap.objs.size=none:=I1.hok.fresh (aE _);refine⟨.ref s1.heap.objs.size,upd H1 s1.heap.objs.size (.tup xs),I1.laid (t':=s1.toks) (fun b u e=>az _ e) (aE _) ?_,rfl,q _ hf⟩
 exact⟨z,us,r,⟨_,aV _ rfl,rfl,_,rfl⟩,kC⟩
theorem bw (h:PA X es t):PE X (.List es pos) (Bv t):=by
 intro pins s σ H Q I hq;refine wpAny_List_spliced (thn (h pos pins s σ H _ I hq) fun us s1 zz=>?_);obtain⟨xs,H1,I1,r,z,q⟩:=zz;refine⟨by rw[<- r.length];exact z,?_⟩;have hf:H1 s1.heap.objs.size=none:=I1.hok.fresh (aE _);refine⟨.ref s1.heap.objs.size,upd H1 s1.heap.objs.size (.lst xs),I1.laid (t':=s1.toks) (fun b u e=>az _ e) (aE _) ?_,rfl,q _ hf⟩
 exact⟨z,us,0,r,aV _ rfl⟩
end
abbrev Sp:=List V->Hp->VK->XK->Prop
variable {sp:L2.Sp}
abbrev CXT:=List Env->Hp->Shared->XK->Value->Shared->Prop
variable {CX:L2.CXT}
structure Env0 (P:Program)(w:World)(K:Frag)(mg:Str->Option Value)(base:Heap)(A:Around)(outer:List Env)(s:Shared)(H:Hp):Prop where
 frames:A.frames=some outer
 mod:Mod K mg base
 bs:∀b o,base.get? b=some o->s.heap.get? b=some o/\H b=none
 bsz:base.objs.size<=s.heap.objs.size
 funs:s.heap.FunFrames base outer
 frf:∀b∈frs outer,H b=none
 hok:HOk P w H s.heap
 bare:AllBare s.gens
def CE (outer:List Env)(P:Program)(w:World)(H:Hp)(s:Shared)(Q:VK)(u:Value)(s':Shared):Prop:=
 ∃v H',s'.os=s.os/\AllBare s'.gens/\Un (frs outer) [] H H' s.heap s'.heap/\HOk P w H' s'.heap/\cW v u/\Q v H'
def CR (CX:CXT)(outer:List Env)(P:Program)(w:World)(H:Hp)(s:Shared)(Q:VK)(E:XK)(r:Result)(s':Shared):Prop:=
 match r with
 | .ok (.ret u)=>CE outer P w H s Q u s'
 | .ok _=>False
 | .error e=>CX outer H s E e s'
structure FnOkG (b:Bool)(P:Program)(w:World)(K:Frag)(mg:Str->Option Value)(base:Heap)(CX:CXT)(k:Nat)(f:Addr)(fd:FuncData)(ps:List Str)(sp:Sp):Prop where
 len:∀vs H Q E,sp vs H Q E->vs.length=ps.length
 run:∀(A:Around) (outer:List Env) (s:Shared) (H:Hp) (args:Args) (us:List Value) (vs:List V) (Q:VK) (E:XK),RoomG b k A->Env0 P w K mg base A outer s H->BindsTo s fd args (ps.zip us)->cU vs us->sp vs H Q E ->
  codeAny (model P w) A (.call (.ref f) args) (CR CX outer P w H s Q E) s
abbrev iX:=FnOkG true
theorem Env0.make (e:Env0 P w K mg base A outer s H)(C:Addr)(us:List Value)(kw:List (Str×Value)) :
  Env0 P w K mg base (A.under (.builtin "type.__call__" ⟨.ref C::us,kw⟩)) outer s H:=⟨by first|exact e.frames|(simpa[Around.under,Code.envs,isFrame,pushEnvs] using e.frames),e.mod,e.bs,e.bsz,e.funs,e.frf,e.hok,e.bare⟩
section
theorem Inv.env0 (I:Inv X pins σ H s):Env0 X.prog X.w X.K X.mg X.base X.A X.stack s H:=
 ⟨I.ok.frames,I.ok.mod,I.bs,bh I.ok.bsz I.sz,I.stack,I.stkFree,I.hok,I.bare⟩
theorem Inv.after {Q}(I:Inv X pins σ H s)(h:CE X.stack X.prog X.w H s Q u s'):EP X pins σ Q u s':=by
 obtain⟨v,H',os,bare,un,hok,r,q⟩:=h;obtain⟨hh,g,d,t,os'⟩:=s';obtain rfl:os'=s.os:=os;exact⟨v,H',I.call (h':=hh) (g':=g) (d':=d) (t':=t) (ch:=[]) un hok bare (fun b z=>aY z (by simp)),r,q⟩
end
def uB (sp:Sp)(dvs:List V)(E:XK)(t:TA):TE:=fun σ H Q=>t σ H fun vs H1=>sp (vs++dvs) H1 Q E
def rO (C:Addr)(m:Str)(sp:Sp)(dvs:List V)(E:XK)(ta:TE)(t:TA):TE:=fun σ H Q=>ta σ H fun x H1=>∃a dx fs,x=.ref a/\H1 a=some (.ins C dx fs)/\fs.lookup m=none /\
 t σ H1 fun vs H2=>sp (x::(vs++dvs)) H2 Q E
def wl (C:Addr)(sp:Sp)(dvs:List V)(E:XK)(t:TA):TE:=fun σ H Q=>t σ H fun vs H1=>∀x dx,H1 x=none->H1 dx=none->dx≠x ->
 sp (.ref x::(vs++dvs)) (upd (upd H1 dx (.own x)) x (.ins C dx [])) (fun v H2=>v=.non/\Q (.ref x) H2) E
def eJ (K:Frag)(fd:FuncData)(ps:List Str)(ds:List Value):Prop:=
 ∀(s:Shared) (us:List Value),K.In s.heap->(us++ds).length=ps.length->BindsTo s fd ⟨us,[]⟩ (ps.zip (us++ds))
theorem eJ.all (h:∀us:List Value,us.length=ps.length->bindArgs fd ⟨us,[]⟩=pure (ps.zip us)):eJ K fd ps []:=fun s us _ hl=>by
 rw[b_] at hl ⊢;exact .of_eq (h us hl)
def ie (CX:CXT)(X:Cx)(E:XK):Prop:=∀(pins:List (Addr×Obj)) (σ:St) (H:Hp) (s:Shared) (e:Value) (s':Shared),Inv X pins σ H s->CX X.stack H s E e s'->X.xe e s'
section
variable {k:Nat}{E:XK}{pos:Pos}{o:Expr}{t:TA}
theorem mD {b Q us}(F:FnOkG b X.prog X.w X.K X.mg X.base CX k f fd ps sp)(hr:RoomG b k X.A)(hb:eJ X.K fd ps ds)(hd:cU dvs ds)(hx:ie CX X E)
  (I:Inv X pins σ H s) (r:cU vs us) (h:sp (vs++dvs) H Q E):wpAny (model X.prog X.w) X.A (call (.ref f) us) (EP X pins σ Q) X.xe s:=by
 have r2:cU (vs++dvs) (us++ds):=r.append hd;have hl:(us++ds).length=ps.length:=by rw[<- r2.length];exact F.len _ _ _ _ h
 refine wpAny_call (codeAny_mono (F.run X.A X.stack s H ⟨us,[]⟩ (us++ds) (vs++dvs) Q E hr I.env0 (hb s us I.kIn hl) r2 h) fun r s' hq=>?_);cases r with
 | error e=>exact hx pins σ H s e s' I hq
 | ok fl=>
  cases fl with
  | ret u=>exact I.after hq
  | next=>exact False.elim hq
  | brk=>exact False.elim hq
  | cont=>exact False.elim hq
theorem wN {b}(F:FnOkG b X.prog X.w X.K X.mg X.base CX k f fd ps sp)(hr:RoomG b k X.A)(hg:Gl X x)(hm:X.mg x=some (.ref f))(hk:keepIn X.K (.ref f)=true)(hb:eJ X.K fd ps ds)(hd:cU dvs ds)(hx:ie CX X E)
  (ha:PA X (e::es) t) (hdb:(x==("__debug__" : Str))=false:=by decide) (he:starEach (e::es) X.env=(false,eval e X.env)::starEach es X.env:=by rfl) (hpl:(backTo pos (starEach es X.env)).any (·.1)=false:=by rfl) :
  PE X (.Call (.Name x p) (e::es) [] pos) (uB sp dvs E t):=by
 intro pins s σ H Q I h;refine wpAny_Call_Name_kw (j7 I hg hm ?_ hdb);refine callWith_K (h₀:=X.base) I.ok.mod.kin hk (thn (ha pos pins s σ H _ I h) fun us s1 ⟨vs,H1,I1,r,q⟩=>⟨I1.kIn,?_⟩) he hpl;exact mD F hr hb hd hx I1 r q
theorem wK (he:PE X o ta)(c:Cls X.K C)(hm:Meth X.K C m f)(F:iX X.prog X.w X.K X.mg X.base CX k f fd ps sp)(hr:nX k X.A)(hb:eJ X.K fd ps ds)(hd:cU dvs ds)(hx:ie CX X E)(ha:PA X (e::es) t)
  (hst:starEach (e::es) X.env=(false,eval e X.env)::starEach es X.env:=by rfl) (hpl:(backTo pos (starEach es X.env)).any (·.1)=false:=by rfl)
  (ht:eval (.Call (.Attribute o m apos) (e::es) [] pos) X.env=(do
   let ov <- eval o X.env
   standAt apos.atName
   let(f,first) <- holding [ov] (getMethod ov m pl)
   callWith pos f first (backTo pos (starEach (e::es) X.env)) (backToKw pos (keywordEach [] X.env))):=by rfl) :
  PE X (.Call (.Attribute o m apos) (e::es) [] pos) (rO C m sp dvs E ta t):=by
 intro pins s σ H Q I h;refine methodCall_KW (pl:=pl) (thn (he pins s σ H _ I h) fun u s1 ⟨x,H1,I1,rx,a,dx,fs,ex,ea,l,q⟩=>?_) ht;subst ex;obtain rfl:u=Value.ref a:=rx;refine jc I1 ea c hm l ?_;refine callWith_K (first:=[.ref a]) (h₀:=X.base) I.ok.mod.kin hm.kp (thn (ha pos pins s1 σ H1 _ I1 q) fun us s2 ⟨vs,H2,I2,r,q2⟩=>⟨I2.kIn,?_⟩) hst hpl
 exact mD (us:=.ref a::us) (vs:=.ref a::vs) F hr hb hd hx I2 (.cons rfl r) q2
theorem uN (he:PE X o ta)(c:Cls X.K C)(hm:Meth X.K C m f)(F:iX X.prog X.w X.K X.mg X.base CX k f fd ps sp)(hr:nX k X.A)(hb:eJ X.K fd ps ds)(hd:cU dvs ds)(hx:ie CX X E)
  (ht:eval (.Call (.Attribute o m apos) [] [] pos) X.env=(do
   let ov <- eval o X.env
   standAt apos.atName
   let(f,first) <- holding [ov] (getMethod ov m pl)
   callWith pos f first (backTo pos (starEach [] X.env)) (backToKw pos (keywordEach [] X.env))):=by rfl) :
  PE X (.Call (.Attribute o m apos) [] [] pos) (rO C m sp dvs E ta pC):=by
 intro pins s σ H Q I h;refine methodCall_KW (pl:=pl) (thn (he pins s σ H _ I h) fun u s1 ⟨x,H1,I1,rx,a,dx,fs,ex,ea,l,q⟩=>?_) ht;subst ex;obtain rfl:u=Value.ref a:=rx;refine jc I1 ea c hm l ?_;exact callWith_K0 (first:=[.ref a]) I1.kIn hm.kp (mD (us:=[.ref a]) (vs:=[.ref a]) F hr hb hd hx I1 (.cons rfl .nil) q)
structure Mk (K:Frag)(C f:Addr):Prop where
 makes:makesIn K C=true
 init:findIn K (.ref C) "__init__" = some (some (.ref f))
 fn:isFn K (.ref f)=true
 kp:keepIn K (.ref C)=true
theorem pJ {Q:VK}{us}(M:Mk X.K C f)(F:iX X.prog X.w X.K X.mg X.base CX k f fd ps sp)(hr:nX (k+1) X.A)(hb:eJ X.K fd ps ds)(hd:cU dvs ds)
  (hx:ie CX X E) (I:Inv X pins σ H s) (r:cU vs us)
  (h:∀x dx,H x=none->H dx=none->dx≠x->sp (.ref x::(vs++dvs)) (upd (upd H dx (.own x)) x (.ins C dx [])) (fun v H2=>v=.non/\Q (.ref x) H2) E) :
  wpAny (model X.prog X.w) X.A (call (.ref C) us) (EP X pins σ Q) X.xe s:=by
 have hq:=h (s.heap.objs.size+1) s.heap.objs.size (I.hok.fresh (le_succ _)) (I.hok.fresh (aE _)) (aP (lt_succ_self _));have I2:=Inv.made (C:=C) I;have r2:cU (V.ref (s.heap.objs.size+1)::(vs++dvs)) (Value.ref (s.heap.objs.size+1)::(us++ds)):=.cons rfl (r.append hd)
 have hl:(Value.ref (s.heap.objs.size+1)::us++ds).length=ps.length:=by
  have e:=r2.length;rw[F.len _ _ _ _ hq] at e;exact e.symm
 refine wpAny_call (uZ (f:=f) I.kIn M.makes M.init (beq_iff_eq.mp M.fn) (codeAny_mono (F.run _ X.stack _ _ ⟨Value.ref (s.heap.objs.size+1)::us,[]⟩ (Value.ref (s.heap.objs.size+1)::(us++ds)) _ _ E (hr.make C us [])
  (I2.env0.make C us []) (hb _ (Value.ref (s.heap.objs.size+1)::us) I2.kIn hl) r2 hq) fun r s' hq'=>?_))
 cases r with
 | error e=>exact hx pins σ _ _ e s' I2 hq'
 | ok fl=>
  cases fl with
  | ret u=>
   obtain⟨v,H',I3,rv,ev,q3⟩:=I2.after hq';subst ev;exact⟨rv,⟨V.ref (s.heap.objs.size+1),H',I3,rfl,q3⟩⟩
  | next=>exact False.elim hq'
  | brk=>exact False.elim hq'
  | cont=>exact False.elim hq'
theorem d_ (M:Mk X.K C f)(F:iX X.prog X.w X.K X.mg X.base CX k f fd ps sp)(hr:nX (k+1) X.A)(hg:Gl X x)(hm:X.mg x=some (.ref C))(hb:eJ X.K fd ps ds)(hd:cU dvs ds)(hx:ie CX X E)
  (ha:PA X (e::es) t) (hdb:(x==("__debug__" : Str))=false:=by decide) (he:starEach (e::es) X.env=(false,eval e X.env)::starEach es X.env:=by rfl) (hpl:(backTo pos (starEach es X.env)).any (·.1)=false:=by rfl) :
  PE X (.Call (.Name x p) (e::es) [] pos) (wl C sp dvs E t):=by
 intro pins s σ H Q I h;refine wpAny_Call_Name_kw (j7 I hg hm ?_ hdb);refine callWith_K (h₀:=X.base) I.ok.mod.kin M.kp (thn (ha pos pins s σ H _ I h) fun us s1 ⟨vs,H1,I1,r,q⟩=>⟨I1.kIn,?_⟩) he hpl;exact pJ M F hr hb hd hx I1 r q
theorem pW (M:Mk X.K C f)(F:iX X.prog X.w X.K X.mg X.base CX k f fd ps sp)(hr:nX (k+1) X.A)(hg:Gl X x)(hm:X.mg x=some (.ref C))(hb:eJ X.K fd ps ds)(hd:cU dvs ds)(hx:ie CX X E)
  (hdb:(x==("__debug__" : Str))=false:=by decide):PE X (.Call (.Name x p) [] [] pos) (wl C sp dvs E pC):=by
 intro pins s σ H Q I h;refine wpAny_Call_Name_kw (j7 I hg hm ?_ hdb);exact callWith_K0 I.kIn M.kp (pJ (us:=[]) M F hr hb hd hx I .nil h)
end
section
variable {k:Nat}{E:XK}{pos:Pos}{o:Expr}{t tk:TA}{nm:Option Str}
variable {g:List Value->List Value->List Value}
end
structure FnScope (N P:List Str)(sc:Scope):Prop where
 kind:sc.kind=.function
 co:sc.isCoroutine=false
 gen:sc.isGenerator=false
 nd:N.Nodup
 pre:N.take P.length=P
 par:∀x∈P,sc.names.lookup x=some .local\/sc.names.lookup x=some .cell
 nofree:∀y∈sc.names,y.2≠.free
theorem nR {kindOf:Str->Option NameKind}{x}:∀{binds:List (Str×Value)} {m:Str->Option Value},(∀v,(x,v)∉binds)->bindL kindOf binds m x=m x
 | [],_,_=>rfl
 | (n,v)::r,m,h=>by
  unfold bindL;rw[nR fun w hw=>h w (br _ hw)];split
  ·have:x≠n:=by rintro rfl;exact h v bY
   simp[this]
  ·rfl
theorem nU {kindOf:Str->Option NameKind}{x}:∀{binds:List (Str×Value)} {m:Str->Option Value},(∀v,(x,v)∉binds)->bindC kindOf binds m x=m x
 | [],_,_=>rfl
 | (n,v)::r,m,h=>by
  unfold bindC;rw[nU fun w hw=>h w (br _ hw)];split
  ·rfl
  ·have:x≠n:=by rintro rfl;exact h v bY
   simp[this]
theorem nS {kindOf:Str->Option NameKind}{x v}:∀{P:List Str} {vs:List Value} {i:Nat} {m:Str->Option Value},P.Nodup->P[i]?=some x->vs[i]?=some v->kindOf x=some .local ->
  bindL kindOf (P.zip vs) m x=some v
 | [],_,_,_,_,h,_,_=>by simp at h
 | _::_,[],_,_,_,_,h,_=>by simp at h
 | p::P,w::vs,0,m,nd,h1,h2,hk=>by
  simp at h1 h2;subst h1;subst h2;show bindL kindOf ((p,w)::P.zip vs) m p=_;unfold bindL;rw[nR fun v hv=>(bJ.mp nd).1 (of_mem_zip hv).1,aH hk];simp
 | p::P,w::vs,i+1,m,nd,h1,h2,hk=>by
  show bindL kindOf ((p,w)::P.zip vs) m x=_;unfold bindL;exact nS (i:=i) (bJ.mp nd).2 (by simpa using h1) (by simpa using h2) hk
theorem nV {kindOf:Str->Option NameKind}{x v}:∀{P:List Str} {vs:List Value} {i:Nat} {m:Str->Option Value},P.Nodup->P[i]?=some x->vs[i]?=some v->kindOf x≠some .local ->
  bindC kindOf (P.zip vs) m x=some v
 | [],_,_,_,_,h,_,_=>by simp at h
 | _::_,[],_,_,_,_,h,_=>by simp at h
 | p::P,w::vs,0,m,nd,h1,h2,hk=>by
  simp at h1 h2;subst h1;subst h2;show bindC kindOf ((p,w)::P.zip vs) m p=_;unfold bindC;rw[nU fun v hv=>(bJ.mp nd).1 (of_mem_zip hv).1,aA hk];simp
 | p::P,w::vs,i+1,m,nd,h1,h2,hk=>by
  show bindC kindOf ((p,w)::P.zip vs) m x=_;unfold bindC;exact nV (i:=i) (bJ.mp nd).2 (by simpa using h1) (by simpa using h2) hk
def start (N:List Str)(vs:List V):St:=vs.map some++replicate (N.length - vs.length) none
def oY (b:Bool)(CX:CXT)(P:Program)(w:World)(K:Frag)(mg:Str->Option Value)(base:Heap)(N:List Str)(qual:Str)(scope:Scope)(f:Addr)(cd:Value)(A:Around)(outer:List Env)(s:Shared)(H:Hp)(E:XK):Cx where
 prog:=P
 w:=w
 K:=K
 mg:=mg
 base:=base
 A:=A.deeper (envOfC qual scope s.heap.objs.size f cd)
 N:=N
 s₀:=s
 H₀:=H
 env:=envOfC qual scope s.heap.objs.size f cd
 outer:=outer
 stack:=envOfC qual scope s.heap.objs.size f cd::outer
 ex:=[]
 calm:=b
 fn:=fun _=>true
 pn:=[]
 xe:=fun e s'=>wpAny (model P w) (A.deeper (envOfC qual scope s.heap.objs.size f cd)) (leaving (envOfC qual scope s.heap.objs.size f cd) e) (fun _ s''=>CX outer H s E e s'') (fun e' s''=>CX outer H s E e' s'') s'
theorem qG (h:sc.names.lookup x=some .cell):∃c,(cellsFrom n sc.names []).lookup x=some c:=by
 have q:=PySem.W.cellsFrom_some sc.names n [] (.inl h);exact isSome_iff_exists.mp q
theorem tz {N}{s1:Shared}{E us}
  (S:FnScope N ps scope) (hd:bb=true->A.handled=none) (e0:Env0 P w K mg base A outer s H) (hl:vs.length=ps.length) (r:cU vs us)
  (x:InCallC s s.heap.objs.size (bindL (envOfC qual scope s.heap.objs.size f cd).kindOf (ps.zip us) fun _=>none) (cellsFrom (s.heap.objs.size+1) scope.names []) (bindC (envOfC qual scope s.heap.objs.size f cd).kindOf (ps.zip us) fun _=>none) s1) :
  Inv (oY bb CX P w K mg base N qual scope f cd A outer s H E) [] (start N vs) H s1:=by
 have hpl:ps.length<=N.length:=by have:=bq List.length S.pre;rw[bo] at this;lia
 obtain⟨h1,tk,rfl,hk⟩:=x.done;have noA:∀b:Addr,b∉(oY bb CX P w K mg base N qual scope f cd A outer s H E).ex:=fun b z=>aY (show b∈([]:List Addr) from z) (by simp)
 refine⟨⟨e0.mod,S.kind,rfl,rfl,aE _,fun y z c h1 h2=>?_,fun y hy=>?_,fun y c _ h=>?_,hd,Around.frames_deeper e0.frames,.inr ⟨rfl,rfl⟩,fun b z=>aY z (noA b),e0.bs,e0.bsz,fun b _ _=>noA b,fun b z=>aY z (noA b),e0.funs,e0.frf⟩,
  rfl,e0.bare,Un.kept hk,⟨_,x.toInCall.ns,fun i y v h1 h2 h3=>?_⟩,fun y c h=>⟨_,x.cell y c h⟩,e0.hok.fresh (aE _),fun y c h=>?_,fun p hp=>aY (show p∈([]:List (Addr×Obj)) from hp) (by simp),e0.hok.kept hk,?_⟩
 ·exact name_of_addr x.apart (PySem.mem_of_lookup h1) (PySem.mem_of_lookup h2)
 ·have hy:scope.names.lookup y=some .cell\/scope.names.lookup y=some .free:=hy;rcases hy with hy|hy
  ·exact qG hy
  ·exact aY rfl (S.nofree _ (PySem.mem_of_lookup hy))
 ·exact dY (x.above y c (PySem.mem_of_lookup h))
 ·have hi:i<vs.length:=by
   unfold start at h2;by_cases hi:i<vs.length
   ·exact hi
   ·rw[aM (by simpa using hi)] at h2;rw[List.getElem?_replicate] at h2;split at h2<;>cases h2
  have ha:vs[i]?=some v:=by
   unfold start at h2;rw[aN (by simpa using hi),aB] at h2;cases e:vs[i]? with
   | none=>rw[e] at h2;cases h2
   | some a=>rw[e] at h2;cases h2;rfl
  obtain⟨u,hu,rv⟩:=r.get ha
  have hp:ps[i]?=some y:=by
   rw[<- S.pre,List.getElem?_take_of_lt (by lia)];exact h1
  have ndP:ps.Nodup:=by rw[<- S.pre];exact S.nd.sublist (List.take_sublist _ _)
  refine⟨u,rv,?_⟩;rcases S.par y (aK hp) with k|k
  ·exact .inl ⟨k,nS ndP hp hu k⟩
  ·obtain⟨c,e⟩:=qG (n:=s.heap.objs.size+1) k;refine .inr ⟨.inl k,c,e,?_⟩;have q:=x.cell y c e;rw[nV ndP hp hu (by show scope.names.lookup y≠_;rw[k];decide)] at q;exact q
 ·exact e0.hok.fresh (dY (x.above y c (PySem.mem_of_lookup h)))
 ·unfold start;show _=N.length;rw[am,af,length_replicate]
  lia
theorem Bh {k:Nat}{params:Arguments}{dV kV ct N}(lk:K.lookup f=some ⟨oc,od,.func (fnOf name qual params body scope dV kV doc pm an cdv ct),osl⟩)(hcd:codeIn K cdv qual=true)(S:FnScope N ps scope)
  (len:∀vs H Q E,sp vs H Q E->vs.length=ps.length)
  (hbody:∀(A:Around) (outer:List Env) (s:Shared) (H:Hp) (vs:List V) (Q:VK) (E:XK),RoomG bb k (A.deeper (envOfC qual scope s.heap.objs.size f cdv))->sp vs H Q E ->
   ∃t,PSs (oY bb CX P w K mg base N qual scope f cdv A outer s H E) body t/\t { nx:=fun _ H'=>Q .non H',rt:=Q } (start N vs) H) :
  FnOkG bb P w K mg base CX (k+1) f (fnOf name qual params body scope dV kV doc pm an cdv ct) ps sp:=by
 refine⟨len,fun A outer s H args us vs Q E hr e0 hb r hsp=>?_⟩;have hl:=len _ _ _ _ hsp;have KX:K.In s.heap:=e0.mod.kin.keeps fun b o e=>(e0.bs b o e).1;have lim:s.heap.NoLimit:=e0.mod.nolimit.keeps fun b o e=>(e0.bs b o e).1
 have hkind:∀y∈ps.zip us,scope.names.lookup y.1=some .local\/(scope.names.lookup y.1=some .cell/\((cellsFrom (s.heap.objs.size+1) scope.names []).lookup y.1).isSome=true):=fun⟨n,v⟩ hy=>by
  rcases S.par n (of_mem_zip hy).1 with q|q
  ·exact .inl q
  ·exact .inr ⟨q,PySem.W.cellsFrom_some _ _ _ (.inl q)⟩
 refine codeAny_call_function hr.depth (KX _ _ lk) rfl S.co S.gen rfl (PySem.W.codeRec_of KX hcd) (hb _ _ _ _ ?_);refine wpAny_newFunctionEnv_cells S.kind hkind fun env he s1 x=>?_;subst he;refine⟨lim.keeps x.toInCall.keep,codeAny_func ?_⟩;obtain⟨t,ht,hq⟩:=hbody A outer s H vs Q E (hr.deeper _) hsp
 have I:Inv (oY bb CX P w K mg base N qual scope f cdv A outer s H E) [] (start N vs) H s1:=tz S hr.hd e0 hl r x;refine bI (ht [] s1 (start N vs) H _ I hq) (fun fl s' hs=>?_) fun e s' hs=>hs
 have fin:∀{σ':St} {H':Hp} {v:V} {u:Value},Inv (oY bb CX P w K mg base N qual scope f cdv A outer s H E) [] σ' H' s'->cW v u->Q v H'->CE outer P w H s Q u s':=
  fun {σ' H' v u} J rv q=>⟨v,H',J.os,J.bare,J.base,J.hok,rv,q⟩
 cases fl with
 | ret u=>
  obtain⟨v,σ',H',J,rv,q⟩:=hs;exact fin J rv q
 | next=>
  obtain⟨σ',H',J,q⟩:=hs;exact fin (v:=V.non) (u:=Value.none) J rfl q
 | brk=>
  obtain⟨_,_,_,q⟩:=hs;exact False.elim q
 | cont=>
  obtain⟨_,_,_,q⟩:=hs;exact False.elim q
section
variable {pos:Pos}{t:TA}{id T:String}{r:List V->Hp->VK->Prop}
def tCB (r:List V->Hp->VK->Prop)(t:TA):TE:=fun σ H Q=>t σ H fun vs H1=>r vs H1 Q
theorem aR (hc:fX X (.builtin id) r)(hg:Gl X x)(hm:X.mg x=none)(hv:bootBuiltins x=some (.builtin id))(ha:PA X (e::es) t)(hn:x ≠ "__name__":=by decide)(hdb:(x==("__debug__" : Str))=false:=by decide)
  (he:starEach (e::es) X.env=(false,eval e X.env)::starEach es X.env:=by rfl) (hpl:(backTo pos (starEach es X.env)).any (·.1)=false:=by rfl):PE X (.Call (.Name x p) (e::es) [] pos) (tCB r t):=by
 intro pins s σ H Q I h;refine wpAny_Call_Name_kw (h_ I hg hm hv ?_ hn hdb);exact PyProof.Rows.callWith_builtin1 (thn (ha pos pins s σ H _ I h) fun us s1 zz=>by obtain⟨vs,H1,I1,r1,q1⟩:=zz;exact hc pins s1 σ H1 vs us Q I1 r1 q1) he hpl
theorem cF (hc:fX X (.type T) r)(hg:Gl X x)(hm:X.mg x=none)(hv:bootBuiltins x=some (.type T))(ha:PA X (e::es) t)(hn:x ≠ "__name__":=by decide)(hdb:(x==("__debug__" : Str))=false:=by decide)
  (he:starEach (e::es) X.env=(false,eval e X.env)::starEach es X.env:=by rfl) (hpl:(backTo pos (starEach es X.env)).any (·.1)=false:=by rfl):PE X (.Call (.Name x p) (e::es) [] pos) (tCB r t):=by
 intro pins s σ H Q I h;refine wpAny_Call_Name_kw (h_ I hg hm hv ?_ hn hdb);exact PyProof.Rows.callWith_type1 (thn (ha pos pins s σ H _ I h) fun us s1 zz=>by obtain⟨vs,H1,I1,r1,q1⟩:=zz;exact hc pins s1 σ H1 vs us Q I1 r1 q1) he hpl
end
section
variable {κ:Type}[DecidableEq κ]
def cf (kvs:List (κ×V))(k:κ):Option V:=(kvs.find? fun kv=>decide (kv.1=k)).map (·.2)
def db (kvs:List (κ×V))(k:κ)(v:V):List (κ×V):=
 if (kvs.any fun kv=>decide (kv.1=k))=true then kvs.map (fun kv=>if kv.1=k then (kv.1,v) else kv) else kvs++[(k,v)]
def gh (kvs:List (κ×V))(k:κ):List (κ×V):=kvs.filter fun kv=>decide (kv.1≠k)
theorem cX {p:κ×V}{r:List (κ×V)}{k:κ}(e:p.1=k):cf (p::r) k=some p.2:=by simp[cf,find?_cons,e]
theorem cV {p:κ×V}{r:List (κ×V)}{k:κ}(e:¬p.1=k):cf (p::r) k=cf r k:=by simp[cf,find?_cons,e]
theorem gU (k:κ):∀kvs:List (κ×V),(kvs.any fun kv=>decide (kv.1=k))=(cf kvs k).isSome
 | []=>rfl
 | p::r=>by
  rw[any_cons];by_cases e:p.1=k
  ·simp only[cX e,av e,Bool.true_or,Option.isSome_some]
  ·rw[cV e,aF e,Bool.false_or];exact gU k r
theorem pz (k j:κ)(y:V):∀kvs:List (κ×V),cf (kvs.map fun kv=>if kv.1=k then (kv.1,y) else kv) j=(cf kvs j).map fun x=>if j=k then y else x
 | []=>rfl
 | p::r=>by
  have ih:=pz k j y r;rw[bH];by_cases h:p.1=k
  ·rw[aH h];by_cases e:p.1=j
   ·rw[cX (p:=(p.1,y)) e,cX e,map_some,aH (e.symm.trans h)]
   ·rw[cV (p:=(p.1,y)) e,cV e,ih]
  ·rw[aA h];by_cases e:p.1=j
   ·rw[cX (p:=p) e,cX e,map_some,aA (fun z=>h (e.trans z))]
   ·rw[cV (p:=p) e,cV e,ih]
theorem im (k j:κ)(y:V):∀kvs:List (κ×V),cf kvs k=none->cf (kvs++[(k,y)]) j=if j=k then some y else cf kvs j
 | [],_=>by
  by_cases e:k=j
  ·rw[aH e.symm];exact cX (p:=(k,y)) e
  ·rw[aA (fun z=>e z.symm)];exact cV (p:=(k,y)) e
 | p::r,hn=>by
  rw[List.cons_append];have hk:¬p.1=k:=fun z=>by rw[cX z] at hn;cases hn
  rw[cV hk] at hn;have ih:=im k j y r hn;by_cases e:p.1=j
  ·rw[cX e,cX e,aA (fun z=>hk (e.trans z))]
  ·rw[cV e,cV e,ih]
theorem cw (kvs:List (κ×V))(k j:κ)(y:V):cf (db kvs k y) j=if j=k then some y else cf kvs j:=by
 unfold db;by_cases a:(kvs.any fun kv=>decide (kv.1=k))=true
 ·rw[aH a,pz];rw[gU] at a;by_cases e:j=k
  ·obtain⟨x,hx⟩:=isSome_iff_exists.mp a;rw[aH e,e,hx,map_some,aH rfl]
  ·rw[aA e];cases cf kvs j with
   | none=>rfl
   | some x=>rw[map_some,aA e]
 ·rw[aA a];refine im k j y kvs ?_;rw[gU] at a;cases q:cf kvs k with
  | none=>rfl
  | some x=>rw[q] at a;exact(a rfl).elim
theorem cZ (kvs:List (κ×V))(k:κ)(v:V):(db kvs k v).length<=kvs.length+1:=by
 unfold db;split
 ·rw[af];lia
 ·rw[am,bf,xR];lia
theorem iD {kvs:List (κ×V)}{k:κ}(v:V)(h:cf kvs k=none):db kvs k v=kvs++[(k,v)]:=by
 unfold db;rw[gU,h];exact aA (by decide)
theorem nY.isSome_eq {o:Option V}{u:Option Value}(r:nY o u):o.isSome=u.isSome:=by
 cases o with
 | none=>cases u with
  | none=>rfl
  | some _=>exact(show False from r).elim
 | some _=>cases u with
  | none=>exact(show False from r).elim
  | some _=>rfl
theorem KV.val {kvs:List (κ×V)}{vs:List (κ×Value)}(r:KV kvs vs)(k:κ):nY (cf kvs k) (valueAt vs k):=by
 unfold KV at r
 induction r with
 | nil=>exact True.intro
 | @cons p q ps qs h t ih=>
  obtain⟨h1,h2⟩:=h;by_cases e:p.1=k
  ·have e':q.1=k:=h1.symm.trans e;have b:valueAt (q::qs) k=some q.2:=by simp[valueAt,find?_cons,e']
   rw[cX e,b];exact h2
  ·have e':¬q.1=k:=fun z=>e (h1.trans z);have b:valueAt (q::qs) k=valueAt qs k:=by simp[valueAt,find?_cons,e']
   rw[cV e,b];exact ih
theorem KV.any {kvs:List (κ×V)}{vs:List (κ×Value)}(r:KV kvs vs)(k:κ):(kvs.any fun kv=>decide (kv.1=k))=vs.any fun kv=>decide (kv.1=k):=by
 unfold KV at r
 induction r with
 | nil=>rfl
 | cons h t ih=>rw[any_cons,any_cons,ih,h.1]
theorem KV.repl {kvs:List (κ×V)}{vs:List (κ×Value)}(r:KV kvs vs)(k:κ)(ry:cW y u) :
  KV (kvs.map fun kv=>if kv.1=k then (kv.1,y) else kv) (vs.map fun kv=>if kv.1=k then (kv.1,u) else kv):=by
 unfold KV at r ⊢
 induction r with
 | nil=>exact .nil
 | @cons p q ps qs h t ih=>
  rw[bH,bH];refine .cons ?_ ih;obtain⟨h1,h2⟩:=h;by_cases e:p.1=k
  ·rw[aH e,aH (h1.symm.trans e)];exact⟨h1,ry⟩
  ·rw[aA e,aA (fun z=>e (h1.trans z))];exact⟨h1,h2⟩
theorem KV.put {kvs:List (κ×V)}{vs:List (κ×Value)}(r:KV kvs vs)(k:κ)(ry:cW y u):KV (db kvs k y) (stored vs k u):=by
 unfold db stored;rw[r.any k];by_cases e:(vs.any fun kv=>decide (kv.1=k))=true
 ·rw[aH e,aH e];exact r.repl k ry
 ·rw[aA e,aA e];exact Paired.snoc r ⟨rfl,ry⟩
theorem KV.drop {kvs:List (κ×V)}{vs:List (κ×Value)}(r:KV kvs vs)(k:κ):KV (gh kvs k) (without vs k):=by
 unfold KV at r ⊢;unfold gh without
 induction r with
 | nil=>exact .nil
 | @cons p q ps qs h t ih=>
  obtain⟨h1,h2⟩:=h;rw[filter_cons,filter_cons];by_cases e:p.1=k
  ·have a:¬decide (p.1≠k)=true:=by simp[e]
   have b:¬decide (q.1≠k)=true:=by simp[h1.symm.trans e]
   rw[aA a,aA b];exact ih
  ·have e':¬q.1=k:=fun z=>e (h1.trans z);have a:decide (p.1≠k)=true:=by simp[e]
   have b:decide (q.1≠k)=true:=by simp[e']
   rw[aH a,aH b];exact .cons ⟨h1,h2⟩ ih
theorem KV.length {kvs:List (κ×V)}{vs:List (κ×Value)}(r:KV kvs vs):kvs.length=vs.length:=Paired.length r
theorem vk (kvs:List (κ×V))(k:κ):(gh kvs k).length<=kvs.length:=bF _ _
end
theorem m_ {k}(r:cW (kV k) u):(bX P w).is k u=true:=by
 cases k with
 | inl i=>obtain⟨t,e⟩:=(show ∃t,u=Value.int i t from r);subst e;exact oK P w i t
 | inr x=>obtain⟨t,e⟩:=(show ∃t,u=Value.str x t from r);subst e;exact oJ P w x t
theorem ni {P:Program}{w:World}:∀{ks:List Key} {us:List Value},cU (ks.map kV) us->ItemsAre (bX P w) ks us
 | [],_,r=>by rw[map_nil] at r;cases r;exact .nil
 | k::ks,_,r=>by
  rw[bH] at r;cases r with
  | cons h t=>exact .cons (m_ h) (ni t)
abbrev KT (H:Hp):List (List Key×V)->List (List Key×Addr×Value)->Prop:=Paired fun p q=>p.1=q.1/\H q.2.1=some (.tup (p.1.map kV))/\cW p.2 q.2.2
theorem KT.val {kvs:List (List Key×V)}{xs:List (List Key×Addr×Value)}(r:KT H kvs xs)(k:List Key):nY (cf kvs k) ((atKey xs k).map (·.2)):=by
 induction r with
 | nil=>exact True.intro
 | @cons p q ps qs h t ih=>
  obtain⟨h1,_,h2⟩:=h;by_cases e:p.1=k
  ·have e':q.1=k:=h1.symm.trans e;have b:atKey (q::qs) k=some q.2:=by simp[atKey,find?_cons,e']
   rw[cX e,b];exact h2
  ·have e':¬q.1=k:=fun z=>e (h1.trans z);have b:atKey (q::qs) k=atKey qs k:=by simp[atKey,find?_cons,e']
   rw[cV e,b];exact ih
theorem KT.repl {kvs:List (List Key×V)}{xs:List (List Key×Addr×Value)}(r:KT H kvs xs)(k:List Key)(ry:cW y u) :
  KT H (kvs.map fun kv=>if kv.1=k then (kv.1,y) else kv) (xs.map (putAt k u)):=by
 induction r with
 | nil=>exact .nil
 | @cons p q ps qs h t ih=>
  rw[bH,bH];refine .cons ?_ ih;obtain⟨h1,h2,h3⟩:=h;unfold putAt;by_cases e:p.1=k
  ·rw[aH e,aH (h1.symm.trans e)];exact⟨h1,h2,ry⟩
  ·rw[aA e,aA (fun z=>e (h1.trans z))];exact⟨h1,h2,h3⟩
theorem KT.put {kvs:List (List Key×V)}{xs:List (List Key×Addr×Value)}(r:KT H kvs xs)(k:List Key)(hb:H b=some (.tup (k.map kV)))(ry:cW y u) :
  KT H (db kvs k y) (storedH xs k b u):=by
 have e:(kvs.any fun kv=>decide (kv.1=k))=(atKey xs k).isSome:=by
  rw[gU,(r.val k).isSome_eq,isSome_map]
 unfold db storedH;rw[e];by_cases q:(atKey xs k).isSome=true
 ·rw[aH q,aH q];exact r.repl k ry
 ·rw[aA q,aA q];exact Paired.snoc r ⟨rfl,hb,ry⟩
theorem KT.keeps {kvs:List (List Key×V)}{xs:List (List Key×Addr×Value)}(r:KT H kvs xs)(ht:∀b ys,H b=some (.tup ys)->H' b=some (.tup ys)):KT H' kvs xs:=
 Paired.mapP r fun _ _ z=>⟨z.1,ht _ _ z.2.1,z.2.2⟩
section
theorem yy {u}(ok:HOk P w H h)(e:Rd H a u):cE P w H h a u:=e.ok ok
theorem jB (ok:HOk P w H h)(e:Rd H a (.dK kvs)):kvs.length<=sizeLine/\(a==sysModules)=false/\∃vs,KV kvs vs/\h.DictOf (bX P w) a vs:=
 show cE P w H h a (.dK kvs) from yy ok e
theorem rf (ok:HOk P w H h)(e:H a=some (.dK kvs)):kvs.length<=sizeLine/\(a==sysModules)=false/\∃vs,KV kvs vs/\h.DictOf (bX P w) a vs:=jB ok (.inl e)
theorem qp {ks:List Key}(ok:HOk P w H h)(e:H a=some (.tup (ks.map kV))):(tupleKind (bX P w)).is h ks a:=by
 obtain⟨_,its,r,⟨o,h1,h2,n,h3⟩,_⟩:=(show cE P w H h a (.tup (ks.map kV)) from ok a _ e);exact⟨o,its.toArray,n,h1,h2,h3,by simpa using ni r⟩
theorem tR {kvs:List (List Key×V)}(ok:HOk P w H h)(e:Rd H a (.dT kvs)):kvs.length<=sizeLine/\(a==sysModules)=false /\
  ∃xs,KT H kvs xs/\h.DictOfH (tupleKind (bX P w)) a xs:=by
 obtain⟨z,y,xs,r,o,es,ep,h1,h2,h3,h4,h5⟩:=(show cE P w H h a (.dT kvs) from yy ok e);refine⟨z,y,xs,r,o,es,ep,h1,h2,h3,h4,fun x hx=>?_,h5⟩
 have all:∀{l:List (List Key×V)} {m:List (List Key×Addr×Value)},KT H l m->∀x∈m,(tupleKind (bX P w)).is h x.1 x.2.1:=by
  intro l m q
  induction q with
  | nil=>intro x hx;exact nomatch hx
  | @cons p q ps qs hq t ih=>
   intro x hx;rcases bm.mp hx with e|hx
   ·subst e;exact qp ok (by rw[<- hq.1];exact hq.2.1)
   ·exact ih x hx
 exact all r x hx
theorem Bi {kvs:List (List Key×V)}(ok:HOk P w H h)(e:H a=some (.dT kvs)):kvs.length<=sizeLine/\(a==sysModules)=false /\
  ∃xs,KT H kvs xs/\h.DictOfH (tupleKind (bX P w)) a xs:=tR ok (.inl e)
end
def pj (H:Hp)(a:Addr)(y:V)(r:Option V):Prop:=
 (∃kvs k,Rd H a (.dK kvs)/\y=kV k/\r=cf kvs k)\/∃kvs k b,Rd H a (.dT kvs)/\y=.ref b/\H b=some (.tup (k.map kV))/\r=cf kvs k
def rD (H:Hp)(a:Addr)(y v:V)(H':Hp):Prop:=
 (∃kvs k,H a=some (.dK kvs)/\y=kV k/\kvs.length<sizeLine/\H'=upd H a (.dK (db kvs k v))) \/
 ∃kvs k b,H a=some (.dT kvs)/\y=.ref b/\H b=some (.tup (k.map kV))/\kvs.length<sizeLine/\H'=upd H a (.dT (db kvs k v))
theorem pj.k {k}(e:H a=some (.dK kvs)):pj H a (kV k) (cf kvs k):=.inl ⟨kvs,k,.inl e,rfl,rfl⟩
theorem rD.k {k}(e:H a=some (.dK kvs))(hl:kvs.length<sizeLine):rD H a (kV k) v (upd H a (.dK (db kvs k v))):=.inl ⟨kvs,k,e,rfl,hl,rfl⟩
section
variable {r:Value}{o:Option V}
theorem Inv.big (I:Inv X pins σ H s):sysModules<s.heap.objs.size:=by
 have h:mainGlobals<s.heap.objs.size:=(I.mod.glob.keeps I.bk).lt;exact Nat.lt_trans (by decide) h
theorem nL (hu:A.units+1<cLine)(I:Inv X pins σ H s)(g:pj H a y (some v))(ry:cW y u)(h:∀w' s',Inv X pins σ H s'->cW v w'->Q w' s') :
  wpAny (model X.prog X.w) A (getItem (.ref a) u) Q E s:=by
 rcases g with⟨kvs,k,e,ey,l⟩|⟨kvs,k,b,e,ey,eb,l⟩
 ·subst ey;obtain⟨z,hd,vs,rel,dd⟩:=jB I.hok e;obtain⟨w',hw,rw'⟩:=nY.some_of (v:=v) (o:=valueAt vs k) (by rw[l];exact rel.val k);exact wpAny_getItem_of (m_ ry) dd.mapOf hw (h w' _ (I.tok _) rw')
 ·subst ey;cases(show u=Value.ref b from ry);obtain⟨z,hd,xs,rel,dd⟩:=tR I.hok e;obtain⟨w',hw,rw'⟩:=nY.some_of (v:=v) (o:=(atKey xs k).map (·.2)) (by rw[l];exact rel.val k);obtain⟨p,hp,hp2⟩:=bt.mp hw;refine wpAny_getItem_heap (tupleKind_room_in1 hu) (qp I.hok eb) dd hp ?_;rw[hp2];exact h w' _ (I.tok _) rw'
theorem Cv (hu:A.units+1<cLine)(I:Inv X pins σ H s)(g:pj H a y o)(ry:cW y u)(h:∀s',Inv X pins σ H s'->Q (.bool o.isSome) s') :
  wpAny (model X.prog X.w) A (compareOp .In u (.ref a)) Q E s:=by
 rcases g with⟨kvs,k,e,ey,l⟩|⟨kvs,k,b,e,ey,eb,l⟩
 ·subst ey;obtain⟨z,hd,vs,rel,dd⟩:=jB I.hok e;refine wpAny_in_of (m_ ry) hd dd.mapOf ?_;rw[<- (rel.val k).isSome_eq,<- l];exact h _ (I.tok _)
 ·subst ey;cases(show u=Value.ref b from ry);obtain⟨z,hd,xs,rel,dd⟩:=tR I.hok e;refine wpAny_in_heap (tupleKind_room_in1 hu) (qp I.hok eb) hd dd ?_;have q:=(rel.val k).isSome_eq;rw[isSome_map] at q;rw[<- q,<- l];exact h _ (I.tok _)
theorem kg {t':Nat}{ob}(I:Inv X pins σ H s)(mu:Mut (H a))(hs:Heap.SameBut a s.heap h')(he:∃q,h'.get? a=some q)(new:cE X.prog X.w (upd H a ob) h' a ob) :
  Inv X pins σ (upd H a ob) { s with heap:=h',toks:=t' }:=
 I.write (x:=a) (e:=a) mu (.inl rfl) (fun b q hb z=>(hs.2 b hb).trans z) he new
theorem qF {vs:List (Key×Value)}(z:kvs.length<=sizeLine)(hd:(a==sysModules)=false)(rel:KV kvs vs)(dd:h'.DictOf (bX P w) a vs) :
  cE P w H' h' a (.dK kvs):=⟨z,hd,vs,rel,dd⟩
theorem nJ {Q:Unit->Shared->Prop}(hu:A.units+1<cLine)(I:Inv X pins σ H s)(g:rD H a y v H')(ry:cW y u)(rv:cW v r)(h:∀s',Inv X pins σ H' s'->Q () s') :
  wpAny (model X.prog X.w) A (setItem (.ref a) u r) Q E s:=by
 rcases g with⟨kvs,k,e,ey,l,eH⟩|⟨kvs,k,b,e,ey,eb,l,eH⟩
 ·subst ey eH;obtain⟨z,hd,vs,rel,dd⟩:=rf I.hok e;have hz:vs.length<=sizeLine:=by rw[<- rel.length];exact z
  have hl:(db kvs k v).length<=sizeLine:=by have:=cZ kvs k v;lia
  refine wpAny_setItem_pairs (hsz:=hz) (m_ ry) dd fun h' dd' hs=>h _ ?_;have he:∃q,h'.get? a=some q:=let⟨q,_,_,hq,_⟩:=dd';⟨q,hq⟩;exact kg I (by rw[e];exact True.intro) hs he (qF hl hd (rel.put k rv) dd')
 ·subst ey eH;cases(show u=Value.ref b from ry);obtain⟨z,hd,xs,rel,dd⟩:=Bi I.hok e;have hz:xs.length<=sizeLine:=by rw[<- Paired.length rel];exact z
  have hl:(db kvs k v).length<=sizeLine:=by have:=cZ kvs k v;lia
  refine wpAny_setItem_heap (hsz:=hz) (tupleKind_room_in1 hu) (qp I.hok eb) dd fun h' dd' hs=>h _ ?_;obtain⟨q,es,ep,hq,h2,h3,h4,_,h5⟩:=dd';refine kg I (by rw[e];exact True.intro) hs ⟨q,hq⟩ ⟨hl,hd,_,(rel.put k eb rv).keeps fun c ys ec=>?_,q,es,ep,hq,h2,h3,h4,h5⟩;rw[ak (cJ ec e (fun z=>nomatch z))];exact ec
end
section
variable {k:Key}
theorem Bj {more}(I:Inv X pins σ H s)(e:H a=some (.dK kvs))(ry:cW (kV k) u)(l:cf kvs k=some v)(hm:more=[]\/∃x,more=[x])
  (h:∀w' s',Inv X pins σ (upd H a (.dK (gh kvs k))) s'->cW v w'->Q w' s'):wpAny (model X.prog X.w) A (call (.builtin "dict.pop") (.ref a::u::more)) Q E s:=by
 obtain⟨z,hd,vs,rel,dd⟩:=rf I.hok e;obtain⟨w',hw,rw'⟩:=nY.some_of (v:=v) (o:=valueAt vs k) (by rw[<- l];exact rel.val k)
 have hp:(keyPart u).isSome=true:=by
  cases k with
  | inl i=>obtain⟨t,q⟩:=(show ∃t,u=Value.int i t from ry);subst q;rfl
  | inr x=>obtain⟨t,q⟩:=(show ∃t,u=Value.str x t from ry);subst q;rfl
 have ha:argsOk "dict.pop" ⟨.ref a::u::more,[]⟩:=by
  rcases hm with q|⟨x,q⟩
  ·subst q;exact PySem.F.args_dict_pop_2 _ _
  ·subst q;exact PySem.F.args_dict_pop_3 _ _ _
 refine call_meetsIn PySem.F.slot_dict_pop dd.typeIs PySem.F.entry_dict_pop ha (meets_dict_pop_there (bX X.prog X.w) a (m_ ry) more hm hp)
  ⟨vs,w',dd,by rw[<- rel.length];exact z,hw,fun h' dd' hs=>h w' _ ?_ rw'⟩
 have he:∃q,h'.get? a=some q:=let⟨q,_,_,hq,_⟩:=dd';⟨q,hq⟩;exact kg I (by rw[e];exact True.intro) hs he (qF (bh (vk kvs k) z) hd (rel.drop k) dd')
theorem Bk (I:Inv X pins σ H s)(e:Rd H a (.dK kvs))(h:∀t s',Inv X pins σ H s'->Q (.int kvs.length t) s'):wpAny (model X.prog X.w) A (call (.builtin "len") [.ref a]) Q E s:=by
 obtain⟨z,hd,vs,rel,dd⟩:=jB I.hok e;refine call_len_dict hd dd (by rw[<- rel.length];rw[sizeLine_eq] at z;lia) ?_;rw[<- rel.length];exact h _ _ (I.tok _)
end
def BY (i:Expr):Prop:=∀ov iv,subscripted i false ov iv=operate [ov,iv] (getItem ov iv)
theorem wn {slice pos T id}
  (hl:typeLookup (.type T) "__getitem__" = pure (some (.builtin id))) (hs:BY slice)
  (h:wpAny (model prog w) A (eval value env) (fun o s₁=>wpAny (model prog w) A (eval slice env) (fun i s₂=>s₂.TypeIs o T/\wpAny (model prog w) A (getItem o i) Q E s₂) E s₁) E s) :
  wpAny (model prog w) A (eval (.Subscript value slice pos) env) Q E s:=by
 refine Subscript_ (bI h (fun o s₁ h₁=>bI h₁ (fun i s₂ h₂=>?_) fun _ _ x=>x) fun _ _ x=>x);obtain⟨hT,h₂⟩:=h₂;unfold subscriptTail;refine ac ?_;rw[getitemInPython_of_ne hT.not_modules];refine ac (wpAny_specialOf hT hl ?_)
 have fin:wpAny (model prog w) A (subscripted slice false o i) (fun r s₃=>wpAny (model prog w) A (letTemporaryGo value o r >>= fun _=>pure r) Q E s₃) E s₂:=by
  rw[hs o i];exact wpAny_operating (bI h₂ (fun r s₃ h₃=>ac (wpAny_letTemporaryGo (aG h₃))) fun _ _ x=>x)
 first
  | exact aG (ac fin)
  | exact ac (aG (ac fin))
  | exact ac fin
theorem oU {o:Option V}(I:Inv X pins σ H s)(g:pj H a y o):s.TypeIs (.ref a) "dict":=by
 rcases g with⟨kvs,k,e,_,_⟩|⟨kvs,k,b,e,_,_,_⟩
 ·obtain⟨_,_,vs,_,dd⟩:=jB I.hok e;exact dd.typeIs
 ·obtain⟨_,_,xs,_,dd⟩:=tR I.hok e;exact dd.typeIs
def yk (td ty:TE):TE:=fun σ H Q=>td σ H fun x H1=>ty σ H1 fun y H2=>∃a v,x=.ref a/\pj H2 a y (some v)/\Q v H2
def yt (td ty tv:TE):TS:=fun D σ H=>tv σ H fun v H1=>td σ H1 fun x H2=>ty σ H2 fun y H3=>∃a H4,x=.ref a/\rD H3 a y v H4/\D.nx σ H4
def yw (td ty tv:TE)(rd:V->V->Hp->VK->Prop):TS:=fun D σ H=>td σ H fun x H1=>ty σ H1 fun y H2=>∃a v,x=.ref a/\pj H2 a y (some v) /\
 tv σ H2 fun y2 H3=>rd v y2 H3 fun z H4=>∃H5,rD H4 a y z H5/\D.nx σ H5
section
variable {o i:Expr}{pos:Pos}
theorem dL (hu:X.A.units+1<cLine)(ho:PE X o td)(hi:PE X i ty)(hs:BY i):PE X (.Subscript o i pos) (yk td ty):=by
 intro pins s σ H Q I h;refine wn PySem.F.slot_dict_getitem.lookup hs (thn (ho pins s σ H _ I h) fun u s1 zz=>?_);obtain⟨x,H1,I1,rx,q1⟩:=zz;refine thn (hi pins s1 σ H1 _ I1 q1) fun iv s2 zz=>?_;obtain⟨y,H2,I2,ry,a,v,ex,g,q2⟩:=zz;subst ex;obtain rfl:u=Value.ref a:=rx;exact⟨oU I2 g,nL hu I2 g ry fun w' s3 I3 rw'=>⟨v,H2,I3,rw',q2⟩⟩
theorem dH (hu:X.A.units+1<cLine)(ho:PE X o td)(hi:PE X i ty)(hv:PE X value tv)(hs:swapsWith value (some (.Subscript o i pos')) pos.line X.env=pure false) :
  PS X (.Assign [.Subscript o i pos'] value pos) (yt td ty tv):=by
 intro pins s σ H D I h;refine wpAny_Assign_Subscript (thn (hv pins s σ H _ I h) fun r s1 ⟨v,H1,I1,rv,q1⟩=>thn (ho pins s1 σ H1 _ I1 q1) fun u s2 ⟨x,H2,I2,rx,q2⟩=>thn (hi pins s2 σ H2 _ I2 q2) fun iv s3 ⟨y,H3,I3,ry,a,H4,ex,g,q3⟩=>?_) hs;subst ex;obtain rfl:u=Value.ref a:=rx;exact nJ hu I3 g ry rv fun s4 I4=>⟨σ,H4,I4,q3⟩
theorem si {op:Operator}(hu:X.A.units+1<cLine)(ho:PE X o td)(hi:PE X i ty)(hv:PE X value tv)(hop:Bp X op rd)
  (ha:∀ov iv new,augStore i ov iv new=(do holding [new,ov,iv] (setItem ov iv new);release [new,ov,iv] [];pure .next)):PS X (.AugAssign (.Subscript o i tpos) op value pos) (yw td ty tv rd):=by
 intro pins s σ H D I h;refine wpAny_AugAssign_SubscriptAny (thn (ho pins s σ H _ I h) fun u s1 ⟨x,H1,I1,rx,q1⟩=>thn (hi pins s1 σ H1 _ I1 q1) fun iv s2 ⟨y,H2,I2,ry,a,v,ex,g,q2⟩=>?_) ha;subst ex;obtain rfl:u=Value.ref a:=rx;refine nL hu I2 g ry fun w' s3 I3 rw'=>thn (hv pins s3 σ H2 _ I3 q2) fun w2 s4 zz=>?_;obtain⟨y2,H3,I4,ry2,q3⟩:=zz
 refine thn (hop pins s4 σ H3 v y2 w' w2 _ I4 rw' ry2 q3) fun w3 s5 zz=>?_;obtain⟨z,H4,I5,rz,H5,g5,q4⟩:=zz;exact nJ hu I5 g5 ry rz fun s6 I6=>⟨σ,H5,I6,q4⟩
end
theorem vm (h:Heap)(hb:sysModules<h.objs.size):cE P w H (h.push { cls:=.type "dict",data:=.dict #[] }) h.objs.size (.dK []):=
 ⟨zero_le _,beq_eq_false_iff_ne.mpr (bM (aP hb)),[],.nil,Heap.DictOf.new h⟩
def yj:TE:=fun _ H Q=>∀p,H p=none->Q (.ref p) (upd H p (.dK []))
section
variable {pos:Pos}
theorem fO:PE X (.Dict [] [] pos) yj:=fun pins s σ H Q I h=>
 wpAny_Dict_empty ⟨.ref s.heap.objs.size,_,I.laid (a:=s.heap.objs.size) (o:=.dK []) (t':=s.toks) (fun _ _ q=>az _ q) (aE _) (vm s.heap I.big),rfl,h _ (I.hok.fresh (aE _))⟩
end
structure M1 (X:Cx)(o:Expr)(m:Str)(apos:Pos)(e:Expr)(cpos:Pos):Prop where
 base:attributeBase o m X.env (eval o X.env)=eval o X.env
 few:((backTo cpos (starEach [e] X.env)).all (fun x=>!x.1)&&(backToKw cpos (keywordEach [] X.env)).all (fun x=>x.1.isSome)
  && decide (([e]:List Expr).length+([]:List Keyword).length+(if ([]:List Keyword).isEmpty then 0 else 1)<30))=true
 line:(apos.endLine==cpos.line)=true
 trees:backTo cpos (starEach [e] X.env)=[(false,eval e X.env)]
structure M2 (X:Cx)(o:Expr)(m:Str)(apos:Pos)(e f:Expr)(cpos:Pos):Prop where
 base:attributeBase o m X.env (eval o X.env)=eval o X.env
 few:((backTo cpos (starEach [e,f] X.env)).all (fun x=>!x.1)&&(backToKw cpos (keywordEach [] X.env)).all (fun x=>x.1.isSome)
  && decide (([e,f]:List Expr).length+([]:List Keyword).length+(if ([]:List Keyword).isEmpty then 0 else 1)<30))=true
 line:(apos.endLine==cpos.line)=true
 trees:backTo cpos (starEach [e,f] X.env)=[(false,eval e X.env),(false,eval f X.env)]
def IsD (H:Hp)(a:Addr):Prop:=(∃kvs,Rd H a (.dK kvs))\/∃kvs,Rd H a (.dT kvs)
theorem vT (I:Inv X pins σ H s)(d:IsD H a) :
  s.TypeIs (.ref a) "dict"/\(∀b,Value.ref a=.ref b->∃ob,s.heap.get? b=some ob/\ob.dict=none)/\(a==sysModules)=false:=by
 rcases d with⟨kvs,e⟩|⟨kvs,e⟩
 ·obtain⟨_,hd,vs,_,dd⟩:=jB I.hok e;refine⟨dd.typeIs,fun b q=>?_,hd⟩;cases q;obtain⟨ob,_,_,h1,h2,_⟩:=dd;exact⟨ob,h1,h2.2.1⟩
 ·obtain⟨_,hd,xs,_,dd⟩:=tR I.hok e;refine⟨dd.typeIs,fun b q=>?_,hd⟩;cases q;obtain⟨ob,_,_,h1,h2,_⟩:=dd;exact⟨ob,h1,h2.2.1⟩
section
variable {d:V}{r:Value}{o:Option V}
end
def yi (td ty:TE):TE:=fun σ H Q=>td σ H fun x H1=>∃a,x=.ref a/\IsD H1 a/\ty σ H1 fun y H2=>∃kvs k v,H2 a=some (.dK kvs)/\y=kV k/\cf kvs k=some v/\Q v (upd H2 a (.dK (gh kvs k)))
section
variable {o f:Expr}
theorem iG (ho:PE X o td)(he:PE X e ty)(m:M1 X o "pop" apos e cpos):PE X (.Call (.Attribute o "pop" apos) [e] [] cpos) (yi td ty):=by
 intro pins s σ H Q I h;refine wpAny_Call_method m.base m.few m.line plainAttrs_dict PySem.F.slot_dict_pop PySem.F.type_dict_pop (thn (ho pins s σ H _ I h) fun u s1 zz=>?_);obtain⟨x,H1,I1,rx,a,ex,d,q1⟩:=zz;subst ex;obtain rfl:u=Value.ref a:=rx;obtain⟨t1,t2,_⟩:=vT I1 d;refine⟨t1,t2,?_⟩;rw[m.trees]
 refine Calls.callWith_builtin rfl (Calls.evalArgs_plain (Calls.spliced_cons (thn (he pins s1 σ H1 _ I1 q1) fun iv s2 zz=>?_)));obtain⟨y,H2,I2,ry,kvs,k,v,ea,ey,l,q2⟩:=zz;refine Calls.spliced_nil ?_;subst ey;exact Bj I2 ea ry l (.inl rfl) fun w' s3 I3 rw'=>⟨v,_,I3,rw',q2⟩
end
section
end
section
end
end L2
namespace HT
open PySem PyProof.Rows
section
open PySem.SeqAt
open PySem.AutoSeq1 (wpAny_loadPart')
open PySem.MeetsSeq PySem.MeetsSeq2 PySem.MeetsSeq3
end
section
def sIx (n d:Nat):Option Int->Nat
 | none=>d
 | some v=>if v<0 then (v+(n:Int)).toNat else min v.toNat n
theorem sIx_none (n d:Nat):sIx n d none=d:=rfl
theorem sIx_nat (n d k:Nat):sIx n d (some (k:Int))=min k n:=by
 show (if (k:Int)<0 then ((k:Int)+(n:Int)).toNat else min (k:Int).toNat n)=min k n;rw[aA (by lia),toNat_natCast]
end
end HT
namespace L2
open PySem PySem.Spec PyProof.Rows
abbrev TO:=St->Hp->(Option Int->Hp->Prop)->Prop
variable {th:L2.TO}
def PO (X:Cx)(e:Option Expr)(t:TO):Prop:=
 ∀(pins:List (Addr×Obj)) (s:Shared) (σ:St) (H:Hp) (Q:Option Int->Hp->Prop),Inv X pins σ H s->t σ H Q ->
  wpAny (model X.prog X.w) X.A (evalPart e X.env) (fun u s'=>∃o H',Inv X pins σ H' s'/\IsPart u o/\Q o H') X.xe s
def rN:TO:=fun _ H Q=>Q none H
def yd (t:TE):TO:=fun σ H Q=>t σ H fun x H1=>∃i,x=.int i/\Q (some i) H1
section
variable {lo hi:Option Expr}{tl:TO}{pos:Pos}
theorem d9:PO X none rN:=by
 intro pins s σ H Q I h;rw[evalPart_none];exact aG ⟨none,H,I,.none,h⟩
theorem dJ (h:PE X e te):PO X (some e) (yd te):=by
 intro pins s σ H Q I hw;rw[evalPart_some];refine thn (h pins s σ H _ I hw) fun u s1 zz=>?_;obtain⟨x,H1,I1,r1,q1⟩:=zz;obtain⟨i,rfl,q⟩:=q1;obtain⟨t,rfl⟩:=r1;exact⟨some i,H1,I1,.int i t,q⟩
def SlR (X:Cx)(r:V->Option Int->Option Int->Hp->VK->Prop):Prop:=
 ∀(pins:List (Addr×Obj)) (s:Shared) (σ:St) (H:Hp) (x:V) (v vl vu:Value) (lo hi:Option Int) (sl:Addr) (Q:VK),Inv X pins σ H s->cW x v->s.heap.IsSliceOf sl vl vu .none->IsPart vl lo->IsPart vu hi->r x lo hi H Q ->
  ∃T id,typeLookup (.type T) "__getitem__" = pure (some (.builtin id))/\s.TypeIs v T/\wpAny (model X.prog X.w) X.A (getItem v (.ref sl)) (EP X pins σ Q) X.xe s
def tSl (r:V->Option Int->Option Int->Hp->VK->Prop)(te:TE)(tl th:TO):TE:=fun σ H Q=>te σ H fun x H1=>tl σ H1 fun l H2=>th σ H2 fun u H3=>r x l u H3 Q
theorem dj {r:V->Option Int->Option Int->Hp->VK->Prop}(hr:SlR X r)(he:PE X e te)(hl:PO X lo tl)(hu:PO X hi th):PE X (.Subscript e (.Slice lo hi none p2) pos) (tSl r te tl th):=by
 intro pins s σ H Q I h;refine Subscript_ (thn (he pins s σ H _ I h) fun v s1 zz=>?_);obtain⟨x,H1,I1,r1,q1⟩:=zz;refine wpAny_Slice (thn (hl pins s1 σ H1 _ I1 q1) fun vl s2 zz=>?_);obtain⟨l,H2,I2,pl,q2⟩:=zz;refine thn (hu pins s2 σ H2 _ I2 q2) fun vu s3 zz=>?_;obtain⟨u,H3,I3,pu,q3⟩:=zz;rw[evalPart_none];refine aG ?_
 have I4:Inv X pins σ H3 { s3 with heap:=s3.heap.push { cls:=.type "slice",data:=.fields #[vl,vu,.none] } }:=I3.kept (t':=s3.toks) fun b ob q=>az _ q;obtain⟨T,id,hT,ht,hg⟩:=hr pins { s3 with heap:=s3.heap.push { cls:=.type "slice",data:=.fields #[vl,vu,.none] } } σ H3 x v vl vu l u s3.heap.objs.size Q I4 r1 (Heap.IsSliceOf.new ..) pl pu q3
 show wpAny (model X.prog X.w) X.A (subscriptTail e (.Slice lo hi none p2) v (.ref s3.heap.objs.size)) (EP X pins σ Q) X.xe { s3 with heap:=s3.heap.push { cls:=.type "slice",data:=.fields #[vl,vu,.none] } };exact tail_any (ops:=[.ref s3.heap.objs.size,v]) ht hT hg (by with_unfolding_all rfl)
def vo (xs:List V)(lo hi:Option Int):List V:=(xs.drop (HT.sIx xs.length 0 lo)).take (HT.sIx xs.length xs.length hi - HT.sIx xs.length 0 lo)
theorem o_ (xs:List V)(lo hi:Option Int):(vo xs lo hi).length<=xs.length:=by
 unfold vo;rw[bo,bO]
 lia
end
def ixN (n:Nat)(i:Int):Option Nat:=if 0<=i then (if i<n then some i.toNat else none) else if -(n:Int)<=i then some (i+n).toNat else none
def atI {α:Type}(xs:List α)(i:Int):Option α:=(ixN xs.length i).bind fun j=>xs[j]?
theorem s_ {i:Int}(h:ixN n i=some j):seqIndex? i n=some j/\j<n/\-(n:Int)<=i/\i<n:=by
 unfold ixN at h;by_cases h0:0<=i
 ·rw[aH h0] at h;by_cases h1:i<n
  ·rw[aH h1] at h;have e:i.toNat=j:=aw h;exact⟨by rw[seqIndex_of h0 h1,e],by lia,by lia,h1⟩
  ·rw[aA h1] at h;cases h
 ·rw[aA h0] at h;by_cases h1:-(n:Int)<=i
  ·rw[aH h1] at h;have e:(i+n).toNat=j:=aw h;exact⟨by rw[seqIndex_neg (by lia) h1,e],by lia,h1,by lia⟩
  ·rw[aA h1] at h;cases h
theorem pf {α:Type}{xs:List α}{i:Int}{v:α}(h:atI xs i=some v):∃j,seqIndex? i xs.length=some j/\xs[j]?=some v/\j<xs.length/\-(xs.length:Int)<=i/\i<xs.length:=by
 unfold atI at h;cases e:ixN xs.length i with
 | none=>rw[e] at h;cases h
 | some j=>
  rw[e] at h;obtain⟨h1,h2,h3,h4⟩:=s_ e;exact⟨j,h1,h,h2,h3,h4⟩
theorem dN {α:Type}{xs:List α}{v:α}(h:xs[j]?=some v):atI xs (j:Int)=some v:=by
 have hj:j<xs.length:=(aq.mp h).1
 have e:ixN xs.length (j:Int)=some j:=by
  unfold ixN;rw[aH (by lia),aH (by lia)];simp
 unfold atI;rw[e];exact h
theorem atI_last {α:Type}(xs:List α)(v:α):atI (xs++[v]) (-1)=some v:=by
 have hl:(xs++[v]).length=xs.length+1:=by simp
 have e:ixN (xs++[v]).length (-1)=some xs.length:=by
  unfold ixN;rw[hl,aA (by decide),aH (by lia)];congr 1
  lia
 unfold atI;rw[e];show (xs++[v])[xs.length]?=some v;simp
def ue (b:Expr):Prop:=∀o i,subscripted b false o i=operate [o,i] (getItem o i)
def IxR (X:Cx)(r:R2):Prop:=
 ∀(value slice:Expr) (pins:List (Addr×Obj)) (s:Shared) (σ:St) (H:Hp) (x y:V) (v u:Value) (Q:VK),Inv X pins σ H s->cW x v->cW y u->r x y H Q ->
  subscripted slice false v u=operate [v,u] (getItem v u)->wpAny (model X.prog X.w) X.A (subscriptTail value slice v u) (EP X pins σ Q) X.xe s
def MtR (X:Cx)(id:String)(r:V->List V->Hp->VK->Prop):Prop:=
 ∀(pins:List (Addr×Obj)) (s:Shared) (σ:St) (H:Hp) (x:V) (xs:List V) (v:Value) (us:List Value) (Q:VK),Inv X pins σ H s->cW x v->cU xs us->r x xs H Q ->
  wpAny (model X.prog X.w) X.A (call (.builtin id) (v::us)) (EP X pins σ Q) X.xe s
section
variable {a b:Expr}{tb:TE}{pos:Pos}
theorem IxR.or (h:IxR X r)(h':IxR X r'):IxR X (fun x y H Q=>r x y H Q\/r' x y H Q):=by
 intro value slice pins s σ H x y v u Q I rx ry q hs;rcases q with q|q
 ·exact h value slice pins s σ H x y v u Q I rx ry q hs
 ·exact h' value slice pins s σ H x y v u Q I rx ry q hs
theorem AW (hr:IxR X r)(ha:PE X a ta)(hb:PE X b tb)(hs:ue b):PE X (.Subscript a b pos) (tOp r ta tb):=by
 intro pins s σ H Q I h;exact Subscript_ (Bn ha hb I h fun v u s2 x y H2 I2 rx ry q=>hr a b pins s2 σ H2 x y v u Q I2 rx ry q (hs _ _))
def xS (K:Frag):R2:=fun x y H Q=>∃p xs i v,x=.ref p/\y=.int i/\SqL K H p xs/\atI xs i=some v/\Q v H
def AT (K:Frag):R2:=fun x y H Q=>∃p xs i v,x=.ref p/\y=.int i/\SqT K H p xs/\atI xs i=some v/\Q v H
def BE:R2:=fun x y H Q=>∃z i c,x=.str z/\y=.int i/\z.length<=sizeLine/\atI z.cps.toList i=some c/\Q (.str ⟨#[c]⟩) H
theorem aS:IxR X (xS X.K):=by
 intro value slice pins s σ H x y v u Q I rx ry h hs;obtain⟨p,xs,i,z,rfl,rfl,hq,he,q⟩:=h;cases rx;obtain⟨t,rfl⟩:=ry;obtain⟨its,r,pl,hz⟩:=I.list hq;obtain⟨j,h1,h2,h3,h4,h5⟩:=pf he;obtain⟨w,ew,rw'⟩:=r.get h2;have hl:=r.length;have hn:=kP;have fin:EP X pins σ Q w s:=⟨z,H,I,rw',q⟩;by_cases h0:0<=i
 ·have hj:i.toNat=j:=by
   rw[seqIndex_of h0 h5] at h1;exact aw h1
  exact item_listR pl.isList h0 (by lia) (by rw[hj];simpa using ew) fin hs
 ·have hj:(i+(its.toArray.size:Int)).toNat=j:=by
   rw[seqIndex_neg (by lia) h4] at h1;rw[aJ,<- hl];exact aw h1
  exact subscriptTail_builtinR (x:=w) pl.isList.typeIs slot_list_getitem.lookup
   (wpAny_getItem_list_neg (Q:=fun r s'=>r=w/\EP X pins σ Q r s') pl.isList (by lia) (by rw[aJ]<;>lia) (by lia) (by rw[hj];simpa using ew) ⟨rfl,fin⟩) hs
theorem fB:IxR X (AT X.K):=by
 intro value slice pins s σ H x y v u Q I rx ry h hs;obtain⟨p,xs,i,z,rfl,rfl,hq,he,q⟩:=h;cases rx;obtain⟨t,rfl⟩:=ry;obtain⟨its,r,pl,hz⟩:=I.tuple hq;obtain⟨j,h1,h2,h3,h4,h5⟩:=pf he;obtain⟨w,ew,rw'⟩:=r.get h2;have hl:=r.length;have hn:=kP;have fin:EP X pins σ Q w s:=⟨z,H,I,rw',q⟩
 exact subscriptTail_builtinR (x:=w) pl.typeIs slot_tuple_getitem.lookup
  (getItem_tuple (j:=j) (Q:=fun r s'=>r=w/\EP X pins σ Q r s') pl (by lia) (by lia) (by rw[aJ,<- hl];exact h1) (by simpa using ew) ⟨rfl,fin⟩) hs
theorem zA:IxR X BE:=by
 intro value slice pins s σ H x y v u Q I rx ry h hs;obtain⟨z,i,c,rfl,rfl,hz,he,q⟩:=h;obtain⟨t,rfl⟩:=rx;obtain⟨t',rfl⟩:=ry;obtain⟨j,h1,h2,h3,h4,h5⟩:=pf he;have hl:z.cps.toList.length=z.length:=by simp[Str.length]
 rw[hl] at h1 h4 h5;have hn:=kP
 exact tail_any (typeIs_str s z t) slot_str_getitem.lookup (getItem_str (c:=c) (by
  have e1:decide (i < -(2 ^ 63:Int))=false:=aF (by lia);have e2:decide (i ≥ 2 ^ 63)=false:=aF (by lia)
  rw[e1,e2,Bool.or_false]) (by rw[h1];simpa using h2) ⟨.str ⟨#[c]⟩,H,I.tok _,⟨_,rfl⟩,q⟩) hs
def rIx (K:Frag):R2:=fun x y H Q=>xS K x y H Q\/AT K x y H Q\/BE x y H Q
theorem zB:IxR X (rIx X.K):=aS.or (fB.or zA)
theorem qX (its:List Value)(n j:Nat)(u:Value):mapSeq (·.setIfInBounds j u) { cls:=.type "list",data:=.seq its.toArray n }={ cls:=.type "list",data:=.seq (its.set j u).toArray n }:=by
 simp[mapSeq]
theorem Inv.lst {p}(I:Inv X pins σ H s)(h:H p=some (.lst xs)) :
  ∃(its:List Value) (n:Nat),cU xs its/\s.heap.get? p=some { cls:=.type "list",data:=.seq its.toArray n }/\xs.length<=sizeLine:=by
 obtain⟨z,its,n,r,e⟩:=I.hok p _ h;exact⟨its,n,r,e,z⟩
theorem Inv.lstUpd {p}{its:List Value}{n':Nat}{f:Obj->Obj}(I:Inv X pins σ H s)(h:H p=some (.lst xs))
  (ho:s.heap.get? p=some { cls:=.type "list",data:=.seq its.toArray n }) (hf:f { cls:=.type "list",data:=.seq its.toArray n }={ cls:=.type "list",data:=.seq its'.toArray n' }) (r:cU ys its') (hz:ys.length<=sizeLine) (t:Nat) :
  Inv X pins σ (upd H p (.lst ys)) { s with heap:=s.heap.update p f,toks:=t }:=by
 have e:(s.heap.update p f).get? p=some { cls:=.type "list",data:=.seq its'.toArray n' }:=by
  rw[bR f ho (by rw[hf]<;>rfl),hf]
 refine I.write (x:=p) (e:=p) (by rw[h];trivial) (.inl rfl) (fun b u hb q=>(get?_update_other _ _ (bM hb)).trans q) ⟨_,e⟩ ?_;exact⟨hz,its',n',r,e⟩
def yL:V->V->V->Hp->(Hp->Prop)->Prop:=fun o i v H Q=>∃p xs k j,o=.ref p/\i=.int k/\H p=some (.lst xs)/\ixN xs.length k=some j/\Q (upd H p (.lst (xs.set j v)))
theorem jC:BX X yL:=by
 intro pins s σ H o i v ov iv u Q I ro ri rv h;obtain⟨p,xs,k,j,rfl,rfl,hp,hj,q⟩:=h;cases ro;obtain⟨t,rfl⟩:=ri;obtain⟨its,n,r,ho,hz⟩:=I.lst hp;obtain⟨h1,h2,h3,h4⟩:=s_ hj;have hl:=r.length;have hn:=kP
 have I':Inv X pins σ (upd H p (.lst (xs.set j v))) { s with heap:=s.heap.update p (mapSeq (·.setIfInBounds j u)) }:=
  I.lstUpd hp ho (qX its n j u) (r.set rv j) (by rw[length_set];exact hz) s.toks
 by_cases h0:0<=k
 ·have hk:k.toNat=j:=by
   rw[seqIndex_of h0 h4] at h1;exact aw h1
  exact PySem.W.ki_setAt ho h0 (by lia) (by rw[aJ,<- hl];exact h4) (by rw[hk];exact⟨_,I',q⟩)
 ·have hk:(k+(its.toArray.size:Int)).toNat=j:=by
   rw[seqIndex_neg (by lia) h3] at h1;rw[aJ,<- hl];exact aw h1
  exact PySem.W.ki_setBack ho (by lia) (by rw[aJ,<- hl];exact h3) (by lia) (by rw[hk];exact⟨_,I',q⟩)
theorem mC (lo hi:Option Int)(n:Nat):(sliceBounds lo hi none n).1=((HT.sIx n 0 lo:Nat):Int)/\(sliceBounds lo hi none n).2.1=((HT.sIx n n hi:Nat):Int)/\(sliceBounds lo hi none n).2.2=1:=by
 refine⟨?_,?_,rfl⟩
 ·cases lo with
  | none=>simp[sliceBounds,HT.sIx]
  | some i=>
   simp only[sliceBounds,HT.sIx,getD_none,show (1:Int) > 0 by decide,if_true];by_cases h:i<0
   ·simp only[h,if_true]<;>lia
   ·simp only[h,if_false]<;>lia
 ·cases hi with
  | none=>simp[sliceBounds,HT.sIx]
  | some i=>
   simp only[sliceBounds,HT.sIx,getD_none,show (1:Int) > 0 by decide,if_true];by_cases h:i<0
   ·simp only[h,if_true]<;>lia
   ·simp only[h,if_false]<;>lia
theorem lD (its:List Value)(lo hi:Option Int):slicePick its.toArray lo hi none=((its.drop (HT.sIx its.length 0 lo)).take (HT.sIx its.length its.length hi - HT.sIx its.length 0 lo)).toArray:=by
 obtain⟨h1,h2,h3⟩:=mC lo hi its.toArray.size;unfold slicePick;rw[h1,h2,h3];simp only[sliceRange_one,pick_run,aJ]<;>rfl
def AS (K:Frag):V->Option Int->Option Int->Hp->VK->Prop:=fun x lo hi H Q=>∃a xs,x=.ref a/\SqL K H a xs/\∀p,H p=none->Q (.ref p) (upd H p (.lst (vo xs lo hi)))
theorem dQ:SlR X (AS X.K):=by
 intro pins s σ H x v vl vu lo hi sl Q I rx hs pl pu h;obtain⟨a,xs,rfl,hx,q⟩:=h;cases rx;obtain⟨its,r,ht,hz⟩:=I.list hx;have hlen:=r.length;refine⟨"list",_,slot_list_getitem.lookup,ht.isList.typeIs,?_⟩;refine wpAny_getItem_list_slice ht.isList hs pl pu .none (by simp) ?_ (by rw[aJ]<;>lia);rw[lD,<- hlen]
 refine⟨.ref s.heap.objs.size,_,I.laid (t':=s.toks) (o:=.lst (vo xs lo hi)) (fun b ob q=>az _ q) (aE _) ?_,rfl,q _ (I.hok.fresh (aE _))⟩;exact⟨bh (o_ xs lo hi) hz,_,0,(r.drop (HT.sIx xs.length 0 lo)).take (HT.sIx xs.length xs.length hi - HT.sIx xs.length 0 lo),aV _ rfl⟩
def jd:V->Bool
 | .non=>true
 | .bl _=>true
 | .int _=>true
 | .str _=>true
 | _=>false
def eqV:V->V->Bool
 | .non,.non=>true
 | .bl a,.bl b=>a==b
 | .bl a,.int b=>(if a then 1 else 0)==b
 | .int a,.bl b=>a==(if b then 1 else 0)
 | .int a,.int b=>a==b
 | .str a,.str b=>a==b
 | _,_=>false
theorem qC {x v}(ry:cW y u)(rx:cW x v)(fy:jd y=true)(fx:jd x=true):SeqAt.EqAt A s u v (eqV y x):=by
 cases y with
 | non=>
  cases ry;cases x with
  | non=>cases rx;exact SeqAt.EqAt.same _
  | bl b=>cases rx;exact SeqAt.EqAt.none_bool b
  | int b=>obtain⟨t,rfl⟩:=rx;exact SeqAt.EqAt.none_int b t
  | str b=>obtain⟨t,rfl⟩:=rx;exact SeqAt.EqAt.none_str b t
  | _=>exact aY (show false=true from fx) ay
 | bl a=>
  cases ry;cases x with
  | non=>cases rx;exact SeqAt.EqAt.bool_none a
  | bl b=>cases rx;exact SeqAt.EqAt.bool_bool a b
  | int b=>obtain⟨t,rfl⟩:=rx;exact SeqAt.EqAt.bool_int a b t
  | str b=>obtain⟨t,rfl⟩:=rx;exact SeqAt.EqAt.bool_str a b t
  | _=>exact aY (show false=true from fx) ay
 | int a=>
  obtain⟨t',rfl⟩:=ry;cases x with
  | non=>cases rx;exact SeqAt.EqAt.int_none a t'
  | bl b=>cases rx;exact SeqAt.EqAt.int_bool a t' b
  | int b=>obtain⟨t,rfl⟩:=rx;exact SeqAt.EqAt.int_int a t' b t
  | str b=>obtain⟨t,rfl⟩:=rx;exact SeqAt.EqAt.int_str a t' b t
  | _=>exact aY (show false=true from fx) ay
 | str a=>
  obtain⟨t',rfl⟩:=ry;cases x with
  | non=>cases rx;exact SeqAt.EqAt.str_none a t'
  | bl b=>cases rx;exact SeqAt.EqAt.str_bool a t' b
  | int b=>obtain⟨t,rfl⟩:=rx;exact SeqAt.EqAt.str_int a t' b t
  | str b=>obtain⟨t,rfl⟩:=rx;exact SeqAt.EqAt.str_str a t' b t
  | _=>exact aY (show false=true from fx) ay
 | _=>exact aY (show false=true from fy) ay
def eqU (x:V)(u:Value):Bool:=match u with
 | .none=>eqV .non x
 | .bool b=>eqV (.bl b) x
 | .int i _=>eqV (.int i) x
 | .str z _=>eqV (.str z) x
 | _=>false
theorem vY {x}(r:cW y u)(f:jd y=true):eqU x u=eqV y x:=by
 cases y with
 | non=>cases r;rfl
 | bl b=>cases r;rfl
 | int i=>obtain⟨t,rfl⟩:=r;rfl
 | str z=>obtain⟨t,rfl⟩:=r;rfl
 | _=>exact aY (show false=true from f) ay
theorem ph {x:V}:∀{xs:List V} {us:List Value},cU xs us->xs.all jd=true->us.any (eqU x)=xs.any fun y=>eqV y x
 | _,_,.nil,_=>rfl
 | y::xs,u::us,.cons r t,f=>by
  rw[all_cons,and_eq_true] at f;rw[any_cons,any_cons,vY r f.1,ph t f.2]
theorem lX {A:Around}{s:Shared}{x:V}{v:Value}(rx:cW x v)(fx:jd x=true):∀{xs:List V} {us:List Value},cU xs us->xs.all jd=true->∀u∈us,SeqAt.EqAt A s u v (eqU x u)
 | _,_,.nil,_=>fun u hu=>by cases hu
 | y::xs,u::us,.cons r t,f=>fun u' hu=>by
  rw[all_cons,and_eq_true] at f;rcases bm.mp hu with rfl|hu
  ·rw[vY r f.1];exact qC r rx f.1 fx
  ·exact lX rx fx t f.2 u' hu
def inV (x:V)(xs:List V):Bool:=xs.any fun y=>eqV y x
def rIn (K:Frag)(neg:Bool):R2:=fun x y H Q=>∃p xs,y=.ref p/\(SqL K H p xs\/SqT K H p xs)/\jd x=true/\xs.all jd=true/\Q (.bl (if neg then !inV x xs else inV x xs)) H
theorem fQ:OpR X (compareOp .NotIn) (rIn X.K true):=by
 intro pins s σ H x y v u Q I rx ry h;obtain⟨p,xs,rfl,hq,fx,fs,q⟩:=h;cases ry;rcases hq with hq|hq
 ·obtain⟨its,r,pl,hz⟩:=I.list hq;refine SeqAt.notIn_listAt (eqU x) pl.isList (fun w hw=>lX rx fx r fs w (by simpa using hw)) ⟨.bl _,H,I,rfl,?_⟩;rw[show its.toArray.any (eqU x)=its.any (eqU x) by simp,ph r fs];exact q
 ·obtain⟨its,r,pl,hz⟩:=I.tuple hq;refine SeqAt.notIn_tupleAt (eqU x) pl (fun w hw=>lX rx fx r fs w (by simpa using hw)) ⟨.bl _,H,I,rfl,?_⟩;rw[show its.toArray.any (eqU x)=its.any (eqU x) by simp,ph r fs];exact q
theorem bj:fX X (.builtin "len") (fun xs H Q=>∃p ys,xs=[.ref p]/\(SqL X.K H p ys\/SqT X.K H p ys)/\Q (.int ys.length) H):=by
 intro pins s σ H xs us Q I r h;obtain⟨p,ys,rfl,hq,q⟩:=h;obtain⟨u,rfl,rx⟩:=g6 r;cases rx;have hn:=kP;rcases hq with hq|hq
 ·obtain⟨its,r',pl,hz⟩:=I.list hq;have hlen:=r'.length;exact Calls.call_len_list pl.isList (by simp only[aJ]<;>lia) ⟨.int ys.length,H,I.tok _,⟨s.toks+1,by rw[aJ,hlen]⟩,q⟩
 ·obtain⟨its,r',pl,hz⟩:=I.tuple hq;have hlen:=r'.length;exact len_tuple pl (by simp only[aJ]<;>lia) ⟨.int ys.length,H,I.tok _,⟨s.toks+1,by rw[aJ,hlen]⟩,q⟩
theorem cM:fX X (.type "list") (fun xs H Q=>∃p ys,xs=[.ref p]/\(SqL X.K H p ys\/SqT X.K H p ys)/\∀l,H l=none->Q (.ref l) (upd H l (.lst ys))):=by
 intro pins s σ H xs us Q I r h;obtain⟨p,ys,rfl,hq,q⟩:=h;obtain⟨u,rfl,rx⟩:=g6 r;cases rx
 have fin:∀(its:List Value),cU ys its->ys.length<=sizeLine->∀(h':Heap) (c':Nat),(∀b o',s.heap.get? b=some o'->h'.get? b=some o') ->
   h'.get? s.heap.objs.size=some { cls:=.type "list",dict:=none,data:=.seq its.toArray c',slots:=#[] }->EP X pins σ Q (.ref s.heap.objs.size) { s with heap:=h' }:=fun its r' hz h' c' kp e=>
  ⟨.ref s.heap.objs.size,_,I.laid (t':=s.toks) kp (aE _) (show cE X.prog X.w _ h' _ (.lst ys) from ⟨hz,its,c',r',e⟩),rfl,q _ (I.hok.fresh (aE _))⟩
 rcases hq with hq|hq
 ·obtain⟨its,r',pl,hz⟩:=I.list hq;have hlen:=r'.length;obtain⟨o,ho,hc,n,hd⟩:=pl.isList;exact call_list_seq p (.inl rfl) ho hc hd (fun h' c' kp e=>fin its r' hz h' c' kp e) (by simp only[aJ]<;>lia)
 ·obtain⟨its,r',pl,hz⟩:=I.tuple hq;have hlen:=r'.length;obtain⟨o,ho,hc,n,hd⟩:=pl;exact call_list_seq p (.inr rfl) ho hc hd (fun h' c' kp e=>fin its r' hz h' c' kp e) (by simp only[aJ]<;>lia)
theorem iQ:fX X (.type "tuple") (fun xs H Q=>∃p ys,xs=[.ref p]/\((SqL X.K H p ys/\∀l,H l=none->Q (.ref l) (upd H l (.tup ys)))\/(SqT X.K H p ys/\Q (.ref p) H))):=by
 intro pins s σ H xs us Q I r h;obtain⟨p,ys,rfl,h⟩:=h;obtain⟨u,rfl,rx⟩:=g6 r;cases rx;rcases h with⟨hq,q⟩|⟨hq,q⟩
 ·obtain⟨its,r',pl,hz⟩:=I.list hq;have hlen:=r'.length;refine call_tuple_list pl.isList (fun h' kp=>?_) (by simp only[aJ]<;>lia);have I1:Inv X pins σ H { s with heap:=h' }:=I.kept (t':=s.toks) kp
  have I2:Inv X pins σ (upd H h'.objs.size (.tup ys)) { s with heap:=h'.push { cls:=.type "tuple",data:=.seq its.toArray } }:=
   I1.laid (t':=s.toks) (fun b o e=>az _ e) (aE _) (show cE X.prog X.w _ _ _ (.tup ys) from ⟨hz,its,r',IsTup.new _ _,kC⟩)
  exact⟨.ref h'.objs.size,_,I2,rfl,q _ (I1.hok.fresh (aE _))⟩
 ·obtain⟨its,r',pl,hz⟩:=I.tuple hq;exact call_tuple_same pl ⟨.ref p,H,I,rfl,q⟩
def tyV (K:Frag)(T:String)(x:V)(H:Hp):Prop:=match x with
 | .str _=>T = "str"
 | .int _=>T = "int"
 | .ref p=>(T = "list"/\∃xs,SqL K H p xs)\/(T = "tuple"/\∃o,K.lookup p=some o/\o.cls=.type "tuple"/\o.dict=none) \/
   (T = "dict"/\((∃kvs,H p=some (.dK kvs))\/∃kvs,H p=some (.dT kvs)))\/(T = "set"/\∃S n,H p=some (.set S n))
 | _=>False
theorem pB {T x v}(I:Inv X pins σ H s)(r:cW x v)(ty:tyV X.K T x H) :
  s.TypeIs v T/\∀a,v=.ref a->∃ob,s.heap.get? a=some ob/\ob.dict=none:=by
 cases x with
 | str z=>
  obtain⟨t,rfl⟩:=r;cases(show T = "str" from ty);exact⟨typeIs_str s z t,fun _ e=>nomatch e⟩
 | int i=>
  obtain⟨t,rfl⟩:=r;cases(show T = "int" from ty);exact⟨typeIs_int s i t,fun _ e=>nomatch e⟩
 | ref p=>
  cases r;rcases ty with⟨rfl,xs,hq⟩|⟨rfl,o,hk,hc,hd⟩|⟨rfl,hk⟩|⟨rfl,S,n,hk⟩
  ·obtain⟨its,_,pl,_⟩:=I.list hq;refine⟨pl.isList.typeIs,fun a e=>?_⟩;cases e;obtain⟨o,n,e,c,hd,_⟩:=pl;exact⟨o,e,hd⟩
  ·refine⟨⟨o,I.kIn p o hk,hc⟩,fun a e=>?_⟩;cases e;exact⟨o,I.kIn _ o hk,hd⟩
  ·have z:∃o,s.heap.get? p=some o/\o.ExactDict:=by
    rcases hk with⟨kvs,hk⟩|⟨kvs,hk⟩
    ·obtain⟨_,_,_,_,o,_,_,e,ex,_⟩:=I.hok p _ hk;exact⟨o,e,ex⟩
    ·obtain⟨_,_,_,_,o,_,_,e,ex,_⟩:=I.hok p _ hk;exact⟨o,e,ex⟩
   obtain⟨o,e,ex⟩:=z;refine⟨⟨o,e,ex.1⟩,fun a e2=>?_⟩;cases e2;exact⟨o,e,ex.2.1⟩
  ·obtain⟨o,_,_,_,e,ex,_⟩:=I.hok p _ hk;refine⟨⟨o,e,ex.1⟩,fun a e2=>?_⟩;cases e2;exact⟨o,e,ex.2.1⟩
 | _=>exact False.elim ty
def Af (K:Frag)(T:String)(r:V->List V->Hp->VK->Prop)(to:TE):TE:=fun σ H Q=>to σ H fun x H1=>tyV K T x H1/\r x [] H1 Q
def tBM (K:Frag)(T:String)(r:V->List V->Hp->VK->Prop)(to:TE)(t:TA):TE:=fun σ H Q=>to σ H fun x H1=>tyV K T x H1/\t σ H1 fun xs H2=>r x xs H2 Q
variable {o:Expr}{to:TE}{t:TA}{T id:String}{r:V->List V->Hp->VK->Prop}
theorem sy (pa:PlainAttrs T)(slot:Slot T name id)(hty:typeOf (.builtin id)=pure (.type "method_descriptor"))(hm:MtR X id r)(ho:PE X o to)
  (hbase:attributeBase o name X.env (eval o X.env)=eval o X.env:=by rfl) (hline:(apos.endLine==cpos.line)=true:=by rfl):PE X (.Call (.Attribute o name apos) [] [] cpos) (Af X.K T r to):=by
 intro pins s σ H Q I h;refine wpAny_Call_method0_late hbase hline (thn (ho pins s σ H _ I h) fun v s1 zz=>?_);obtain⟨x,H1,I1,r1,ty,q1⟩:=zz;obtain⟨h1,h2⟩:=pB I1 r1 ty;exact⟨T,id,pa,slot,hty,h1,h2,Calls.callWith_builtin rfl (PySem.evalArgs_none (hm pins s1 σ H1 x [] v [] Q I1 r1 .nil q1))⟩
theorem fU (pa:PlainAttrs T)(slot:Slot T name id)(hty:typeOf (.builtin id)=pure (.type "method_descriptor"))(hm:MtR X id r)(ho:PE X o to)(ha:PA X (e::es) t)
  (hbase:attributeBase o name X.env (eval o X.env)=eval o X.env:=by rfl)
  (hfew:((backTo cpos (starEach (e::es) X.env)).all (fun x=>!x.1)&&(backToKw cpos (keywordEach [] X.env)).all (fun x=>x.1.isSome)
   && decide ((e::es).length+([]:List Keyword).length+(if ([]:List Keyword).isEmpty then 0 else 1)<30))=true:=by rfl)
  (hline:(apos.endLine==cpos.line)=true:=by rfl) (hs:starEach (e::es) X.env=(false,eval e X.env)::starEach es X.env:=by rfl) (hplain:(backTo cpos (starEach es X.env)).any (·.1)=false:=by rfl) :
  PE X (.Call (.Attribute o name apos) (e::es) [] cpos) (tBM X.K T r to t):=by
 intro pins s σ H Q I h;refine wpAny_Call_method_late hbase hfew hline rfl (thn (ho pins s σ H _ I h) fun v s1 zz=>?_);obtain⟨x,H1,I1,r1,ty,q1⟩:=zz;obtain⟨h1,h2⟩:=pB I1 r1 ty;refine⟨T,id,pa,slot,hty,h1,h2,?_⟩;have hA:=ha cpos pins s1 σ H1 _ I1 q1;rw[hs] at hA ⊢
 refine Calls.callWith_builtin (by show (false||(backTo cpos (starEach es X.env)).any (·.1))=false;rw[hplain]<;>rfl) (Calls.evalArgs_plain ?_);exact thn hA fun us s2 ⟨vs,H2,I2,r2,q2⟩=>hm pins s2 σ H2 x vs v us Q I2 r1 r2 q2
end
def MtM (X:Cx)(id:String)(r:V->List V->Hp->VK->Prop):Prop:=
 ∀(pins:List (Addr×Obj)) (s:Shared) (σ:St) (H:Hp) (x:V) (xs:List V) (v:Value) (us:List Value) (Q:VK),Inv X pins σ H s->cW x v->cU xs us->r x xs H Q ->
  wpAny (model X.prog X.w) X.A (call (.builtin id) (v::us)) (EP X pins σ Q) X.xe s
theorem cU.one {x us}(h:cU [x] us):∃u,us=[u]/\cW x u:=by
 cases h with
 | cons r t=>cases t;exact⟨_,rfl,r⟩
theorem cU.two {x us}(h:cU [x,y] us):∃u v,us=[u,v]/\cW x u/\cW y v:=mz h
theorem cU.zero:∀{us:List Value},cU [] us->us=[]
 | _,.nil=>rfl
theorem cU.eraseIdx:∀{xs:List V} {us:List Value} (i:Nat),cU xs us->cU (xs.eraseIdx i) (us.eraseIdx i)
 | _,_,_,.nil=>.nil
 | _,_,0,.cons _ t=>t
 | _,_,i+1,.cons r t=>.cons r (cU.eraseIdx i t)
theorem mW {α:Type}:∀(l:List α) (i:Nat),(l.eraseIdx i).length<=l.length
 | [],_=>aE _
 | _::_,0=>le_succ _
 | _::r,i+1=>succ_le_succ (mW r i)
section
variable {l:Addr}
theorem Inv.lset {its:List Value}{f:Array Value->Array Value}{t':Nat}(I:Inv X pins σ H s)(hH:H l=some (.lst xs))
  (e:s.heap.get? l=some { cls:=.type "list",data:=.seq its.toArray n }) (hf:f its.toArray=its'.toArray) (hv:cU ys its') (hz:ys.length<=sizeLine) :
  Inv X pins σ (upd H l (.lst ys)) { s with heap:=s.heap.update l (mapSeq f),toks:=t' }:=by
 have q:=PySem.IsL.update e f;rw[hf] at q;refine I.write (x:=l) (e:=l) (by rw[hH];exact trivial) (.inl rfl) (fun b' u hb hu=>(get?_update_other s.heap (mapSeq f) (bM hb)).trans hu) ⟨_,q⟩ ?_;exact⟨hz,its',_,hv,q⟩
theorem Inv.lnew {its}{t':Nat}(I:Inv X pins σ H s)(hv:cU ys its)(hz:ys.length<=sizeLine) :
  Inv X pins σ (upd H s.heap.objs.size (.lst ys)) { s with heap:=s.heap.push { cls:=.type "list",data:=.seq its.toArray },toks:=t' }:=
 I.laid (fun _ _ q=>az _ q) (aE _) ⟨hz,its,0,hv,aV _ rfl⟩
theorem Inv.fresh (I:Inv X pins σ H s):H s.heap.objs.size=none:=I.hok.fresh (aE _)
theorem Inv.lstM (I:Inv X pins σ H s)(hH:H l=some (.lst xs)):xs.length<=sizeLine/\∃(its:List Value) (n:Nat),cU xs its/\xs.length=its.length/\s.heap.get? l=some { cls:=.type "list",data:=.seq its.toArray n }:=by
 obtain⟨z,its,n,r,e⟩:=I.hok l _ hH;exact⟨z,its,n,r,r.length,e⟩
theorem qh (h:n<=sizeLine):listTooLong n=false:=by
 unfold listTooLong;exact aF (by lia)
end
section
def rW:V->List V->Hp->VK->Prop:=fun x vs H Q=>∃l xs y,x=.ref l/\vs=[y]/\H l=some (.lst xs)/\xs.length<sizeLine/\Q .non (upd H l (.lst (xs++[y])))
theorem cK:MtM X "list.append" rW:=by
 intro pins s σ H x vs v us Q I rx rv h;obtain⟨l,xs,y,rfl,rfl,hH,hz,q⟩:=h;cases rx;obtain⟨u,rfl,ru⟩:=rv.one;obtain⟨z,its,n,r,hl,e⟩:=I.lstM hH;refine call_meets F.slot_list_append ⟨_,e,rfl⟩ F.entry_list_append (F.args_list_append_2 _ _) (PySem.list_append l its.toArray n u (by rw[aJ];lia)) ⟨e,?_⟩;refine⟨.non,_,I.lset (its':=its++[u]) hH e (by simp) (r.append (.cons ru .nil)) ?_,rfl,q⟩
 rw[am,List.length_singleton]
 lia
def rV:V->List V->Hp->VK->Prop:=fun x vs H Q=>∃l b xs zs,x=.ref l/\vs=[.ref b]/\H l=some (.lst xs)/\H b=some (.lst zs)/\xs.length+zs.length<=sizeLine/\Q .non (upd H l (.lst (xs++zs)))
theorem jZ:MtM X "list.extend" rV:=by
 intro pins s σ H x vs v us Q I rx rv h;obtain⟨l,b,xs,zs,rfl,rfl,hH,hB,hz,q⟩:=h;cases rx;obtain⟨u,rfl,ru⟩:=rv.one;cases ru;obtain⟨z,its,n,r,hl,e⟩:=I.lstM hH;obtain⟨z2,its2,n2,r2,hl2,e2⟩:=I.lstM hB;have hsz:its.toArray.size+its2.toArray.size<=sizeLine:=by rw[aJ,aJ];lia
 have hlong:¬(!its.toArray.isEmpty&&listTooLong (its.toArray.size+its2.toArray.size))=true:=by
  rw[qh hsz,Bool.and_false];exact ay
 refine call_meets F.slot_list_extend ⟨_,e,rfl⟩ F.entry_list_extend (F.args_list_extend_2 _ _)
  (AutoSeq1.list_extend_list_list_0 l its.toArray n b its2.toArray n2 hlong (by rw[aJ];lia) (by lia)) ⟨e,e2,?_⟩
 refine⟨.non,_,I.lset (its':=its++its2) hH e (by simp) (r.append r2) ?_,rfl,q⟩;rw[am]
 lia
def yM:V->List V->Hp->VK->Prop:=fun x vs H Q=>∃l xs i k y,x=.ref l/\vs=[.int i]/\H l=some (.lst xs)/\-(2 ^ 63)<=i/\i<2 ^ 63/\seqIndex? i xs.length=some k/\xs[k]?=some y/\Q y (upd H l (.lst (xs.eraseIdx k)))
theorem uY:MtM X "list.pop" yM:=by
 intro pins s σ H x vs v us Q I rx rv h;obtain⟨l,xs,i,k,y,rfl,rfl,hH,h1,h2,hk,hy,q⟩:=h;cases rx;obtain⟨u,rfl,ru⟩:=rv.one;obtain⟨t,rfl⟩:=ru;obtain⟨z,its,n,r,hl,e⟩:=I.lstM hH;obtain⟨w,hw,rw'⟩:=r.get hy
 refine call_meets F.slot_list_pop ⟨_,e,rfl⟩ F.entry_list_pop (F.args_list_pop_2 _ _)
  (MeetsSeq.list_pop_at l its.toArray n i t k w (fitsIndex_both h1 h2) (by rw[aJ,<- hl];exact hk) (by rw[<- Array.getElem?_toList];exact hw) (by rw[aJ];lia)) ⟨e,?_⟩
 refine⟨y,_,I.lset (its':=its.eraseIdx k) hH e ?_ (r.eraseIdx k) ?_,rw',q⟩
 ·show its.toArray.eraseIdxIfInBounds k=(its.eraseIdx k).toArray;rw[List.eraseIdxIfInBounds_toArray]
 ·have:=mW xs k
  lia
def yO:V->List V->Hp->VK->Prop:=fun x vs H Q=>∃l xs,x=.ref l/\vs=[]/\H l=some (.lst xs)/\Q .non (upd H l (.lst []))
theorem lV:MtM X "list.clear" yO:=by
 intro pins s σ H x vs v us Q I rx rv h;obtain⟨l,xs,rfl,rfl,hH,q⟩:=h;cases rx;have hus:=rv.zero;subst hus;obtain⟨z,its,n,r,hl,e⟩:=I.lstM hH;refine call_meets F.slot_list_clear ⟨_,e,rfl⟩ F.entry_list_clear (F.args_list_clear_1 _) (AutoSeq1.list_clear_list_0 l its.toArray n (by rw[aJ];lia)) ⟨e,?_⟩;exact⟨.non,_,I.lset (its':=[]) (ys:=[]) hH e rfl .nil (zero_le _),rfl,q⟩
def BH:R2:=fun x y H Q=>∃l b xs zs,x=.ref l/\y=.ref b/\H l=some (.lst xs)/\H b=some (.lst zs)/\xs.length+zs.length<=sizeLine/\∀p,H p=none->Q (.ref p) (upd H p (.lst (xs++zs)))
theorem hV:OpR X (binaryOp .Add) BH:=by
 intro pins s σ H x y v u Q I rx ry h;obtain⟨l,b,xs,zs,rfl,rfl,hH,hB,hz,q⟩:=h;cases rx;cases ry;obtain⟨z,its,n,r,hl,e⟩:=I.lstM hH;obtain⟨z2,its2,n2,r2,hl2,e2⟩:=I.lstM hB;refine PySem.P.add_list e e2 ?_ (by rw[aJ,aJ];lia);have ea:its.toArray++its2.toArray=(its++its2).toArray:=by simp
 rw[ea];exact⟨.ref _,_,I.lnew (t':=s.toks) (r.append r2) (by rw[am];lia),rfl,q _ I.fresh⟩
end
section
end
section
end
end L2
namespace Att
open PySem PySem.W PySem.Calls PyProof.Rows
theorem ke {P:Params}{h}:∀(ns:List Int) (vs:List Value),WellAll P h vs (ns.map WData.int)->IntsAre vs ns:=by
 intro ns
 induction ns with
 | nil=>
  intro vs w;rw[map_nil] at w;cases w;exact .nil
 | cons n ns ih=>
  intro vs w;rw[bH] at w;cases w with
  | cons a b=>
   cases a;exact .cons _ _ (ih _ b)
theorem rQ {l:OpenLaw}{n:Nat}(hn:l.most=some n){P:Params}{h:Heap}{args:List WData}{vals}
  (hpre:l.row.toRowW.claim.pre args=true) (hwl:WellAll P h vals args) :
  ∃a vs ns,vals=[Value.ref a]/\args=[WData.list (ns.map WData.int)]/\h.get? a=some { cls:=.type "list",data:=.seq vs.toArray }/\IntsAre vs ns/\ns.length<=n:=by
 have hsh:WShape.hasAll [] args [.list .int]=true:=(pre_splitW hpre).1;have hc:l.pre.holds [] { args:=args }=true:=(pre_splitW hpre).2;obtain⟨d,r,rfl,h1,h2⟩:=hasAllW_cons hsh;obtain rfl:=hasAllW_nil h2;obtain⟨xs,rfl,h3⟩:=hasW_list h1;obtain⟨ns,rfl⟩:=items_int h3
 have hlen:ns.length<=n:=by
  unfold OpenLaw.pre at hc
  have h4:(WTm.not (.lt (.lit (.int (n:Int))) (.len (.arg 0)))).holds [] { args:=[.list (ns.map .int)] }=true:=by
   have h4:=(holds_andW hc).1;rw[hn] at h4;exact h4
  have h5:=condW_of h4 (w_not (w_lt w_lit (w_len_list (w_arg rfl))));rw[af] at h5;refine Nat.le_of_not_lt fun q=>?_;have q':(n:Int)<((ns.length:Nat):Int):=by lia
  first
   | (rw[av q'] at h5;exact aY h5 (by decide))
   | (simp at h5;lia)
 cases hwl with
 | cons w1 w2=>
  cases w2;cases w1 with
  | list ho hall=>exact⟨_,_,ns,rfl,rfl,ho,ke ns _ hall,hlen⟩
theorem sk (l:OpenLaw)(args:List WData):l.row.toRowW.claim.post args (.bool true) args=true:=
 postW_of (r:=l.row.toRowW) (X:=(true==true))
  (show WShape.has [] (.bool true) .bool=true by first|rfl|decide|simp[WShape.has,WShape.arms,WShape.armsAll])
  (show (WTm.eq .res (.lit (.bool true))).value [] { args:=args,res:=some (.bool true),after:=args }=some (.bool (true==true)) from w_eq_bool (w_res rfl) w_lit) rfl
theorem attach_call {l:OpenLaw}{n:Nat}{q loose}{XP:(Str->Option Value)->Heap->Prop}{YP:World->Heap->Prop}{d:DefRec}
  (hn:l.most=some n) (hdf:d.params.defaults=[])
  (call:∀(w:World) (s₀ s₁:Shared) (mg mb:Str->Option Value) (fa:Addr) (o:Obj) (pm cd doc:Value) (a:Addr) (vs:List Value) (ns:List Int),
   Ground q loose [] XP w s₀ mg mb s₁.heap->YP w s₁.heap ->
   s₁.heap.get? fa=some o->o.data=.func (docDef d.name d.params d.body d.scope pm cd doc)->s₁.heap.CodeRec cd d.name->mg d.name=some (.ref fa) ->
   s₁.heap.get? a=some { cls:=.type "list",data:=.seq vs.toArray }->IntsAre vs ns->ns.length<=n->s₁.gens = #[] ->
   codeAny (model l.prog w) callerA (.call (.ref fa) ⟨[.ref a],[]⟩) (fun r s'=>r=.ok (.ret (.bool true))/\OldK s₁.heap s'.heap/\s'.os=s₁.os/\AllBare s'.gens) s₁) :
  WalkO q loose XP YP l.row.toRowW d [] (fun f vs=>PySem.call f vs):=by
 intro w s₀ s₁ mg mb G Y fa o pm cd doc dV kV ho hd hcd hD hmg hg args vals as hpre hlay hrd hwl hlo;obtain rfl:dV=.none:=Dflts.none hD hdf;obtain rfl:kV=.none:=Dflts.noKw hD;obtain⟨a,vs,ns,rfl,rfl,hobj,hints,hlen⟩:=rQ hn hpre hwl;refine enter_call (codeAny_mono (call w s₀ s₁ mg mb fa o pm cd doc a vs ns G Y ho (fd_plain hd) hcd hmg hobj hints hlen hg) fun r s' hq=>?_)
 obtain⟨rfl,h2,h3,h4⟩:=hq;exact⟨.inl ⟨.bool true,.bool true,[],rfl,fun _=>rfl,.bool true,sk l _,fun _=>⟨List.Pairwise.nil,fun _ hm=>(nomatch hm)⟩⟩,h2,h3,h4⟩
section
variable {K:Frag}
end
end Att
namespace L2
open PySem PySem.Spec PyProof.Rows
theorem gD:∀{vs:List Value} {ns:List Int},IntsAre vs ns->cU (ns.map V.int) vs
 | _,_,.nil=>.nil
 | _,_,.cons n t h=>.cons ⟨t,rfl⟩ (gD h)
def Ap (H:Hp):Prop:=∀b,H b=none\/∃o xs,H b=some (.frz o (.lst xs))
theorem u4 {mb:Str->Option Value}{k:Nat}{fa:Addr}{s₁:Shared}{vs:List Value}
  (KX:K.In s₁.heap) (hns:s₁.heap.Ns mainGlobals mg) (hb:s₁.heap.Ns builtinsNs mb) (hbb:∀x:Str,x ≠ "__name__"->mb x=bootBuiltins x) (hlim:s₁.heap.NoLimit) (hg:s₁.gens = #[])
  (ha:s₁.heap.get? a=some { cls:=.type "list",data:=.seq vs.toArray }) (hi:IntsAre vs ns) (hl:ns.length<=sizeLine) (hr:nX k callerA)
  (F:∀base:Heap,K.In base->base.Ns mainGlobals mg->iX P w K mg base CX k fa fd [x] sp) (hbind:∀(s:Shared) (u:Value),BindsTo s fd ⟨[u],[]⟩ [(x,u)])
  (hsp:∀H:Hp,Ap H->SqL K H a (ns.map V.int)->sp [.ref a] H (fun v _=>v=.bl true) fun _ _ _=>False)
  (hCX:∀H e s',CX [] H s₁ (fun _ _ _=>False) e s'->False) :
  codeAny (model P w) callerA (.call (.ref fa) ⟨[.ref a],[]⟩) (fun r s'=>r=.ok (.ret (.bool true))/\OldK s₁.heap s'.heap/\s'.os=s₁.os/\AllBare s'.gens) s₁:=by
 have rv:=gD hi;have lenV:=hi.length
 -- from an abstract heap in which nothing but the script may be tracked
 have core:∀H:Hp,Ap H->SqL K H a (ns.map V.int)->HOk P w H s₁.heap->(∀b,H b≠none->b=a)->(H a≠none->K.lookup a=none) ->
   codeAny (model P w) callerA (.call (.ref fa) ⟨[.ref a],[]⟩) (fun r s'=>r=.ok (.ret (.bool true))/\OldK s₁.heap s'.heap/\s'.os=s₁.os/\AllBare s'.gens) s₁:=by
  intro H hO hS hok hA hK;have base_of:∀{b:Addr} {o:Obj},s₁.heap.get? b=some o->H b=none->(vc s₁.heap H).get? b=some o:=fun e n=>vb e n
  have noA:∀{b:Addr} {o:Obj} {es:Array DictEntry} {ep:Nat},s₁.heap.get? b=some o->o.data=.dict es ep->H b=none:=fun {b o es ep} e d=>by
   cases q:H b with
   | none=>rfl
   | some u=>
    have e':b=a:=hA b (by rw[q];simp);subst e';rw[ha] at e;cases e;have d':Data.seq vs.toArray _=Data.dict es ep:=d;cases d'
  have nsK:∀{b:Addr} {m:Str->Option Value},s₁.heap.Ns b m->(vc s₁.heap H).Ns b m:=fun {b m} ⟨o,es,ep,e,d,r⟩=>⟨o,es,ep,base_of e (noA e d),d,r⟩
  have hKb:K.In (vc s₁.heap H):=fun b o e=>base_of (KX b o e) (by
   cases q:H b with
   | none=>rfl
   | some u=>
    have e':b=a:=hA b (by rw[q];simp);subst e'
    rw[hK (by rw[q];simp)] at e;cases e)
  have hM:Mod K mg (vc s₁.heap H):=⟨hKb,nsK hns,⟨mb,nsK hb,hbb⟩,let⟨mc,h1,h2⟩:=hlim;⟨mc,nsK h1,h2⟩⟩;have e0:Env0 P w K mg (vc s₁.heap H) callerA [] s₁ H:=⟨rfl,hM,fun b o e=>xc e,le_of_eq (tI _ _),trivial,fun b hb=>aY (show b∈([]:List Addr) from hb) (by simp),hok,.of_eq hg⟩
  refine codeAny_mono ((F _ hKb (nsK hns)).run callerA [] s₁ H ⟨[.ref a],[]⟩ [.ref a] [.ref a] _ _ hr e0 (hbind s₁ (.ref a)) (.cons rfl .nil) (hsp H hO hS)) fun r s' h=>?_;cases r with
  | error e=>exact(hCX H e s' h).elim
  | ok fl=>
   cases fl with
   | next=>exact False.elim h
   | brk=>exact False.elim h
   | cont=>exact False.elim h
   | ret u=>
    obtain⟨v,H',os,bare,un,hok',r',q⟩:=h;have q':v=.bl true:=q;subst q';obtain rfl:u=Value.bool true:=r';refine⟨rfl,OldK.of_keep fun b o e=>?_,os,bare⟩;cases q:H b with
    | none=>exact un.keep b o e q (by intro z;exact aY (show b∈([]:List Addr) from z) (by simp)) (by simp)
    | some u=>
     rcases hO b with z|⟨ob,xs,z⟩
     ·rw[q] at z;cases z
     ·have z2:=un.frzs b ob _ z;obtain⟨e1,_⟩:=hok b _ z;obtain⟨e2,_⟩:=hok' b _ z2;rw[e] at e1;cases e1;exact e2
 cases hk:K.lookup a with
 | some o=>
  -- the script is one of the module's own objects
  have e:=KX a o hk;rw[ha] at e;cases e;refine core (fun _=>none) (fun _=>.inl rfl) (.inr ⟨_,vs.toArray,_,hk,rfl,rfl,rfl,by rw[aJ,lenV];exact hl,by simpa using rv⟩) (fun b u z=>by have z':(none:Option HO)=some u:=z;cases z') (fun b z=>aY rfl z) fun z=>aY rfl z
 | none=>
  refine core (fun b=>if b=a then some (.frz { cls:=.type "list",data:=.seq vs.toArray } (.lst (ns.map V.int))) else none) (fun b=>?_) (.inl (.inr ⟨{ cls:=.type "list",data:=.seq vs.toArray },aH rfl⟩)) (fun b u z=>?_) (fun b z=>?_) fun _=>hk
  ·by_cases hb:b=a
   ·exact .inr ⟨_,_,aH hb⟩
   ·exact .inl (aA hb)
  ·by_cases hb:b=a
   ·have z':=(aH hb).symm.trans z;cases z';subst hb;exact⟨ha,by rw[af];exact hl,vs,_,rv,ha⟩
   ·have z':=(aA hb).symm.trans z;cases z'
  ·by_cases hb:b=a
   ·exact hb
   ·exact aY (aA hb) z
abbrev KOf {K:Frag}{h:Heap}(_:K.In h):Frag:=K
theorem wd {l:PySem.W.OpenLaw}{k:Nat}{q}{d:DefRec}{K:Params->Frag}{CX:World->CXT}{sp:World->Sp}
  (hn:l.most=some n) (hn2:n<=sizeLine) (hdf:d.params.defaults=[]) (hr:nX k callerA)
  (hY:∀(w:World) (h:Heap),YP w h->(K w.params).In h)
  (F:∀(w:World) (mg:Str->Option Value) (fa:Addr) (h:Heap),(K w.params).In h->h.Ns mainGlobals mg->mg d.name=some (.ref fa) ->
   ∃fd:FuncData,(∀(s:Shared) (u:Value),BindsTo s fd ⟨[u],[]⟩ [(x,u)]) /\
    ∀base:Heap,(K w.params).In base->base.Ns mainGlobals mg->iX l.prog w (K w.params) mg base (CX w) k fa fd [x] (sp w))
  (hsp:∀(w:World) (H:Hp) (a:Addr) (ns:List Int),ns.length<=n->Ap H->SqL (K w.params) H a (ns.map V.int)->sp w [.ref a] H (fun v _=>v=.bl true) fun _ _ _=>False)
  (hCX:∀(w:World) (H:Hp) (s:Shared) (e:Value) (s':Shared),CX w [] H s (fun _ _ _=>False) e s'->False) :
  PySem.W.WalkO q loose XP YP l.row.toRowW d [] (fun f vs=>PySem.call f vs):=by
 refine Att.attach_call hn hdf fun w s₀ s₁ mg mb fa o pm cd doc a vs ns G Y ho hd hcd hmg hobj hints hlen hg=>?_;have KX:=hY w _ Y;obtain⟨fd,hb,hF⟩:=F w mg fa _ KX G.T.g hmg;exact u4 KX G.T.g G.T.b G.T.builtins G.T.nolimit hg hobj hints (bh hlen hn2) hr hF hb (fun H hO hS=>hsp w H a ns hlen hO hS) fun H e s'=>hCX w H s₁ e s'
theorem walk_ofK {l:PySem.W.OpenLaw}{k:Nat}{q}{d:DefRec}{K:Params->Frag}{sp:Frag->Sp}
  (hn:l.most=some n) (hn2:n<=sizeLine) (hdf:d.params.defaults=[]) (hr:nX k callerA)
  (hY:∀(w:World) (h:Heap),YP w h->(K w.params).In h)
  (F:∀(w:World) (mg:Str->Option Value) (fa:Addr) (h:Heap),(K w.params).In h->h.Ns mainGlobals mg->mg d.name=some (.ref fa) ->
   ∃fd:FuncData,(∀(s:Shared) (u:Value),BindsTo s fd ⟨[u],[]⟩ [(x,u)]) /\
    ∀base:Heap,(K w.params).In base->base.Ns mainGlobals mg->iX l.prog w (K w.params) mg base CX k fa fd [x] (sp (K w.params)))
  (hsp:∀(K:Frag) (H:Hp) (a:Addr) (ns:List Int),ns.length<=n->Ap H->SqL K H a (ns.map V.int)->sp K [.ref a] H (fun v _=>v=.bl true) fun _ _ _=>False)
  (hCX:∀(H:Hp) (s:Shared) (e:Value) (s':Shared),CX [] H s (fun _ _ _=>False) e s'->False) :
  PySem.W.WalkO q loose XP YP l.row.toRowW d [] (fun f vs=>PySem.call f vs):=
 wd (K:=K) (CX:=fun _=>CX) (sp:=fun w=>sp (K w.params)) hn hn2 hdf hr hY F (fun w H a ns h1 h2 h3=>hsp (K w.params) H a ns h1 h2 h3) fun _ H s e s'=>hCX H s e s'
def bU (s:Stmt)(j:Nat):Stmt:=match s with
 | .ClassDef _ _ _ body _ _ _ _ _ _ _=>body.getD j (.Pass ⟨0,0,0,0⟩)
 | _=>.Pass ⟨0,0,0,0⟩
def fC (s:Stmt):Arguments:=match s with
 | .FunctionDef _ a _ _ _ _ _ _ _ _=>a
 | _=>{ posonlyargs:=[],args:=[],vararg:=none,kwonlyargs:=[],kw_defaults:=[],kwarg:=none,defaults:=[] }
def eI (s:Stmt):List Stmt:=match s with
 | .FunctionDef _ _ b _ _ _ _ _ _ _=>b
 | _=>[]
def bA (s:Stmt):Scope:=match s with
 | .FunctionDef _ _ _ _ _ _ sc _ _ _=>sc
 | _=>{ kind:=.function,names:=[],isGenerator:=false,isCoroutine:=false }
abbrev CX0:CXT:=fun _ _ _ _ _ _=>False
abbrev E0:XK:=fun _ _ _=>False
theorem fH:ie CX0 X E0:=fun _ _ _ _ _ _ _ h=>h.elim
structure Fun (K:Frag)(x qual:Str)(st:Stmt)(f:Addr)(fd:FuncData):Prop where
 ex:∃(oc:Value) (od:Option Addr) (kV doc pm:Value) (an:Option Addr) (cdv ct:Value) (osl:Array (Option Value)),
  fd=fnOf x qual (fC st) (eI st) (bA st) .none kV doc pm an cdv ct/\K.lookup f=some ⟨oc,od,.func fd,osl⟩/\codeIn K cdv qual=true
 kp:keepIn K (.ref f)=true
section
theorem Fun.ok {N}{k:Nat}(F:Fun K x qual st f fd)(S:FnScope N ps (bA st))(len:∀vs H Q E,sp vs H Q E->vs.length=ps.length)
  (hbody:∀(cdv:Value) (A:Around) (outer:List Env) (s:Shared) (H:Hp) (vs:List V) (Q:VK) (E:XK),RoomG bb k (A.deeper (envOfC qual (bA st) s.heap.objs.size f cdv))->sp vs H Q E ->
   ∃t,PSs (oY bb CX0 P w K mg base N qual (bA st) f cdv A outer s H E).nox (eI st) t/\t { nx:=fun _ H'=>Q .non H',rt:=Q } (start N vs) H):FnOkG bb P w K mg base CX0 (k+1) f fd ps sp:=by
 obtain⟨oc,od,kV,doc,pm,an,cdv,ct,osl,rfl,lk,hcd⟩:=F.ex;refine Bh lk hcd S len fun A outer s H vs Q E hr hsp=>?_;obtain⟨t,h,q⟩:=hbody cdv A outer s H vs Q E hr hsp;exact⟨t,h.nox,q⟩
theorem Fun.binds (F:Fun K x qual st f fd)
  (h:∀(kV doc pm:Value) (an:Option Addr) (cdv ct:Value) (us:List Value),us.length=ps.length->bindArgs (fnOf x qual (fC st) (eI st) (bA st) .none kV doc pm an cdv ct) ⟨us,[]⟩=pure (ps.zip us)):eJ K fd ps []:=by
 obtain⟨oc,od,kV,doc,pm,an,cdv,ct,osl,rfl,lk,hcd⟩:=F.ex;exact .all (h kV doc pm an cdv ct)
theorem ic {kV ct}(l:K.lookup f=some ⟨oc,od,.func (fnOf x qual (fC st) (eI st) (bA st) .none kV doc pm an cdv ct),osl⟩)
  (c:codeIn K cdv qual=true) (k:keepIn K (.ref f)=true):Fun K x qual st f (fnOf x qual (fC st) (eI st) (bA st) .none kV doc pm an cdv ct):=⟨⟨oc,od,kV,doc,pm,an,cdv,ct,osl,rfl,l,c⟩,k⟩
end
theorem dt {k:Nat}(hr:nX k A):A.units+1<cLine:=Nat.lt_of_le_of_lt (Nat.add_le_add_left (by decide:1<=64) _) hr.units
section
theorem pv (i:Nat){pos:Pos}(hN:X.N[i]?=some x:=by rfl)(hv:Vis X.env.scope x:=by first|exact Or.inl rfl|exact Or.inr (Or.inl rfl)|exact Or.inr (Or.inr rfl))(hd:(x==("__debug__" : Str))=false:=by decide)
  (hcd:(x==("__classdict__" : Str))=false:=by decide):PE X (.Name x pos) (vA i):=yW hN hv hd hcd
theorem iT:fX X (.builtin "len") (fun xs H Q=>∃a kvs,xs=[V.ref a]/\H a=some (.dK kvs)/\Q (.int kvs.length) H):=by
 intro pins s σ H xs us Q I r h;obtain⟨a,kvs,rfl,ha,q⟩:=h;obtain⟨u,rfl,ru⟩:=g6 r;cases ru;exact Bk I (.inl ha) fun t s' I'=>⟨.int kvs.length,H,I',⟨t,rfl⟩,q⟩
end
theorem fY {A:Prop}(h:B):if false=true then A else B:=by
 rw[aA ay];exact h
theorem gC {A:Prop}(h:A):if true=true then A else B:=by
 rw[aH rfl];exact h
theorem zD {c A:Prop}[Decidable c](h1:c->A)(h2:¬c->B):if c then A else B:=by
 by_cases h:c
 ·rw[aH h];exact h1 h
 ·rw[aA h];exact h2 h
theorem l_ {c A:Prop}[Decidable c](hc:c)(h:B):if (!decide c)=true then A else B:=by
 rw[av hc];exact fY h
def aQ (H H':Hp):Prop:=∀b o,H b=some o->H' b=some o
theorem aQ.refl (H:Hp):aQ H H:=fun _ _ h=>h
theorem aQ.trans (a:aQ H H1)(b:aQ H1 H2):aQ H H2:=fun c o h=>b c o (a c o h)
theorem aQ.free (e:aQ H H'){l}(h:H' l=Option.none):H l=Option.none:=by
 cases q:H l with
 | none=>rfl
 | some o=>
  rw[e l o q] at h;cases h
section
variable {κ:Type}[DecidableEq κ]
theorem jJ {kvs:List (κ×V)}{k:κ}(h:cf kvs k=some v):k∈kvs.map (·.1):=by
 have q:(kvs.any fun kv=>decide (kv.1=k))=true:=by
  rw[gU,h]
  all_goals rfl
 obtain⟨p,hp,e⟩:=any_eq_true.mp q;exact bC.mpr ⟨p,hp,bB e⟩
theorem nB {p:κ×V}{r:List (κ×V)}{k:κ}(e:p.1=k):gh (p::r) k=gh r k:=by
 unfold gh;rw[filter_cons,aA (by simp[e])]
theorem nE {p:κ×V}{r:List (κ×V)}{k:κ}(e:¬p.1=k):gh (p::r) k=p::gh r k:=by
 unfold gh;rw[filter_cons,aH (by simp[e])]
end
variable {CX:L2.CXT}{X Y:L2.Cx}{o o0:L2.HO}{H H' H1 H2 H₂ h1:L2.Hp}{J:L2.It}{r r':L2.R2}{sp:L2.Sp}{σ:L2.St}{ct:L2.St->L2.Hp->Prop}{t4 ta td te tk tl tv tx ty:L2.TE}{g:L2.TG}{wi:L2.TI}{ti:L2.TIp}{th:L2.TO}{tb:L2.TS}{tA tc tt:L2.TT}{v y:L2.V}{Z:L2.V->L2.Hp->(List (Option L2.V)->Prop)->Prop}{rd:L2.V->L2.V->L2.Hp->L2.VK->Prop}{rr:L2.V->List L2.V->L2.Hp->L2.VK->Prop}{rt:L2.VK}{kvs:List (L2.Key×L2.V)}{dvs vs xs ys zs:List L2.V}
def rE (env:Env):List (Str×NameKind)->List (Str×Addr)->List (Str×Addr)
 | [],cs=>cs
 | (n,k)::r,cs=>rE env r (if (k==NameKind.free)=true then (n,(env.cells.lookup n).getD 0)::cs else cs)
theorem kj {env:Env}:∀(ns:List (Str×NameKind)) (cs:List (Str×Addr)),(∀y∈ns,y.2=.free->∃c,env.cells.lookup y.1=some c) ->
  (forIn (m:=Sem) ns cs fun y cs=>if (y.2==NameKind.free)=true then (do let a <- cellOf env y.1;pure (ForInStep.yield ((y.1,a)::cs))) else pure (ForInStep.yield cs))=pure (rE env ns cs)
 | [],cs,_=>rfl
 | (n,k)::r,cs,h=>by
  rw[List.forIn_cons];have hr:∀y∈r,y.2=.free->∃c,env.cells.lookup y.1=some c:=fun y hy=>h y (br _ hy);by_cases hk:(k==NameKind.free)=true
  ·obtain⟨c,hc⟩:=h (n,k) bY (beq_iff_eq.mp hk);have e1:cellOf env n=pure c:=by unfold cellOf;rw[show env.cells.lookup n=some c from hc]
   simp only[hk,if_true,e1,pure_bind];rw[kj r _ hr];show _=pure (rE env r (if (k==NameKind.free)=true then (n,(env.cells.lookup n).getD 0)::cs else cs));rw[aH hk,show env.cells.lookup n=some c from hc];rfl
  ·simp only[hk,Bool.false_eq_true,if_false,pure_bind];rw[kj r _ hr];show _=pure (rE env r (if (k==NameKind.free)=true then (n,(env.cells.lookup n).getD 0)::cs else cs));rw[aA hk]
theorem kX (h:∀y∈scope.names,y.2=.free->∃c,env.cells.lookup y.1=some c):closureFor scope env=pure (rE env scope.names []):=by
 unfold closureFor;refine Eq.trans ?_ ((kj scope.names [] h).trans rfl)
 first
  | rfl
  | (simp;rfl)
  | simp
theorem nO {env:Env}{x c}:∀(ns:List (Str×NameKind)) (cs:List (Str×Addr)),(∀y∈ns,y.2=.free->∃c,env.cells.lookup y.1=some c) ->
  (∀c,cs.lookup x=some c->env.cells.lookup x=some c)->(rE env ns cs).lookup x=some c->env.cells.lookup x=some c
 | [],cs,_,hc,e=>hc c e
 | (n,k)::r,cs,h,hc,e=>by
  refine nO r _ (fun y hy=>h y (br _ hy)) (fun c' e'=>?_) e;by_cases hk:(k==NameKind.free)=true
  ·rw[aH hk] at e';rw[lookup_cons] at e';cases hx:x==n with
   | true=>
    rw[hx] at e';obtain⟨c2,h2⟩:=h (n,k) bY (beq_iff_eq.mp hk);have h2':=h2;rw[h2'] at e';rw[beq_iff_eq.mp hx,h2'];exact e'
   | false=>
    rw[hx] at e';exact hc c' e'
  ·rw[aA hk] at e';exact hc c' e'
theorem mh {env:Env}{x:Str}:∀(ns:List (Str×NameKind)) (cs:List (Str×Addr)),((x,NameKind.free)∈ns\/(∃c,cs.lookup x=some c))->∃c,(rE env ns cs).lookup x=some c
 | [],cs,h=>by
  rcases h with h|h
  ·cases h
  ·exact h
 | (n,k)::r,cs,h=>by
  refine mh r _ ?_;rcases h with h|⟨c,h⟩
  ·rcases bm.mp h with e|e
   ·cases e;refine .inr ⟨(env.cells.lookup x).getD 0,?_⟩;rw[aH (by rfl),lookup_cons];simp
   ·exact .inl e
  ·right
   by_cases hk:(k==NameKind.free)=true
   ·rw[aH hk,lookup_cons];cases hx:x==n with
    | true=>exact⟨_,rfl⟩
    | false=>exact⟨c,h⟩
   ·rw[aA hk];exact⟨c,h⟩
def blk (X:Cx)(scope:Scope)(Nc:List Str)(C:Addr)(s₂:Shared)(H₂:Hp)(ex:List Addr)(pins:List (Addr×Obj)):Cx:=
  { prog:=X.prog,w:=X.w,K:=X.K,mg:=X.mg,base:=X.base,A:=X.A,N:=Nc,s₀:=s₂,H₀:=H₂,env:=compEnvC scope (rE X.env scope.names []) C X.env,outer:=X.stack,stack:=X.stack,ex:=ex,
    fn:=fun _=>false,calm:=X.calm,pn:=X.pn++pins,xe:=fun _ _=>False }
structure BlkG (X:Cx)(scope:Scope)(xs Nf:List Str)(js:List Nat):Prop where
 kind:scope.kind=.function
 nocell:∀y∈scope.names,y.2≠.cell
 loc:∀y∈scope.names,y.2=.local->scope.names.lookup y.1=some .local
 own:∀x∈xs,scope.names.lookup x=some .local
 nd:(xs++Nf).Nodup
 free:∀y∈scope.names,y.2=.free->X.env.kindOf y.1=some .cell
 slots:Nf.length=js.length
 at_:∀(i:Nat) (z:Str),Nf[i]?=some z->∃j:Nat,js[i]?=some j/\X.N[j]?=some z/\scope.names.lookup z=some .free/\X.env.scope.names.lookup z=some .cell
section
variable {xs:List Str}
theorem BlkG.hasCell (B:BlkG X scope xs Nf js)(ok:X.Ok):∀y∈scope.names,y.2=.free->∃c,X.env.cells.lookup y.1=some c:=fun y hy hf=>ok.has y.1 (.inl (B.free y hy hf))
theorem BlkG.look (B:BlkG X scope xs Nf js)(ok:X.Ok){z c}(e:(rE X.env scope.names []).lookup z=some c):X.env.cells.lookup z=some c:=
 nO scope.names [] (B.hasCell ok) (fun c h=>by simp at h) e
theorem jm {sc:Scope}{env:Env}{z}:∀{ns:List (Str×NameKind)},(∀y∈ns,y.2≠.cell) ->
    ((ns.map fun(n,k)=>if (k==NameKind.free&&env.scope.kind==.function&&env.kindOf n==some .cell) then (n,NameKind.cell) else (n,k)).lookup z=some .cell \/
     (ns.map fun(n,k)=>if (k==NameKind.free&&env.scope.kind==.function&&env.kindOf n==some .cell) then (n,NameKind.cell) else (n,k)).lookup z=some .free)->(z,NameKind.free)∈ns
  | [],_,h=>by simp at h
  | (n,k)::r,hc,h=>by
    have ih:=@jm sc env z r fun y hy=>hc y (br _ hy);rw[bH,lookup_cons] at h;by_cases hk:(k==NameKind.free&&env.scope.kind==.function&&env.kindOf n==some .cell)=true
    · have kf:k=.free:=by
        rw[and_eq_true,and_eq_true] at hk;exact beq_iff_eq.mp hk.1.1
      subst kf;simp only[hk,if_true] at h;cases hz:z==n with
      | true=>rw[beq_iff_eq.mp hz];exact bY
      | false=>rw[hz] at h;exact br _ (ih h)
    · simp only[hk,Bool.false_eq_true,if_false] at h
      cases hz:z==n with
      | true=>
        rw[hz] at h
        have h':k=.cell\/k=.free:=by
          rcases h with h|h
          · exact .inl (aw h)
          · exact .inr (aw h)
        rcases h' with e|e
        · exact aY e (hc (n,k) bY)
        · rw[beq_iff_eq.mp hz,e];exact bY
      | false=>rw[hz] at h;exact br _ (ih h)
theorem mE {z}(hk:env.scope.kind=.function)(hz:env.kindOf z=some .cell):∀{ns:List (Str×NameKind)},(∀y∈ns,y.2=.local->ns.lookup y.1=some .local)->(∀y∈ns,y.2≠.cell)->ns.lookup z=some .free ->
  (ns.map fun(n,k)=>if (k==NameKind.free&&env.scope.kind==.function&&env.kindOf n==some .cell) then (n,NameKind.cell) else (n,k)).lookup z=some .cell
 | [],_,_,h=>by simp at h
 | (n,k)::r,_,_,h=>by
  have ih:∀{ns:List (Str×NameKind)},ns.lookup z=some .free->(ns.map fun(n,k)=>if (k==NameKind.free&&env.scope.kind==.function&&env.kindOf n==some .cell) then (n,NameKind.cell) else (n,k)).lookup z=some .cell:=by
   intro ns
   induction ns with
   | nil=>intro h;simp at h
   | cons p ps ihp=>
    intro h;obtain⟨n',k'⟩:=p;rw[lookup_cons] at h;rw[bH,lookup_cons];cases hx:z==n' with
    | true=>
     rw[hx] at h;have e:=aw h;subst e;rw[<- beq_iff_eq.mp hx];simp[hk,hz]
    | false=>
     rw[hx] at h;by_cases hc:(k'==NameKind.free&&env.scope.kind==.function&&env.kindOf n'==some .cell)=true
     ·simp only[hc,if_true,hx];exact ihp h
     ·simp only[hc,Bool.false_eq_true,if_false,hx];exact ihp h
  exact ih h
theorem BlkG.ok (B:BlkG X scope xs Nf js)(I:Inv X pins σ H s)(hC:s.heap.objs.size<=C)(hf:∀b∈fp,nZ X pins H b)(ho:∀b∈fp,∃o,s.heap.get? b=some o/\∀v,o.data≠.cell v) :
  (blk X scope (xs++Nf) C s H fp pins).Ok where
 mod:=I.ok.mod
 kind:=B.kind
 glob:=I.ok.glob
 blt:=I.ok.blt
 above:=hC
 inj:=fun y z c h1 h2=>I.ok.inj y z c (B.look I.ok h1) (B.look I.ok h2)
 has:=fun z hz=>mh scope.names [] (.inl (jm (sc:=scope) B.nocell hz))
 cab:=fun y c h _=>Bool.noConfusion h
 hd:=fun h=>I.ok.hd h
 frames:=I.ok.frames
 stk:=.inl rfl
 exf:=fun b hb=>by
  obtain⟨o,e,d⟩:=ho b hb;refine⟨aP (ba (aZ e) hC),fun z c h=>(hf b hb).2.2.2.2.1 z c (B.look I.ok h)⟩
 bs:=I.bs
 bsz:=bh I.ok.bsz I.sz
 noex:=fun b o e hb=>by
  rcases(hf b hb).2.2.2.1 with z|z
  ·exact I.ok.noex b o e z
  ·exact aY (ba (aZ e) (bh I.ok.bsz z)) (lt_irrefl _)
 exfs:=fun b hb hs=>by
  rcases bm.mp (I.stkSub b hs) with e|e
  ·exact(hf b hb).2.1 e
  ·exact(hf b hb).2.2.1 e
 funs:=I.stack
 frf:=I.stkFree
def rst (js:List Nat)(σ:St):St:=js.map fun j=>(σ[j]?).getD none
abbrev pd (js:List Nat)(σ:St)(v:Option V):St:=v::rst js σ
abbrev k_ (js:List Nat)(σ:St)(v v':Option V):St:=v::v'::rst js σ
theorem BlkG.inv (B:BlkG X scope xs Nf js)(I:Inv X pins σ H s)(hf:∀b∈fp,nZ X pins H b)(ho:∀b∈fp,∃o,s.heap.get? b=some o/\∀v,o.data≠.cell v)
  {h₁:Heap} {tk:Nat} (new:∀h',(∀b u,(s.heap.push ob).get? b=some u->h'.get? b=some u)->cE X.prog X.w (upd H s.heap.objs.size o0) h' s.heap.objs.size o0) (hn:h₁.Ns (s.heap.objs.size+1) (fun _=>none)) (hs:Heap.SameBut (s.heap.objs.size+1) ((s.heap.push ob).push { cls:=.type "dict",data:=.dict #[] }) h₁) :
  Inv (blk X scope (xs++Nf) (s.heap.objs.size+1) s H fp pins) [] (replicate xs.length none++rst js σ) (upd H s.heap.objs.size o0) { s with heap:=h₁,toks:=tk }:=by
 have old:∀b o,s.heap.get? b=some o->h₁.get? b=some o:=fun b o e=>
  hs.extBut b o (aP (lt_succ_of_lt (aZ e))) (az _ (az _ e))
 have in1:∀b u,(s.heap.push ob).get? b=some u->h₁.get? b=some u:=fun b u e=>hs.extBut b u (aP (by have:=aZ e;rwa[cj] at this)) (az _ e);have fD:H s.heap.objs.size=none:=I.hok.fresh (by lia)
 have cellAt:∀z c,(rE X.env scope.names []).lookup z=some c->c<s.heap.objs.size:=fun z c e=>by
  obtain⟨v,q⟩:=I.cell z c (B.look I.ok e);exact q.lt
 have J:=I.laid (a:=s.heap.objs.size) (o:=o0) (h':=h₁) (t':=tk) old (by lia) (new h₁ in1);refine⟨B.ok I (le_succ _) hf ho,rfl,I.bare,Un.laid old (aE _) fD,⟨_,hn,fun i z v h1 h2 h3=>?_⟩,fun z c e=>?_,?_,fun z c e=>?_,fun p hp=>?_,J.hok,?_⟩
 ·-- a name of the block that has a value: one of the def's
  by_cases hi:i<xs.length
  ·rw[aN (by rw[length_replicate];exact hi),List.getElem?_replicate,aH hi] at h2;cases h2
  ·obtain⟨i,rfl⟩:∃k,i=xs.length+k:=⟨i - xs.length,by lia⟩
   have h1':Nf[i]?=some z:=by
    have:(xs++Nf)[xs.length+i]?=some z:=h1
    rwa[aM (by lia),Nat.add_sub_cancel_left] at this
   have h2':(js.map fun j=>(σ[j]?).getD none)[i]?=some (some v):=by
    rwa[aM (by rw[length_replicate];lia),length_replicate,Nat.add_sub_cancel_left] at h2
   obtain⟨j,e1,e2,e3,e4⟩:=B.at_ i z h1';rw[aB,e1] at h2';have h2'':(σ[j]?).getD none=some v:=aw h2'
   have e5:σ[j]?=some (some v):=by
    cases q:σ[j]? with
    | none=>rw[q] at h2'';cases h2''
    | some y=>rw[q] at h2'';exact bq some h2''
   obtain⟨m,hm,hl⟩:=I.loc;obtain⟨u,r,l⟩:=hl j z v e2 e5 (.inr (.inl e4));refine⟨u,r,.inr ⟨.inl ?_,?_⟩⟩
   ·exact mE I.ok.kind e4 B.loc B.nocell e3
   ·rcases l with⟨k,_⟩|⟨_,c,hc,q⟩
    ·rw[show X.env.kindOf z=X.env.scope.names.lookup z from rfl,e4] at k;cases k
    ·obtain⟨c',hc'⟩:=mh (env:=X.env) (x:=z) scope.names [] (.inl (PySem.mem_of_lookup e3));have e6:=B.look I.ok hc';rw[hc] at e6;cases e6;exact⟨c,hc',q.keeps old⟩
 ·obtain⟨v,q⟩:=I.cell z c (B.look I.ok e);exact⟨v,q.keeps old⟩
 ·show upd H s.heap.objs.size o0 (s.heap.objs.size+1)=none;rw[ak (ne_of_gt (lt_succ_self _))];exact(I.hok.fresh (le_succ _))
 ·rw[ak (aP (cellAt z c e))];exact I.freeC z c (B.look I.ok e)
 ·have hp':p∈X.pn++pins:=by
   have:p∈(X.pn++pins)++[]:=hp
   rwa[b_] at this
  obtain⟨e,n,ne,nf,d⟩:=I.pin p hp';refine⟨old _ _ e,?_,aP (lt_succ_of_lt (aZ e)),fun z=>?_,d⟩
  ·rw[ak (aP (aZ e))];exact n
  ·rcases bm.mp (I.stkSub p.1 z) with q|q
   ·exact ne q
   ·exact nf q
 ·show _=(xs++Nf).length;rw[am,am,length_replicate,B.slots];exact bq _ (af _)
theorem BlkG.back (B:BlkG X scope xs Nf js){pl}{τ:St}(I:Inv X pins σ H s)(hf:∀b∈fp,nZ X pins H b)(hC:s.heap.objs.size<=C)
  (J:Inv (blk X scope (xs++Nf) C s H fp pins) pl τ H' s') (hs:Heap.SameBut C s'.heap h'):Inv X pins σ H' { s' with heap:=h' }:=by
 have nC:H' C=none:=J.free;refine I.call' (s':={ s' with heap:=h' }) (ch:=fp) J.os ⟨fun b o e n hb hx=>?_,fun b o e n hb hx=>?_,J.base.free,fun b o e hx=>?_,J.base.tups,J.base.frzs,J.base.tbls⟩ ?_ J.bare (fun b hb=>?_)
 ·exact hs.extBut b o (aP (ba (aZ e) hC)) (J.base.keep b o e n hb hx)
 ·obtain⟨sl,e1⟩:=J.base.slot b o e n hb hx;exact⟨sl,hs.extBut b _ (aP (ba (aZ e) hC)) e1⟩
 ·obtain⟨o',e1⟩:=J.base.there b o e hx;exact⟨o',hs.extBut b _ (aP (ba (aZ e) hC)) e1⟩
 ·intro a o e;refine(J.hok a o e).stay (fun b u hb q=>hs.extBut b u ?_ q) (fun _ q=>q) fun _ _ q=>q;rcases hb with rfl|hb
  ·exact fun z=>by rw[z,nC] at e;cases e
  ·exact fun z=>by rw[z,nC] at hb;cases hb
 ·obtain⟨_,f1,f2,f3,f4,f5⟩:=hf b hb;exact⟨f3,f1,f4,f5⟩
end
inductive PTs (X:Cx):List Expr->TT->Prop where
 | nil:PTs X [] (fun _ H Q=>Q true H)
 | one {c:Expr} {t:TT} (h:PT X c t):PTs X [c] t
theorem PTs.run {t}(h:PTs X ifs t){Q:Bool->Hp->Prop}(I:Inv X pins σ H s)(q:t σ H Q) :
  wpAny (model X.prog X.w) X.A (forIn ifs true fun c r=>if r=true then do let ok <- isTrue c X.env (eval c X.env);pure (ForInStep.yield ok) else pure (ForInStep.yield r)) (TP X pins σ Q) X.xe s:=by
 cases h with
 | nil=>exact aG ⟨H,I,q⟩
 | @one c t h=>
  rw[List.forIn_cons];refine ac ?_;rw[aH rfl];exact ac (thn (h pins s σ H Q I q) fun b s1 q1=>aG (aG q1))
section
abbrev oa (ifs:List Expr)(env:Env):Sem Bool:=forIn ifs true fun c r=>if r=true then do let ok <- isTrue c env (eval c env);pure (ForInStep.yield ok) else pure (ForInStep.yield r)
def xW (J:Nat->Shared->Prop)(n:Nat)(t:Shared):Prop:=∃m,m<n/\J m t
theorem rh {pos it}{N:Value->Shared->Prop}(eN:N=notedBy (model prog w) A env fun e s'=>R (.error e) s')(J:Nat->Shared->Prop)
  (turn:∀n s,J n s->wpAny (model prog w) A (pyNext it) (fun r s1=>(r=none->R (.ok .next) s1)/\∀v,r=some v->wpAny (model prog w) A (letOwnedTupleGo target it v) (fun _ s0=>wpAny (model prog w) A (assign target env v) (fun _ s2=>wpAny (model prog w) A (oa ifs env)
   (fun ok s3=>(ok=false->xW J n s3)/\(ok=true->wpAny (model prog w) A (eval elt env) (fun x s4=>wpAny (model prog w) A (call (.builtin "list.append") [acc,x]) (fun _ s5=>xW J n s5) N s4) N s3)) N s2) N s0) N s1) N s)
  (n:Nat) (h:J n s):codeAny (model prog w) A (.compLoop (.ListComp elt [⟨target,iter,ifs,0⟩] scope pos) 0 it acc env) R s:=by
 subst eN;refine codeAny_loop rfl J (fun n s hJ=>?_) n h;refine(show wpAny _ A ((compTurn (.ListComp elt [⟨target,iter,ifs,0⟩] scope pos) 0 it acc env).onRaise (fun x=>do noteFrame x env;theTreesLotGoes x)) _ _ s from wpAny_noted ?_);rw[compTurn_list];refine ac (wpAny_standAt (ac (thn (turn n s hJ) fun r s1 zz=>?_)));obtain⟨q0,q1⟩:=zz;cases r with
 | none=>exact aG (q0 rfl)
 | some v=>
  refine ac (thn (q1 v rfl) fun _ s0 q2=>ac (thn q2 fun _ s2 q3=>ac (thn q3 fun ok s3 zz=>?_)));obtain⟨no,yes⟩:=zz;cases ok with
  | false=>exact aG ⟨rfl,no rfl⟩
  | true=>exact ac (ac (thn (yes rfl) fun x s4 q4=>ac (thn q4 fun _ s5 q5=>aG (aG ⟨rfl,q5⟩))))
end
structure Kind (prog:Program)(w:World)(A:Around)(ce:Expr)(dp:Nat)(tg:Expr)(ifs:List Expr)(PUT:Env->Addr->(Shared->Prop)->(Value->Shared->Prop)->Shared->Prop):Prop where
 start:∀{it acc:Value} {env:Env} {R:Result->Shared->Prop} {s:Shared},codeAny (model prog w) A (.compLoop ce dp it acc env) R s->wpAny (model prog w) A (pyIter it) (fun it' s'=>codeAny (model prog w) A (.compLoop ce dp it' acc env) R s') (notedBy (model prog w) A env fun x s'=>R (.error x) s') s->codeAny (model prog w) A (.compStart ce dp it acc env) R s
 turns:∀{it:Value} {D:Addr} {env:Env} {R:Result->Shared->Prop} {s:Shared} {N:Value->Shared->Prop},N=notedBy (model prog w) A env (fun e s'=>R (.error e) s')->∀J:Nat->Shared->Prop,
  (∀n s,J n s->wpAny (model prog w) A (pyNext it) (fun r s1=>(r=none->R (.ok .next) s1)/\∀v,r=some v->wpAny (model prog w) A (letOwnedTupleGo tg it v) (fun _ s0=>wpAny (model prog w) A (assign tg env v) (fun _ s2=>wpAny (model prog w) A (oa ifs env)
   (fun ok s3=>(ok=false->xW J n s3)/\(ok=true->PUT env D (xW J n) N s3)) N s2) N s0) N s1) N s)->∀n,J n s->codeAny (model prog w) A (.compLoop ce dp it (.ref D) env) R s
def ug (prog:Program)(w:World)(A:Around)(newAcc:Sem Value)(ob:Obj):Prop:=∀{Q:Value->Shared->Prop} {E:Value->Shared->Prop} {s:Shared},Q (.ref s.heap.objs.size) { s with heap:=s.heap.push ob }->wpAny (model prog w) A newAcc Q E s
def jh (o0:HO)(Z:V->Hp->(List (Option V)->Prop)->Prop)(js:List Nat)(wi:TI)(tc:TT)(tp:Addr->St->Hp->(Hp->Prop)->Prop):TE:=fun σ H Q=>wi σ H fun J H1=>∀D,H1 D=none->∃W:Nat->Nat->Hp->Prop,(∃m,W 0 m (upd H1 D o0))/\∀i m H2,W i m H2 ->
 (J.stop i H2/\Q (.ref D) H2)\/(J.go i H2/\∀v H3,J.yld i H2 v H3->Z v H3 fun vs=>tc (vs++rst js σ) H3 fun b H4=>
  if b=true then tp D (vs++rst js σ) H4 fun H5=>∃m',m'<m/\W (i+1) m' H5
  else ∃m',m'<m/\W (i+1) m' H4)
def pL (te:TE):Addr->St->Hp->(Hp->Prop)->Prop:=fun D σ H R=>te σ H fun y H5=>∃ys,H5 D=some (.lst ys)/\ys.length<sizeLine/\R (upd H5 D (.lst (ys++[y])))
def pD (tk tv:TE):Addr->St->Hp->(Hp->Prop)->Prop:=fun D σ H R=>tk σ H fun y H4=>tv σ H4 fun v H5=>∃kvs k,H5 D=some (.dK kvs)/\y=kV k/\kvs.length<sizeLine/\R (upd H5 D (.dK (db kvs k v)))
abbrev pF (Z:V->Hp->(List (Option V)->Prop)->Prop)(js:List Nat)(wi:TI)(tc:TT)(te:TE):TE:=jh (.lst []) Z js wi tc (pL te)
abbrev lC (Z:V->Hp->(List (Option V)->Prop)->Prop)(js:List Nat)(wi:TI)(tc:TT)(tk tv:TE):TE:=jh (.dK []) Z js wi tc (pD tk tv)
abbrev uA:=pF fun v _ k=>k [some v]
abbrev rP (K:Frag):=pF fun v H k=>∃t y y',v=.ref t/\SqT K H t [y,y']/\k [some y,some y']
section
variable {xs:List Str}{pos:Pos}
theorem nN {tp:Addr->St->Hp->(Hp->Prop)->Prop}{tn:Nat->Heap->Prop}{E:Value->Shared->Prop}{QQ:Value->Addr->Result->Shared->Prop}{Q:VK}(hg:∀C s₂ H₂ ex pins,PG (blk X scope (xs++Nf) C s₂ H₂ ex pins) tg g)(hZ:∀v H ws k,ws.length=xs.length->Z v H k->∃vs,vs.length=xs.length/\g v (ws++rst js σ) H (fun σ' H'=>σ'=vs++rst js σ/\H'=H)/\k vs)
  (B:BlkG X scope xs Nf js) (hc:X.calm=true)
  (ht:∀C s₂ H₂ ex pins,PTs (blk X scope (xs++Nf) C s₂ H₂ ex pins) ifs tc) (MK:ug X.prog X.w X.A newAcc ob) (KI:Kind X.prog X.w X.A ce 0 tg ifs PUT) (new:∀h',(∀b u,(s₂.heap.push ob).get? b=some u->h'.get? b=some u)->cE X.prog X.w (upd H₂ s₂.heap.objs.size o0) h' s₂.heap.objs.size o0)
  (hp:∀C s₂ H₂ ex pins pl D s ws H R5 R N,ws.length=xs.length->Inv (blk X scope (xs++Nf) C s₂ H₂ ex pins) pl (ws++rst js σ) H s->tp D (ws++rst js σ) H R->(∀s' H' ws',ws'.length=xs.length->Inv (blk X scope (xs++Nf) C s₂ H₂ ex pins) pl (ws'++rst js σ) H' s'->R H'->R5 s')->PUT (blk X scope (xs++Nf) C s₂ H₂ ex pins).env D R5 N s)
  (I:Inv X pins σ H₂ s₂) (T:Turn X.prog X.w X.K tg J fp it tn) (st:tn 0 s₂.heap) (hf:∀b∈fp,nZ X pins H₂ b)
  (hW:∀D,H₂ D=none->∃W:Nat->Nat->Hp->Prop,(∃m,W 0 m (upd H₂ D o0))/\∀i m H2,W i m H2 ->
   (J.stop i H2/\Q (.ref D) H2)\/(J.go i H2/\∀v H3,J.yld i H2 v H3->Z v H3 fun vs=>tc (vs++rst js σ) H3 fun b H4=>
    if b=true then tp D (vs++rst js σ) H4 fun H5=>∃m',m'<m/\W (i+1) m' H5
    else ∃m',m'<m/\W (i+1) m' H4))
  (hQ:∀s' H',(∀h',Heap.SameBut (s₂.heap.objs.size+1) s'.heap h'->Inv X pins σ H' { s' with heap:=h' })->(∃m,s'.heap.Ns (s₂.heap.objs.size+1) m)->H' (s₂.heap.objs.size+1)=none->Q (.ref s₂.heap.objs.size) H'->QQ (.ref s₂.heap.objs.size) (s₂.heap.objs.size+1) (.ok .next) s') :
  wpAny (model X.prog X.w) X.A newAcc (fun acc s₃=>wpAny (model X.prog X.w) X.A (newFunctionEnv scope X.env.globals (rE X.env scope.names []) [] X.env.qual none .none (some X.env)) (fun cenv s₄=>
   codeAny (model X.prog X.w) X.A (.compStart ce 0 (.ref it) acc { cenv with scope:=relabel scope X.env }) (QQ acc cenv.locals) s₄) E s₃) E s₂:=by
 refine MK (wpAny_newFunctionEnv B.nocell (by intro y hy;simp at hy) (fun h₁ hns₁ hsb₁=>?_) B.kind);dsimp only at hns₁ hsb₁ ⊢;have hsz:(s₂.heap.push ob).objs.size=s₂.heap.objs.size+1:=cj _ _;rw[hsz] at hns₁ hsb₁ ⊢;have ho:=T.obj 0 _ st;have hD0:H₂ s₂.heap.objs.size=none:=I.hok.fresh (by lia);obtain⟨W,⟨m0,w0⟩,turn⟩:=hW _ hD0
 have old:∀b o,s₂.heap.get? b=some o->h₁.get? b=some o:=fun b o e=>
  hsb₁.extBut b o (aP (lt_succ_of_lt (aZ e))) (az _ (az _ e))
 have st1:=T.keep _ _ _ st fun b _ o e=>old b o e;have I1:∀tk,Inv (blk X scope (xs++Nf) (s₂.heap.objs.size+1) s₂ H₂ fp pins) [] (replicate xs.length none++rst js σ) (upd H₂ s₂.heap.objs.size o0) { s₂ with heap:=h₁,toks:=tk }:=fun tk=>B.inv I hf ho new hns₁ hsb₁
 have fpD:∀b∈fp,b≠s₂.heap.objs.size:=fun b hb=>by
  obtain⟨o,e,_⟩:=ho b hb;exact aP (aZ e)
 have fp0:∀b∈fp,upd H₂ s₂.heap.objs.size o0 b=none:=fun b hb=>by rw[ak (fpD b hb)];exact(hf b hb).1
 -- what the block's context says of the iterator's objects
 have stat:∀{H':Hp},(∀b∈fp,H' b=none)->∀b∈fp,nZ (blk X scope (xs++Nf) (s₂.heap.objs.size+1) s₂ H₂ fp pins) [] H' b:=fun {H'} hn b hb=>by
  obtain⟨_,f1,f2,f3,f4,f5⟩:=hf b hb;obtain⟨o,e,_⟩:=ho b hb;refine⟨hn b hb,aP (lt_succ_of_lt (aZ e)),fun z=>?_,.inl hb,fun z c h=>f4 z c (B.look I.ok h),fun p hp=>?_⟩
  ·rcases bm.mp (I.stkSub b z) with q|q
   ·exact f1 q
   ·exact f2 q
  ·have hp':=hp;rw[b_] at hp';exact f5 p hp'
 have loop:∀sL:Shared,sL={ s₂ with heap:=h₁,toks:=s₂.toks+([]:List (Str×Value)).length } ->
   codeAny (model X.prog X.w) X.A (.compLoop ce 0 (.ref it) (.ref s₂.heap.objs.size) (compEnvC scope (rE X.env scope.names []) (s₂.heap.objs.size+1) X.env))
    (QQ (.ref s₂.heap.objs.size) (s₂.heap.objs.size+1)) sL:=by
  rintro sL rfl;refine KI.turns rfl (fun n s'=>∃i ws H',ws.length=xs.length/\Inv (blk X scope (xs++Nf) (s₂.heap.objs.size+1) s₂ H₂ fp pins) [] (ws++rst js σ) H' s'/\tn i s'.heap/\(∀b∈fp,H' b=none)/\W i n H') ?_ m0 ⟨0,_,_,length_replicate,I1 _,st1,fp0,w0⟩;rintro n s3 ⟨i,ws,H3,lw,I3,st3,fr3,w3⟩;rcases turn i n H3 w3 with⟨stop,qn⟩|⟨go,step⟩
  ·refine thn (T.done (blk X scope (xs++Nf) (s₂.heap.objs.size+1) s₂ H₂ fp pins) rfl rfl rfl hc i [] s3 _ H3 _ I3 (stat fr3) st3 stop) fun r s4 ⟨hr,I4⟩=>⟨fun _=>?_,fun v e=>by rw[hr] at e;cases e⟩;subst hr;obtain⟨m4,hm4,_⟩:=I4.loc;exact hQ s4 H3 (fun h' hs=>B.back I hf (le_succ _) I4 hs) ⟨m4,hm4⟩ I4.free qn
  ·refine thn (T.item (blk X scope (xs++Nf) (s₂.heap.objs.size+1) s₂ H₂ fp pins) rfl rfl rfl hc i [] s3 _ H3 _ I3 (stat fr3) st3 go) fun r s4 zz=>?_;obtain⟨u,hr,h4⟩:=zz;refine⟨(fun e=>by rw[hr] at e;cases e),fun v e=>?_⟩;rw[hr] at e;cases e;refine bI h4 (fun _ s5 ⟨y5,H5,I5,r5,yl5,st5,fr5⟩=>?_) fun _ _ z=>z;obtain⟨vs,lv,qg,q5⟩:=hZ y5 H5 ws _ lw (step y5 _ yl5)
   refine bI (hg _ _ _ _ _ _ s5 _ H5 y5 u (fun σ' H'=>σ'=vs++rst js σ/\H'=H5) (I5.pinned (stat fr5) (T.obj _ _ st5)) r5 qg) (fun _ s6 ⟨σ6,H6,I6,q6⟩=>?_) fun _ _ z=>False.elim z;obtain⟨e6,e6'⟩:=q6;subst e6 e6';refine bI ((ht _ _ _ _ _).run I6 q5) (fun b s7 ⟨H7,I7,q7⟩=>?_) fun _ _ z=>False.elim z
   have again:∀{s8:Shared} {σ8:St} {H8:Hp},Inv (blk X scope (xs++Nf) (s₂.heap.objs.size+1) s₂ H₂ fp pins) ([]++kH fp s5.heap) σ8 H8 s8->tn (i+1) s8.heap/\∀b∈fp,H8 b=none:=fun {s8 σ8 H8} I8=>by
    refine⟨T.keep _ _ _ st5 fun b hb o e=>(I8.pin (b,o) (aU _ (aU _ (eW hb e)))).1,fun b hb=>?_⟩;obtain⟨o,e,d⟩:=T.obj _ _ st5 b hb;exact(I8.pin (b,o) (aU _ (aU _ (eW hb e)))).2.1
   refine⟨fun eb=>?_,fun eb=>?_⟩
   ·subst eb;simp at q7;obtain⟨m',hm,w7⟩:=q7;exact⟨m',hm,i+1,_,H7,lv,I7.unpinned,(again I7).1,(again I7).2,w7⟩
   ·subst eb;simp at q7;refine hp _ _ _ _ _ _ _ s7 vs H7 _ _ _ lv I7 q7 fun s9 H9 ws9 l9 I9 q9=>?_;obtain⟨m',hm,w8⟩:=q9;obtain⟨b1,b2⟩:=again I9;exact⟨m',hm,i+1,_,_,l9,I9.unpinned,b1,b2,w8⟩
 exact KI.start (loop _ rfl) (T.self _ 0 _ _ _ st1 (loop _ rfl))
theorem ql (h':Heap)(k:∀b u,(s.heap.push { cls:=.type "list",data:=.seq #[] }).get? b=some u->h'.get? b=some u):cE X.prog X.w (upd H s.heap.objs.size (.lst [])) h' s.heap.objs.size (.lst []):=⟨zero_le _,[],0,.nil,k _ _ (aV _ rfl)⟩
theorem sQ:ug X.prog X.w X.A (newList []) { cls:=.type "list",data:=.seq #[] }:=fun q=>wpAny_newObj_type q
theorem mX:Kind X.prog X.w X.A (.ListComp elt [⟨tg,iter,ifs,0⟩] scope pos) 0 tg ifs fun env D R5 N s=>wpAny (model X.prog X.w) X.A (eval elt env) (fun x s4=>wpAny (model X.prog X.w) X.A (call (.builtin "list.append") [.ref D,x]) (fun _ s5=>R5 s5) N s4) N s:=
 ⟨fun a b=>codeAny_compStart_list a b,fun e J t n h=>rh e J t n h⟩
theorem pO (he:∀C s₂ H₂ ex pins,PE (blk X scope (xs++Nf) C s₂ H₂ ex pins) elt te):∀(σ:St) C s₂ H₂ ex pins pl D s ws H (R5:Shared->Prop) (R:Hp->Prop) (N:Value->Shared->Prop),ws.length=xs.length->Inv (blk X scope (xs++Nf) C s₂ H₂ ex pins) pl (ws++rst js σ) H s->pL te D (ws++rst js σ) H R->(∀s' H' ws',ws'.length=xs.length->Inv (blk X scope (xs++Nf) C s₂ H₂ ex pins) pl (ws'++rst js σ) H' s'->R H'->R5 s') ->
  wpAny (model X.prog X.w) X.A (eval elt (blk X scope (xs++Nf) C s₂ H₂ ex pins).env) (fun x s4=>wpAny (model X.prog X.w) X.A (call (.builtin "list.append") [.ref D,x]) (fun _ s5=>R5 s5) N s4) N s:=by
 intro σ C s₂ H₂ ex pins pl D s ws H R5 R N lw I h k;refine bI (he C s₂ H₂ ex pins pl s _ H _ I h) (fun yv s8 ⟨y8,H8,I8,r8,ys,hD8,hl8,w8⟩=>?_) fun _ _ z=>False.elim z
 refine bI (cK (X:=blk X scope (xs++Nf) C s₂ H₂ ex pins) pl s8 _ H8 (.ref D) [y8] (.ref D) [yv] (fun _ H'=>H'=upd H8 D (.lst (ys++[y8]))) I8 rfl (.cons r8 .nil) ⟨_,_,_,rfl,rfl,hD8,hl8,rfl⟩) (fun _ s9 ⟨_,H9,I9,_,q9⟩=>?_) fun _ _ z=>False.elim z;subst q9;exact k s9 _ ws lw I9 w8
section
variable {tp:Addr->St->Hp->(Hp->Prop)->Prop}
theorem lK (B:BlkG X scope xs Nf js)(hc:X.calm=true)(hg:∀C s₂ H₂ ex pins,PG (blk X scope (xs++Nf) C s₂ H₂ ex pins) tg g)(hZ:∀(σ:St) v H ws k,ws.length=xs.length->Z v H k->∃vs,vs.length=xs.length/\g v (ws++rst js σ) H (fun σ' H'=>σ'=vs++rst js σ/\H'=H)/\k vs)(hi:PI X tg iter wi)
  (ht:∀C s₂ H₂ ex pins,PTs (blk X scope (xs++Nf) C s₂ H₂ ex pins) ifs tc) (MK:ug X.prog X.w X.A newAcc ob) (KI:Kind X.prog X.w X.A ce 0 tg ifs PUT) (new:∀(H:Hp) (s:Shared),sysModules<s.heap.objs.size->∀h',(∀b u,(s.heap.push ob).get? b=some u->h'.get? b=some u)->cE X.prog X.w (upd H s.heap.objs.size o0) h' s.heap.objs.size o0)
  (hp:∀(σ:St) C s₂ H₂ ex pins pl D s ws H R5 R N,ws.length=xs.length->Inv (blk X scope (xs++Nf) C s₂ H₂ ex pins) pl (ws++rst js σ) H s->tp D (ws++rst js σ) H R->(∀s' H' ws',ws'.length=xs.length->Inv (blk X scope (xs++Nf) C s₂ H₂ ex pins) pl (ws'++rst js σ) H' s'->R H'->R5 s')->PUT (blk X scope (xs++Nf) C s₂ H₂ ex pins).env D R5 N s)
  (hev:eval ce X.env=comprehension ce scope X.env p newAcc false (eval iter X.env)) (hcl:clausesOf ce=⟨tg,iter,ifs,0⟩::gs)
  (hs:∀v,foldedSetIterable iter X.env v=pure v):PE X ce (jh o0 Z js wi tc tp):=by
 intro pins s σ H Q I h;rw[hev];refine wpAny_comprehension_free (use:=none) hcl hs (kX (B.hasCell I.ok)) B.kind B.loc (thn (hi pins s σ H _ I h) fun v s1 h1=>thn h1 fun itv s2 h2=>?_);obtain⟨it,fp,tn,J,H2,e,I2,T,st2,f2,hW⟩:=h2;subst e
 refine nN (QQ:=fun acc C=>compPost (model X.prog X.w) X.A X.xe none (EP X pins σ Q) acc C) hg (hZ σ) B hc ht MK KI (new _ _ I2.big) (hp σ) I2 T st2 f2 hW fun s' H' hI hn _ hq=>?_;obtain⟨m,hm⟩:=hn;exact⟨m,hm,fun h' hs'=>⟨.ref s2.heap.objs.size,H',hI h' hs',rfl,hq⟩⟩
theorem se {y}(B:BlkG X scope xs Nf js)(hc:X.calm=true)(hg:∀C s₂ H₂ ex pins,PG (blk X scope (xs++Nf) C s₂ H₂ ex pins) tg g)(hZ:∀(σ:St) v H ws k,ws.length=xs.length->Z v H k->∃vs,vs.length=xs.length/\g v (ws++rst js σ) H (fun σ' H'=>σ'=vs++rst js σ/\H'=H)/\k vs)(hi:PI X tg iter wi)
  (ht:∀C s₂ H₂ ex pins,PTs (blk X scope (xs++Nf) C s₂ H₂ ex pins) ifs tc) (MK:ug X.prog X.w X.A newAcc ob) (KI:Kind X.prog X.w X.A ce 0 tg ifs PUT) (new:∀(H:Hp) (s:Shared),sysModules<s.heap.objs.size->∀h',(∀b u,(s.heap.push ob).get? b=some u->h'.get? b=some u)->cE X.prog X.w (upd H s.heap.objs.size o0) h' s.heap.objs.size o0)
  (hp:∀(σ:St) C s₂ H₂ ex pins pl D s ws H R5 R N,ws.length=xs.length->Inv (blk X scope (xs++Nf) C s₂ H₂ ex pins) pl (ws++rst js σ) H s->tp D (ws++rst js σ) H R->(∀s' H' ws',ws'.length=xs.length->Inv (blk X scope (xs++Nf) C s₂ H₂ ex pins) pl (ws'++rst js σ) H' s'->R H'->R5 s')->PUT (blk X scope (xs++Nf) C s₂ H₂ ex pins).env D R5 N s)
  (hev:∀u,evalThenUse ce X.env u=(do let _ <- comprehension ce scope X.env p newAcc false (eval iter X.env) (some u))) (hcl:clausesOf ce=⟨tg,iter,ifs,0⟩::gs)
  (hN:X.N.Nodup) (hy:X.N[i]?=some y) (hl:X.env.scope.names.lookup y=some .local) (hsw:swapsWith ce (some (.Name y py)) spos.line X.env=pure true)
  (hs:∀v,foldedSetIterable iter X.env v=pure v):PS X (.Assign [.Name y py] ce spos) (qO (jh o0 Z js wi tc tp) (eS i)):=by
 intro pins s σ H D I h;rw[(exec_Assign_Name_used _ _ _ _ hsw),hev];refine ac (wpAny_standAt (ac ?_))
 refine ac (bI (wpAny_comprehension_free (use:=some (assign (.Name y py) X.env)) (Q:=fun _ s'=>SP X pins D .next s') hcl hs (kX (B.hasCell I.ok)) B.kind B.loc
  (thn (hi pins s σ H _ I h) fun v s1 h1=>thn h1 fun itv s2 h2=>?_)) (fun _ s' hq=>aG (aG hq)) fun _ _ e=>e)
 obtain⟨it,fp,tn,J,H2,e,I2,T,st2,f2,hW⟩:=h2;subst e;refine nN (Q:=fun x H1=>eS i x σ H1 D.nx) (QQ:=fun acc C=>compPost (model X.prog X.w) X.A X.xe (some (assign (.Name y py) X.env)) (fun _ s'=>SP X pins D .next s') acc C) hg (hZ σ) B hc ht MK KI (new _ _ I2.big) (hp σ) I2 T st2 f2 hW fun s' H' hI hn hC hq=>?_;obtain⟨m,hm⟩:=hn;have nC:=I2.fpOk (b:=s2.heap.objs.size+1) (le_succ _) hC
 refine wpAny_assign_Name (mB (hI s'.heap (Heap.SameBut.refl ..)) hN hy (.inl hl) (v:=.ref s2.heap.objs.size) rfl (fun s4 I4 ⟨b,hb,hbc⟩=>?_) (.inr hl))
 have bne:s2.heap.objs.size+1≠b:=by
  rcases hbc with z|z
  ·rw[z];exact nC.2.1
  ·exact fun q=>nC.2.2.2.2.1 y b z q.symm
 exact⟨m,hm.sameBut hb bne,fun h' hs'=>⟨_,H',I4.turned (t':=s4.toks) (fun c o hc q=>(hs'.2 c hc).trans q) nC.1 nC.2.1 nC.2.2.2.1 nC.2.2.2.2.1 nC.2.2.2.2.2,hq⟩⟩
end
theorem pX (B:BlkG X scope xs Nf js)(hc:X.calm=true)(hg:∀C s₂ H₂ ex pins,PG (blk X scope (xs++Nf) C s₂ H₂ ex pins) tg g)(hZ:∀(σ:St) v H ws k,ws.length=xs.length->Z v H k->∃vs,vs.length=xs.length/\g v (ws++rst js σ) H (fun σ' H'=>σ'=vs++rst js σ/\H'=H)/\k vs)(hi:PI X tg iter wi)
  (ht:∀C s₂ H₂ ex pins,PTs (blk X scope (xs++Nf) C s₂ H₂ ex pins) ifs tc) (he:∀C s₂ H₂ ex pins,PE (blk X scope (xs++Nf) C s₂ H₂ ex pins) elt te) (hs:∀v,foldedSetIterable iter X.env v=pure v:=by intro _;rfl):PE X (.ListComp elt [⟨tg,iter,ifs,0⟩] scope pos) (pF Z js wi tc te):=lK B hc hg hZ hi ht sQ mX (fun _ _ _=>ql) (pO he) rfl rfl hs
theorem r_ {y}(B:BlkG X scope xs Nf js)(hc:X.calm=true)(hg:∀C s₂ H₂ ex pins,PG (blk X scope (xs++Nf) C s₂ H₂ ex pins) tg g)(hZ:∀(σ:St) v H ws k,ws.length=xs.length->Z v H k->∃vs,vs.length=xs.length/\g v (ws++rst js σ) H (fun σ' H'=>σ'=vs++rst js σ/\H'=H)/\k vs)(hi:PI X tg iter wi)
  (ht:∀C s₂ H₂ ex pins,PTs (blk X scope (xs++Nf) C s₂ H₂ ex pins) ifs tc) (he:∀C s₂ H₂ ex pins,PE (blk X scope (xs++Nf) C s₂ H₂ ex pins) elt te) (hN:X.N.Nodup) (hy:X.N[i]?=some y) (hl:X.env.scope.names.lookup y=some .local)
  (hsw:swapsWith (.ListComp elt [⟨tg,iter,ifs,0⟩] scope pos) (some (.Name y py)) spos.line X.env=pure true:=by rfl) (hs:∀v,foldedSetIterable iter X.env v=pure v:=by intro _;rfl):PS X (.Assign [.Name y py] (.ListComp elt [⟨tg,iter,ifs,0⟩] scope pos) spos) (qO (pF Z js wi tc te) (eS i)):=se B hc hg hZ hi ht sQ mX (fun _ _ _=>ql) (pO he) (fun _=>rfl) rfl hN hy hl hsw hs
theorem lU (big:sysModules<s.heap.objs.size)(h':Heap)(k:∀b u,(s.heap.push { cls:=.type "dict",data:=.dict #[] }).get? b=some u->h'.get? b=some u):cE X.prog X.w (upd H s.heap.objs.size (.dK [])) h' s.heap.objs.size (.dK []):=
 ⟨zero_le _,beq_eq_false_iff_ne.mpr (bM (aP big)),[],.nil,(Heap.DictOf.new s.heap).at fun o e=>k _ o e⟩
theorem oX {it D}{N:Value->Shared->Prop}(eN:N=notedBy (model prog w) A env fun e s'=>R (.error e) s')(J:Nat->Shared->Prop)
  (turn:∀n s,J n s->wpAny (model prog w) A (pyNext it) (fun r s1=>(r=none->R (.ok .next) s1)/\∀v,r=some v->wpAny (model prog w) A (letOwnedTupleGo target it v) (fun _ s0=>wpAny (model prog w) A (assign target env v) (fun _ s2=>wpAny (model prog w) A (oa ifs env)
   (fun ok s3=>(ok=false->xW J n s3)/\(ok=true->wpAny (model prog w) A (eval kx env) (fun x s4=>wpAny (model prog w) A (eval vx env) (fun y s5=>wpAny (model prog w) A (dictSet D x y) (fun _ s6=>xW J n s6) N s5) N s4) N s3)) N s2) N s0) N s1) N s)
  (n:Nat) (h:J n s):codeAny (model prog w) A (.compLoop (.DictComp kx vx [⟨target,iter,ifs,0⟩] scope pos) 0 it (.ref D) env) R s:=by
 subst eN;refine codeAny_loop rfl J (fun n s hJ=>?_) n h;refine(show wpAny _ A ((compTurn (.DictComp kx vx [⟨target,iter,ifs,0⟩] scope pos) 0 it (.ref D) env).onRaise (fun x=>do noteFrame x env;theTreesLotGoes x)) _ _ s from wpAny_noted ?_);rw[compTurn_dict];refine ac (wpAny_standAt (ac (thn (turn n s hJ) fun r s1 zz=>?_)));obtain⟨q0,q1⟩:=zz;cases r with
 | none=>exact aG (q0 rfl)
 | some v=>
  refine ac (thn (q1 v rfl) fun _ s0 q2=>ac (thn q2 fun _ s2 q3=>ac (thn q3 fun ok s3 zz=>?_)));obtain⟨no,yes⟩:=zz;cases ok with
  | false=>exact aG ⟨rfl,no rfl⟩
  | true=>exact ac (ac (thn (yes rfl) fun x s4 q4=>ac (bv (thn q4 fun y s5 q5=>ac (wpAny_standAt (bv (thn q5 fun _ s6 q6=>aG ⟨rfl,q6⟩)))))))
theorem oI:ug X.prog X.w X.A newDict { cls:=.type "dict",data:=.dict #[] }:=fun q=>wpAny_newObj_type q
theorem mY:Kind X.prog X.w X.A (.DictComp kx vx [⟨tg,iter,ifs,0⟩] scope pos) 0 tg ifs fun env D R5 N s=>wpAny (model X.prog X.w) X.A (eval kx env) (fun x s4=>wpAny (model X.prog X.w) X.A (eval vx env) (fun y s5=>wpAny (model X.prog X.w) X.A (dictSet D x y) (fun _ s6=>R5 s6) N s5) N s4) N s:=
 ⟨fun a b=>codeAny_compStart_dict a b,fun e J t n h=>oX e J t n h⟩
theorem mG (nx:∀v s,Y.xe v s->False)(hk:PE Y kx tk)(hv:PE Y vx te)(pl:List (Addr×Obj))(D:Addr)(s:Shared)(σ:St)(H:Hp)(R5:Shared->Prop)(R:Hp->Prop)(N:Value->Shared->Prop)(I:Inv Y pl σ H s)(h:pD tk te D σ H R)(k:∀s' H',Inv Y pl σ H' s'->R H'->R5 s') :
  wpAny (model Y.prog Y.w) Y.A (eval kx Y.env) (fun x s4=>wpAny (model Y.prog Y.w) Y.A (eval vx Y.env) (fun y s5=>wpAny (model Y.prog Y.w) Y.A (dictSet D x y) (fun _ s6=>R5 s6) N s5) N s4) N s:=by
 refine bI (hk pl s σ H _ I h) (fun kv s4 ⟨y4,H4,I4,r4,q4⟩=>?_) fun _ _ z=>(nx _ _ z).elim;refine bI (hv pl s4 σ H4 _ I4 q4) (fun vv s5 ⟨v5,H5,I5,r5,kvs,kk,e,ey,l,w5⟩=>?_) fun _ _ z=>(nx _ _ z).elim;subst ey;obtain⟨z,hd,vs,rel,dd⟩:=rf I5.hok e;have hz:vs.length<=sizeLine:=by rw[<- rel.length];exact z
 have hl:(db kvs kk v5).length<=sizeLine:=by have:=cZ kvs kk v5;lia
 refine wpAny_dictSet_pairs (hsz:=hz) (m_ r4) dd fun h' dd' hs=>k _ _ ?_ w5;have he:∃q,h'.get? D=some q:=let⟨q,_,_,hq,_⟩:=dd';⟨q,hq⟩;exact kg I5 (by rw[e];exact True.intro) hs he (qF hl hd (rel.put kk r5) dd')
theorem pP (hk:∀C s₂ H₂ ex pins,PE (blk X scope (xs++Nf) C s₂ H₂ ex pins) kx tk)(hv:∀C s₂ H₂ ex pins,PE (blk X scope (xs++Nf) C s₂ H₂ ex pins) vx te):∀(σ:St) C s₂ H₂ ex pins pl D s ws H (R5:Shared->Prop) (R:Hp->Prop) (N:Value->Shared->Prop),ws.length=xs.length->Inv (blk X scope (xs++Nf) C s₂ H₂ ex pins) pl (ws++rst js σ) H s->pD tk te D (ws++rst js σ) H R->(∀s' H' ws',ws'.length=xs.length->Inv (blk X scope (xs++Nf) C s₂ H₂ ex pins) pl (ws'++rst js σ) H' s'->R H'->R5 s') ->
  wpAny (model X.prog X.w) X.A (eval kx (blk X scope (xs++Nf) C s₂ H₂ ex pins).env) (fun x s4=>wpAny (model X.prog X.w) X.A (eval vx (blk X scope (xs++Nf) C s₂ H₂ ex pins).env) (fun y s5=>wpAny (model X.prog X.w) X.A (dictSet D x y) (fun _ s6=>R5 s6) N s5) N s4) N s:=fun σ C s₂ H₂ ex pins pl D s ws H R5 R N lw I h k=>
 mG (fun _ _ z=>z) (hk C s₂ H₂ ex pins) (hv C s₂ H₂ ex pins) pl D s _ H R5 R N I h fun s' H' I' q=>k s' H' ws lw I' q
theorem mJ (B:BlkG X scope xs Nf js)(hc:X.calm=true)(hg:∀C s₂ H₂ ex pins,PG (blk X scope (xs++Nf) C s₂ H₂ ex pins) tg g)(hZ:∀(σ:St) v H ws k,ws.length=xs.length->Z v H k->∃vs,vs.length=xs.length/\g v (ws++rst js σ) H (fun σ' H'=>σ'=vs++rst js σ/\H'=H)/\k vs)(hi:PI X tg iter wi)
  (ht:∀C s₂ H₂ ex pins,PTs (blk X scope (xs++Nf) C s₂ H₂ ex pins) ifs tc) (hk:∀C s₂ H₂ ex pins,PE (blk X scope (xs++Nf) C s₂ H₂ ex pins) kx tk) (hv:∀C s₂ H₂ ex pins,PE (blk X scope (xs++Nf) C s₂ H₂ ex pins) vx te) (hs:∀v,foldedSetIterable iter X.env v=pure v:=by intro _;rfl):PE X (.DictComp kx vx [⟨tg,iter,ifs,0⟩] scope pos) (lC Z js wi tc tk te):=lK B hc hg hZ hi ht oI mY (fun _ _ z=>lU z) (pP hk hv) rfl rfl hs
theorem pR {y}(B:BlkG X scope xs Nf js)(hc:X.calm=true)(hg:∀C s₂ H₂ ex pins,PG (blk X scope (xs++Nf) C s₂ H₂ ex pins) tg g)(hZ:∀(σ:St) v H ws k,ws.length=xs.length->Z v H k->∃vs,vs.length=xs.length/\g v (ws++rst js σ) H (fun σ' H'=>σ'=vs++rst js σ/\H'=H)/\k vs)(hi:PI X tg iter wi)
  (ht:∀C s₂ H₂ ex pins,PTs (blk X scope (xs++Nf) C s₂ H₂ ex pins) ifs tc) (hk:∀C s₂ H₂ ex pins,PE (blk X scope (xs++Nf) C s₂ H₂ ex pins) kx tk) (hv:∀C s₂ H₂ ex pins,PE (blk X scope (xs++Nf) C s₂ H₂ ex pins) vx te) (hN:X.N.Nodup) (hy:X.N[i]?=some y) (hl:X.env.scope.names.lookup y=some .local)
  (hsw:swapsWith (.DictComp kx vx [⟨tg,iter,ifs,0⟩] scope pos) (some (.Name y py)) spos.line X.env=pure true:=by rfl) (hs:∀v,foldedSetIterable iter X.env v=pure v:=by intro _;rfl):PS X (.Assign [.Name y py] (.DictComp kx vx [⟨tg,iter,ifs,0⟩] scope pos) spos) (qO (lC Z js wi tc tk te) (eS i)):=se B hc hg hZ hi ht oI mY (fun _ _ z=>lU z) (pP hk hv) (fun _=>rfl) rfl hN hy hl hsw hs
theorem ut (σ:St)(v:V)(H:Hp)(ws:St)(k:St->Prop)(l:ws.length=1)(h:k [some v]):∃vs:St,vs.length=1/\eS 0 v (ws++rst js σ) H (fun σ' H'=>σ'=vs++rst js σ/\H'=H)/\k vs:=by
 cases ws with
 | nil=>cases l
 | cons a ws=>
  cases ws with
  | nil=>exact⟨_,rfl,⟨rfl,rfl⟩,h⟩
  | cons b ws=>cases l
theorem ur (σ:St)(v:V)(H:Hp)(ws:St)(k:St->Prop)(l:ws.length=2)(h:∃t y y',v=.ref t/\SqT K H t [y,y']/\k [some y,some y']):∃vs:St,vs.length=2/\zU K 2 (re (eS 0) (re (eS 1) Am)) v (ws++rst js σ) H (fun σ' H'=>σ'=vs++rst js σ/\H'=H)/\k vs:=by
 obtain⟨t,_,_,e,q,h⟩:=h;cases ws with
 | nil=>cases l
 | cons a ws=>
  cases ws with
  | nil=>cases l
  | cons b ws=>
   cases ws with
   | nil=>exact⟨_,rfl,⟨t,_,e,q,rfl,_,_,rfl,_,_,rfl,rfl,rfl,rfl⟩,h⟩
   | cons c ws=>cases l
theorem vh (B:BlkG X scope [x] Nf js):∀C s₂ H₂ ex pins,PG (blk X scope ([x]++Nf) C s₂ H₂ ex pins) (.Name x px) (eS 0):=fun _ _ _ _ _=>let h:=lookup_relabel_local (B.own x (.head _));gG B.nd rfl (.inl h) (.inr h)
theorem vg (B:BlkG X scope [x,x'] Nf js)(hc:X.calm=true):∀C s₂ H₂ ex pins,PG (blk X scope ([x,x']++Nf) C s₂ H₂ ex pins) (.Tuple [.Name x px,.Name x' px'] ktg ptg) (zU X.K 2 (re (eS 0) (re (eS 1) Am))):=fun _ _ _ _ _=>
 let h:=lookup_relabel_local (B.own x (.head _));let h':=lookup_relabel_local (B.own x' (.tail _ (.head _)));gc hc (bn (gG B.nd rfl (.inl h) (.inr h)) (bn (gG B.nd rfl (.inl h') (.inr h')) dS))
theorem i5 (B:BlkG X scope [x] Nf js)(hc:X.calm=true)(hi:PI X (.Name x px) iter wi)
  (ht:∀C s₂ H₂ ex pins,PTs (blk X scope (x::Nf) C s₂ H₂ ex pins) ifs tc) (he:∀C s₂ H₂ ex pins,PE (blk X scope (x::Nf) C s₂ H₂ ex pins) elt te)
  (hs:∀v,foldedSetIterable iter X.env v=pure v:=by intro _;rfl):PE X (.ListComp elt [⟨.Name x px,iter,ifs,0⟩] scope pos) (uA js wi tc te):=pX B hc (vh B) ut hi ht he hs
theorem pY (B:BlkG X scope [x,x'] Nf js)(hc:X.calm=true)(hi:PI X (.Tuple [.Name x px,.Name x' px'] ktg ptg) iter wi)
  (ht:∀C s₂ H₂ ex pins,PTs (blk X scope (x::x'::Nf) C s₂ H₂ ex pins) ifs tc) (he:∀C s₂ H₂ ex pins,PE (blk X scope (x::x'::Nf) C s₂ H₂ ex pins) elt te)
  (hs:∀v,foldedSetIterable iter X.env v=pure v:=by intro _;rfl):PE X (.ListComp elt [⟨.Tuple [.Name x px,.Name x' px'] ktg ptg,iter,ifs,0⟩] scope pos) (rP X.K js wi tc te):=pX B hc (vg B hc) ur hi ht he hs
theorem eT {y}(B:BlkG X scope [x] Nf js)(hc:X.calm=true)(hi:PI X (.Name x px) iter wi)
  (ht:∀C s₂ H₂ ex pins,PTs (blk X scope (x::Nf) C s₂ H₂ ex pins) ifs tc) (he:∀C s₂ H₂ ex pins,PE (blk X scope (x::Nf) C s₂ H₂ ex pins) elt te)
  (hN:X.N.Nodup) (hy:X.N[i]?=some y) (hl:X.env.scope.names.lookup y=some .local)
  (hsw:swapsWith (.ListComp elt [⟨.Name x px,iter,ifs,0⟩] scope pos) (some (.Name y py)) spos.line X.env=pure true:=by rfl)
  (hs:∀v,foldedSetIterable iter X.env v=pure v:=by intro _;rfl):PS X (.Assign [.Name y py] (.ListComp elt [⟨.Name x px,iter,ifs,0⟩] scope pos) spos) (qO (uA js wi tc te) (eS i)):=r_ B hc (vh B) ut hi ht he hN hy hl hsw hs
theorem jn {y}(B:BlkG X scope [x,x'] Nf js)(hc:X.calm=true)(hi:PI X (.Tuple [.Name x px,.Name x' px'] ktg ptg) iter wi)
  (ht:∀C s₂ H₂ ex pins,PTs (blk X scope (x::x'::Nf) C s₂ H₂ ex pins) ifs tc) (he:∀C s₂ H₂ ex pins,PE (blk X scope (x::x'::Nf) C s₂ H₂ ex pins) elt te)
  (hN:X.N.Nodup) (hy:X.N[i]?=some y) (hl:X.env.scope.names.lookup y=some .local)
  (hsw:swapsWith (.ListComp elt [⟨.Tuple [.Name x px,.Name x' px'] ktg ptg,iter,ifs,0⟩] scope pos) (some (.Name y py)) spos.line X.env=pure true:=by rfl)
  (hs:∀v,foldedSetIterable iter X.env v=pure v:=by intro _;rfl):PS X (.Assign [.Name y py] (.ListComp elt [⟨.Tuple [.Name x px,.Name x' px'] ktg ptg,iter,ifs,0⟩] scope pos) spos) (qO (rP X.K js wi tc te) (eS i)):=r_ B hc (vg B hc) ur hi ht he hN hy hl hsw hs
end
def A5 (wi:TI)(g:TG)(tc:TT)(tp:Addr->St->Hp->(Hp->Prop)->Prop)(D:Addr)(σ:St)(H:Hp)(QN:St->Hp->Prop):Prop:=wi σ H fun J H1=>∃W:Nat->Nat->St->Hp->Prop,(∃m,W 0 m σ H1)/\∀i m σ H2,W i m σ H2 ->
 (J.stop i H2/\QN σ H2)\/(J.go i H2/\∀v H3,J.yld i H2 v H3->g v σ H3 fun σ2 H4=>tc σ2 H4 fun b H5=>
  if b=true then tp D σ2 H5 fun H6=>∃m',m'<m/\W (i+1) m' σ2 H6 else ∃m',m'<m/\W (i+1) m' σ2 H5)
section
variable {tp:Addr->St->Hp->(Hp->Prop)->Prop}
theorem sO (KI:Kind Y.prog Y.w Y.A ce 1 tg ifs PUT)(hc:Y.calm=true)(nx:∀v s,Y.xe v s->False)(hi:PI Y tg iter wi)(hg:PG Y tg g)(ht:PTs Y ifs tc)
  (hp:∀pl D s σ H (R5:Shared->Prop) (R:Hp->Prop) (N:Value->Shared->Prop),Inv Y pl σ H s->tp D σ H R->(∀s' H',Inv Y pl σ H' s'->R H'->R5 s')->PUT Y.env D R5 N s)
  {pl D} {QN:St->Hp->Prop} {R5:Shared->Prop} {N:Value->Shared->Prop} (I:Inv Y pl σ H s) (h:A5 wi g tc tp D σ H QN) (k:∀s' σ' H',Inv Y pl σ' H' s'->QN σ' H'->R5 s') :
  wpAny (model Y.prog Y.w) Y.A (eval iter Y.env) (fun x s1=>wpAny (model Y.prog Y.w) Y.A (pyIter x) (fun it s2=>codeAny (model Y.prog Y.w) Y.A (.compStart ce 1 it (.ref D) Y.env) (fun r s3=>r=.ok .next/\R5 s3) s2) N s1) N s:=by
 refine bI (hi pl s σ H _ I h) (fun v s1 h1=>bI h1 (fun itv s2 h2=>?_) fun _ _ z=>(nx _ _ z).elim) fun _ _ z=>(nx _ _ z).elim;obtain⟨it,fp,tn,J,H2,e,I2,T,st2,f2,W,⟨m0,w0⟩,turn⟩:=h2;subst e;have stat:∀{H':Hp},(∀b∈fp,H' b=none)->∀b∈fp,nZ Y pl H' b:=fun hn b hb=>⟨hn b hb,(f2 b hb).2⟩
 have loop:codeAny (model Y.prog Y.w) Y.A (.compLoop ce 1 (.ref it) (.ref D) Y.env) (fun r s3=>r=.ok .next/\R5 s3) s2:=by
  refine KI.turns rfl (fun n s'=>∃i σ' H',Inv Y pl σ' H' s'/\tn i s'.heap/\(∀b∈fp,H' b=none)/\W i n σ' H') ?_ m0 ⟨0,σ,H2,I2,st2,fun b hb=>(f2 b hb).1,w0⟩;rintro n s3 ⟨i,σ3,H3,I3,st3,fr3,w3⟩;rcases turn i n σ3 H3 w3 with⟨stop,qn⟩|⟨go,step⟩
  ·refine bI (T.done Y rfl rfl rfl hc i pl s3 σ3 H3 Y.xe I3 (stat fr3) st3 stop) (fun r s4 ⟨hr,I4⟩=>⟨fun _=>⟨rfl,k s4 σ3 H3 I4 qn⟩,fun v e=>by rw[hr] at e;cases e⟩) fun _ _ z=>(nx _ _ z).elim
  ·refine bI (T.item Y rfl rfl rfl hc i pl s3 σ3 H3 Y.xe I3 (stat fr3) st3 go) (fun r s4 ⟨u,hr,h4⟩=>⟨(fun e=>by rw[hr] at e;cases e),fun v e=>?_⟩) fun _ _ z=>(nx _ _ z).elim;rw[hr] at e;cases e;refine bI h4 (fun _ s5 ⟨y5,H5,I5,r5,yl5,st5,fr5⟩=>?_) fun _ _ z=>(nx _ _ z).elim
   refine bI (hg _ s5 σ3 H5 y5 u _ (I5.pinned (stat fr5) (T.obj _ _ st5)) r5 (step y5 H5 yl5)) (fun _ s6 ⟨σ6,H6,I6,q6⟩=>?_) fun _ _ z=>(nx _ _ z).elim
   have again:∀{s8:Shared} {σ8:St} {H8:Hp},Inv Y (pl++kH fp s5.heap) σ8 H8 s8->tn (i+1) s8.heap/\∀b∈fp,H8 b=none:=fun {s8 σ8 H8} I8=>by
    refine⟨T.keep _ _ _ st5 fun b hb o e=>(I8.pin (b,o) (aU _ (aU _ (eW hb e)))).1,fun b hb=>?_⟩;obtain⟨o,e,d⟩:=T.obj _ _ st5 b hb;exact(I8.pin (b,o) (aU _ (aU _ (eW hb e)))).2.1
   refine bI (ht.run I6 q6) (fun b s7 ⟨H7,I7,q7⟩=>⟨fun eb=>?_,fun eb=>?_⟩) fun _ _ z=>(nx _ _ z).elim
   ·subst eb;simp at q7;obtain⟨m',hm,w7⟩:=q7;exact⟨m',hm,i+1,_,H7,I7.unpinned,(again I7).1,(again I7).2,w7⟩
   ·subst eb;simp at q7;refine hp _ _ s7 _ H7 _ _ _ I7 q7 fun s9 H9 I9 q9=>?_;obtain⟨m',hm,w8⟩:=q9;exact⟨m',hm,i+1,_,H9,I9.unpinned,(again I9).1,(again I9).2,w8⟩
 exact KI.start loop (T.self _ 0 _ _ _ st2 loop)
end
section
variable {tg2:Expr}{pos:Pos}
abbrev ceD (kx vx tg iter tg2 iter2:Expr)(ifs ifs2:List Expr)(scope:Scope)(pos:Pos):Expr:=.DictComp kx vx [⟨tg,iter,ifs,0⟩,⟨tg2,iter2,ifs2,0⟩] scope pos
theorem uC {it}(h0:codeAny (model prog w) A (.compLoop (ceD kx vx tg iter tg2 iter2 ifs ifs2 scope pos) 1 it acc env) R s)
  (h:wpAny (model prog w) A (pyIter it) (fun it' s'=>codeAny (model prog w) A (.compLoop (ceD kx vx tg iter tg2 iter2 ifs ifs2 scope pos) 1 it' acc env) R s') (notedBy (model prog w) A env fun x s'=>R (.error x) s') s) :
  codeAny (model prog w) A (.compStart (ceD kx vx tg iter tg2 iter2 ifs ifs2 scope pos) 1 it acc env) R s:=by
 have e:compStart (ceD kx vx tg iter tg2 iter2 ifs ifs2 scope pos) 1 it acc env=(do
   if (<- ask).params.followText "comprehension-iter-twice" then again (.compLoop (ceD kx vx tg iter tg2 iter2 ifs ifs2 scope pos) 1 it acc env)
   else
    rule "comprehension.iter-twice"
    standAt iter2.pos
    again (.compLoop (ceD kx vx tg iter tg2 iter2 ifs ifs2 scope pos) 1 (<- pyIter it) acc env)):=rfl
 refine codeAny_of_tree (show wpAny _ A ((compStart (ceD kx vx tg iter tg2 iter2 ifs ifs2 scope pos) 1 it acc env).onRaise fun x=>do noteFrame x env;standAt theWindowsPlace) _ _ s from wpAny_notedAt ?_);rw[e];refine ac (wpAny_askSetting ?_);split
 ·exact aG ⟨rfl,h0⟩
 ·exact ac (wpAny_rule (ac (wpAny_standAt (ac (thn h fun _ _ h'=>aG ⟨rfl,h'⟩)))))
theorem xj:Kind prog w A (ceD kx vx tg iter tg2 iter2 ifs ifs2 scope pos) 1 tg2 ifs2 fun env D R5 N s=>wpAny (model prog w) A (eval kx env) (fun x s4=>wpAny (model prog w) A (eval vx env) (fun y s5=>wpAny (model prog w) A (dictSet D x y) (fun _ s6=>R5 s6) N s5) N s4) N s where
 start:=fun a b=>uC a b
 turns:=by
  intro it D env R s N eN J turn n h;subst eN;refine codeAny_loop rfl J (fun n s hJ=>?_) n h;refine(show wpAny _ A ((compTurn (ceD kx vx tg iter tg2 iter2 ifs ifs2 scope pos) 1 it (.ref D) env).onRaise (fun x=>do noteFrame x env;theTreesLotGoes x)) _ _ s from wpAny_noted ?_);refine show wpAny _ _ (standAt iter2.pos >>= _) _ _ s from ?_
  refine ac (wpAny_standAt (ac (thn (turn n s hJ) fun r s1 zz=>?_)));obtain⟨q0,q1⟩:=zz;cases r with
  | none=>exact aG (q0 rfl)
  | some v=>
   refine ac (thn (q1 v rfl) fun _ s0 q2=>ac (thn q2 fun _ s2 q3=>ac (thn q3 fun ok s3 zz=>?_)));obtain⟨no,yes⟩:=zz;cases ok with
   | false=>exact aG ⟨rfl,no rfl⟩
   | true=>exact ac (ac (thn (yes rfl) fun x s4 q4=>ac (bv (thn q4 fun y s5 q5=>ac (wpAny_standAt (bv (thn q5 fun _ s6 q6=>aG ⟨rfl,q6⟩)))))))
theorem xk (hs:∀env v,foldedSetIterable iter2 env v=pure v):Kind prog w A (ceD kx vx tg iter tg2 iter2 ifs ifs2 scope pos) 0 tg ifs fun env D R5 N s=>wpAny (model prog w) A (eval iter2 env) (fun x s1=>wpAny (model prog w) A (pyIter x) (fun it s2=>codeAny (model prog w) A (.compStart (ceD kx vx tg iter tg2 iter2 ifs ifs2 scope pos) 1 it (.ref D) env) (fun r s3=>r=.ok .next/\R5 s3) s2) N s1) N s where
 start:=fun a b=>codeAny_compStart_dict a b
 turns:=by
  intro it D env R s N eN J turn n h;subst eN;refine codeAny_loop rfl J (fun n s hJ=>?_) n h;refine(show wpAny _ A ((compTurn (ceD kx vx tg iter tg2 iter2 ifs ifs2 scope pos) 0 it (.ref D) env).onRaise (fun x=>do noteFrame x env;theTreesLotGoes x)) _ _ s from wpAny_noted ?_);refine show wpAny _ _ (standAt iter.pos >>= _) _ _ s from ?_
  refine ac (wpAny_standAt (ac (thn (turn n s hJ) fun r s1 zz=>?_)));obtain⟨q0,q1⟩:=zz;cases r with
  | none=>exact aG (q0 rfl)
  | some v=>
   refine ac (thn (q1 v rfl) fun _ s0 q2=>ac (thn q2 fun _ s2 q3=>ac (thn q3 fun ok s3 zz=>?_)));obtain⟨no,yes⟩:=zz;cases ok with
   | false=>exact aG ⟨rfl,no rfl⟩
   | true=>
    refine ac (thn (yes rfl) fun x s4 q4=>ac (wpAny_standAt (ac (wpAny_of_eq (hs env x) (ac (bv (thn q4 fun it2 s5 q5=>ac (wpAny_runOwn ?_))))))));refine codeAny_mono q5 fun r s6 zz=>?_;obtain⟨er,q6⟩:=zz;subst er;exact aG ⟨rfl,q6⟩
end
def pN (wi:TI)(tc:TT)(tp:Addr->St->Hp->(Hp->Prop)->Prop):Addr->St->Hp->(Hp->Prop)->Prop:=fun D σ H R=>A5 wi (eS 1) tc tp D σ H fun σ' H'=>(∃o,σ'=σ.set 1 o)/\R H'
abbrev Cc (js:List Nat)(wi:TI)(tc:TT)(wi2:TI)(tc2:TT)(tk tv:TE):TE:=jh (.dK []) (fun v _ k=>∀o,k [some v,o]) js wi tc (pN wi2 tc2 (pD tk tv))
theorem sx {y wi2 tc2}{pos:Pos}(B:BlkG X scope [x,y] Nf js)(hc:X.calm=true)(hi:PI X (.Name x px) iter wi)
  (ht:∀C s₂ H₂ ex pins,PTs (blk X scope (x::y::Nf) C s₂ H₂ ex pins) ifs tc) (hi2:∀C s₂ H₂ ex pins,PI (blk X scope (x::y::Nf) C s₂ H₂ ex pins) (.Name y py) iter2 wi2) (ht2:∀C s₂ H₂ ex pins,PTs (blk X scope (x::y::Nf) C s₂ H₂ ex pins) ifs2 tc2)
  (hk:∀C s₂ H₂ ex pins,PE (blk X scope (x::y::Nf) C s₂ H₂ ex pins) kx tk) (hv:∀C s₂ H₂ ex pins,PE (blk X scope (x::y::Nf) C s₂ H₂ ex pins) vx tv)
  (hs:∀v,foldedSetIterable iter X.env v=pure v:=by intro _;rfl) (hs2:∀env v,foldedSetIterable iter2 env v=pure v:=by intro _ _;rfl):PE X (ceD kx vx (.Name x px) iter (.Name y py) iter2 ifs ifs2 scope pos) (Cc js wi tc wi2 tc2 tk tv):=by
 have n0:=lookup_relabel_local (env:=X.env) (B.own x (.head _));have n1:=lookup_relabel_local (env:=X.env) (B.own y (.tail _ (.head _)));refine lK (xs:=[x,y]) (g:=eS 0) B hc (fun _ _ _ _ _=>gG B.nd rfl (.inl n0) (.inr n0)) ?_ hi ht oI (xk hs2) (fun _ _ z=>lU z) ?_ rfl rfl hs
 ·intro σ v H ws k l h
  match ws,l with
  | [_,o],_=>exact⟨[some v,o],rfl,⟨rfl,rfl⟩,h o⟩
 ·intro σ C s₂ H₂ ex pins pl D s ws H R5 R N lw I h k;refine sO (Y:=blk X scope ([x,y]++Nf) C s₂ H₂ ex pins) xj hc (fun _ _ z=>z) (hi2 C s₂ H₂ ex pins) (gG B.nd rfl (.inl n1) (.inr n1)) (ht2 C s₂ H₂ ex pins) (mG (fun _ _ z=>z) (hk C s₂ H₂ ex pins) (hv C s₂ H₂ ex pins)) I h fun s' σ' H' I' q=>?_;obtain⟨⟨o,e⟩,q⟩:=q;subst e
  rw[List.set_append_left _ _ (by rw[lw];exact lt_succ_self 1)] at I';exact k s' H' (ws.set 1 o) (by rw[length_set];exact lw) I' q
section
variable {pos:Pos}
abbrev Ae (js:List Nat)(wi:TI)(tc:TT)(tk te:TE):TE:=lC (fun v _ k=>k [some v]) js wi tc tk te
theorem vK (B:BlkG X scope [x] Nf js)(hc:X.calm=true)(hi:PI X (.Name x px) iter wi)(ht:∀C s₂ H₂ ex pins,PTs (blk X scope (x::Nf) C s₂ H₂ ex pins) ifs tc)(hk:∀C s₂ H₂ ex pins,PE (blk X scope (x::Nf) C s₂ H₂ ex pins) kx tk)(hv:∀C s₂ H₂ ex pins,PE (blk X scope (x::Nf) C s₂ H₂ ex pins) vx te)(hs:∀v,foldedSetIterable iter X.env v=pure v:=by intro _;rfl):PE X (.DictComp kx vx [⟨(.Name x px),iter,ifs,0⟩] scope pos) (Ae js wi tc tk te):=mJ B hc (vh B) ut hi ht hk hv hs
theorem yS {y}(B:BlkG X scope [x] Nf js)(hc:X.calm=true)(hi:PI X (.Name x px) iter wi)(ht:∀C s₂ H₂ ex pins,PTs (blk X scope (x::Nf) C s₂ H₂ ex pins) ifs tc)(hk:∀C s₂ H₂ ex pins,PE (blk X scope (x::Nf) C s₂ H₂ ex pins) kx tk)(hv:∀C s₂ H₂ ex pins,PE (blk X scope (x::Nf) C s₂ H₂ ex pins) vx te)
  (hN:X.N.Nodup) (hy:X.N[i]?=some y) (hl:X.env.scope.names.lookup y=some .local) (hsw:swapsWith (.DictComp kx vx [⟨(.Name x px),iter,ifs,0⟩] scope pos) (some (.Name y py)) spos.line X.env=pure true:=by rfl)
  (hs:∀v,foldedSetIterable iter X.env v=pure v:=by intro _;rfl):PS X (.Assign [.Name y py] (.DictComp kx vx [⟨(.Name x px),iter,ifs,0⟩] scope pos) spos) (qO (Ae js wi tc tk te) (eS i)):=pR B hc (vh B) ut hi ht hk hv hN hy hl hsw hs
abbrev Bx (K:Frag)(js:List Nat)(wi:TI)(tc:TT)(tk te:TE):TE:=lC (fun v H k=>∃t y y',v=.ref t/\SqT K H t [y,y']/\k [some y,some y']) js wi tc tk te
theorem yY (B:BlkG X scope [x,x'] Nf js)(hc:X.calm=true)(hi:PI X (.Tuple [.Name x px,.Name x' px'] ktg ptg) iter wi)(ht:∀C s₂ H₂ ex pins,PTs (blk X scope (x::x'::Nf) C s₂ H₂ ex pins) ifs tc)(hk:∀C s₂ H₂ ex pins,PE (blk X scope (x::x'::Nf) C s₂ H₂ ex pins) kx tk)(hv:∀C s₂ H₂ ex pins,PE (blk X scope (x::x'::Nf) C s₂ H₂ ex pins) vx te)(hs:∀v,foldedSetIterable iter X.env v=pure v:=by intro _;rfl):PE X (.DictComp kx vx [⟨(.Tuple [.Name x px,.Name x' px'] ktg ptg),iter,ifs,0⟩] scope pos) (Bx X.K js wi tc tk te):=mJ B hc (vg B hc) ur hi ht hk hv hs
theorem yR {y}(B:BlkG X scope [x,x'] Nf js)(hc:X.calm=true)(hi:PI X (.Tuple [.Name x px,.Name x' px'] ktg ptg) iter wi)(ht:∀C s₂ H₂ ex pins,PTs (blk X scope (x::x'::Nf) C s₂ H₂ ex pins) ifs tc)(hk:∀C s₂ H₂ ex pins,PE (blk X scope (x::x'::Nf) C s₂ H₂ ex pins) kx tk)(hv:∀C s₂ H₂ ex pins,PE (blk X scope (x::x'::Nf) C s₂ H₂ ex pins) vx te)
  (hN:X.N.Nodup) (hy:X.N[i]?=some y) (hl:X.env.scope.names.lookup y=some .local) (hsw:swapsWith (.DictComp kx vx [⟨(.Tuple [.Name x px,.Name x' px'] ktg ptg),iter,ifs,0⟩] scope pos) (some (.Name y py)) spos.line X.env=pure true:=by rfl)
  (hs:∀v,foldedSetIterable iter X.env v=pure v:=by intro _;rfl):PS X (.Assign [.Name y py] (.DictComp kx vx [⟨(.Tuple [.Name x px,.Name x' px'] ktg ptg),iter,ifs,0⟩] scope pos) spos) (qO (Bx X.K js wi tc tk te) (eS i)):=pR B hc (vg B hc) ur hi ht hk hv hN hy hl hsw hs
end
section
theorem p8:OpR X (binaryOp .FloorDiv) (rI (fun _ j=>0<j/\j.natAbs.log2<9000) fun i j=>.int (i / j)):=opI fun i j _ _ _ _ _ hc q=>by
 exact floordiv_int (by lia) (by rw[(Int.fdiv_eq_ediv_of_nonneg i (Int.le_of_lt hc.1))];exact q) (.inl (PyProof.noPylong_of_log2 hc.2))
def yT:V->Bool
 | .non=>true|.bl _=>true|.int _=>true|.str _=>true|.ref _=>true
 | _=>false
def okP (x y:V):Prop:=(x=y/\yT x=true)\/(jd x=true/\jd y=true)
def eqP (x y:V):Bool:=decide (x=y)||eqV x y
theorem md:∀{x:V},jd x=true->eqV x x=true
 | .non,_=>rfl
 | .bl b,_=>by cases b<;>rfl
 | .int i,_=>by simp[eqV]
 | .str z,_=>by simp[eqV]
theorem vZ {x v}(ru:cW x u)(rv:cW y v)(h:okP x y):SeqAt.EqAt A s u v (eqP x y):=by
 rcases h with⟨e,p⟩|⟨f,g⟩
 ·subst e;have e1:eqP x x=true:=by unfold eqP;simp
  rw[e1];cases x with
  | non=>cases ru;cases rv;exact SeqAt.EqAt.same _
  | bl b=>cases ru;cases rv;exact SeqAt.EqAt.same _
  | int i=>have:=qC (A:=A) (s:=s) ru rv rfl rfl;rwa[md rfl] at this
  | str z=>have:=qC (A:=A) (s:=s) ru rv rfl rfl;rwa[md rfl] at this
  | ref a=>cases ru;cases rv;exact SeqAt.EqAt.same _
  | _=>exact aY (show false=true from p) ay
 ·have e1:eqP x y=eqV x y:=by
   unfold eqP;by_cases e:x=y
   ·subst e;rw[md f];simp
   ·simp[e]
  rw[e1];exact qC ru rv f g
def tO (xs ys:List V):Bool:=decide (xs.length=ys.length)&&(List.zipWith eqP xs ys).all id
def BL (xs ys:List V):Prop:=xs.length=ys.length->∀(j:Nat) (x y:V),xs[j]?=some x->ys[j]?=some y->okP x y
def ans (xs ys:List V)(j:Nat):Bool:=match xs[j]?,ys[j]? with
 | some x,some y=>eqP x y
 | _,_=>true
theorem lj:∀(xs ys:List V),xs.length=ys.length->(List.range xs.length).all (ans xs ys)=(List.zipWith eqP xs ys).all id
 | [],[],_=>rfl
 | [],_::_,h=>by simp at h
 | _::_,[],h=>by simp at h
 | x::xs,y::ys,h=>by
  rw[bf,List.range_succ_eq_map,all_cons,List.zipWith_cons_cons,all_cons,<- (lj xs ys (by simpa using h)),List.all_map];rfl
theorem v7 {us:List Value}(r:cU xs us)(r':cU ys ws)(ok:BL xs ys)(hl:xs.length=ys.length)(j:Nat)(h1:j<us.toArray.size)(h2:j<ws.toArray.size) :
  SeqAt.EqAt A s us.toArray[j] ws.toArray[j] (ans xs ys j):=by
 have l1:=r.length;have l2:=r'.length;have j1:j<xs.length:=by simp at h1;lia
 have j2:j<ys.length:=by lia
 have e1:xs[j]?=some xs[j]:=by simp[j1]
 have e2:ys[j]?=some ys[j]:=by simp[j2]
 obtain⟨u,eu,ru⟩:=r.get e1;obtain⟨w,ew,rw'⟩:=r'.get e2
 have a1:us.toArray[j]=u:=by
  have:us[j]?=some u:=eu;simp at h1;simpa[h1] using this
 have a2:ws.toArray[j]=w:=by
  have:ws[j]?=some w:=ew;simp at h2;simpa[h2] using this
 have a3:ans xs ys j=eqP xs[j] ys[j]:=by unfold ans;rw[e1,e2]
 rw[a1,a2,a3];exact vZ ru rw' (ok hl j _ _ e1 e2)
def Aj (K:Frag)(neg:Bool):R2:=fun x y H Q=>∃p q xs ys,x=.ref p/\y=.ref q/\SqL K H p xs/\SqL K H q ys/\BL xs ys/\Q (.bl (if neg then !tO xs ys else tO xs ys)) H
theorem y3 (hu:X.A.units<cLine):OpR X (compareOp .Eq) (Aj X.K false):=by
 intro pins s σ H x y v u Q I rx ry h;obtain⟨p,q,xs,ys,rfl,rfl,hp,hq,ok,hQ⟩:=h;cases rx;cases ry;obtain⟨us,r,pl,hz⟩:=I.list hp;obtain⟨ws,r',pl',hz'⟩:=I.list hq;have l1:=r.length;have l2:=r'.length;by_cases hl:xs.length=ys.length
 ·refine SeqAt.RcAt.lists (e:=ans xs ys) pl.isList pl'.isList (by simp;lia) hu (fun j h1 h2=>v7 r r' ok hl j h1 h2) _ _ _ _ ⟨.bl _,H,I,rfl,?_⟩;rw[show us.toArray.size=xs.length by simp;lia,lj xs ys hl];unfold tO at hQ;rw[av hl,Bool.true_and] at hQ;exact hQ
 ·refine SeqAt.RcAt.lists_lengths pl.isList pl'.isList (by simp;lia) hu _ _ _ _ ⟨.bl _,H,I,rfl,?_⟩;unfold tO at hQ;rw[aF hl,Bool.false_and] at hQ;exact hQ
theorem kK (hu:X.A.units<cLine):OpR X (compareOp .NotEq) (Aj X.K true):=by
 intro pins s σ H x y v u Q I rx ry h;obtain⟨p,q,xs,ys,rfl,rfl,hp,hq,ok,hQ⟩:=h;cases rx;cases ry;obtain⟨us,r,pl,hz⟩:=I.list hp;obtain⟨ws,r',pl',hz'⟩:=I.list hq;have l1:=r.length;have l2:=r'.length;by_cases hl:xs.length=ys.length
 ·refine SeqAt.RcNeAt.lists (e:=ans xs ys) pl.isList pl'.isList (by simp;lia) hu (fun j h1 h2=>v7 r r' ok hl j h1 h2) _ _ _ _ ⟨.bl _,H,I,rfl,?_⟩;rw[show us.toArray.size=xs.length by simp;lia,lj xs ys hl];unfold tO at hQ;rw[av hl,Bool.true_and] at hQ;exact hQ
 ·refine SeqAt.RcNeAt.lists_lengths pl.isList pl'.isList (by simp;lia) hu _ _ _ _ ⟨.bl _,H,I,rfl,?_⟩;unfold tO at hQ;rw[aF hl,Bool.false_and] at hQ;exact hQ
end
section
variable {g:Array GenState}{d:Drawn}{t:Nat}{os:OsState}
end
end L2
variable {CX:L2.CXT}{X Y:L2.Cx}{o o0:L2.HO}{H H' H1 H2 H₂ h1:L2.Hp}{J:L2.It}{r r':L2.R2}{sp:L2.Sp}{σ:L2.St}{ct:L2.St->L2.Hp->Prop}{t4 ta td te tk tl tv tx ty:L2.TE}{g:L2.TG}{wi:L2.TI}{ti:L2.TIp}{th:L2.TO}{tb:L2.TS}{tA tc tt:L2.TT}{v y:L2.V}{Z:L2.V->L2.Hp->(List (Option L2.V)->Prop)->Prop}{rd:L2.V->L2.V->L2.Hp->L2.VK->Prop}{rr:L2.V->List L2.V->L2.Hp->L2.VK->Prop}{rt:L2.VK}{kvs:List (L2.Key×L2.V)}{dvs vs xs ys zs:List L2.V}
namespace L2
open PySem PySem.Spec PyProof.Rows PySem.Builtin.ObjectAttr
def tbV (tb:Option Addr):Value:=match tb with|none=>.none|some b=>.ref b
def CA (C e:Addr)(dx ar tb:Option Addr)(h:Heap):Prop:=∃(o:Obj) (vs:Array Value),h.get? e=some o/\o.cls=.ref C/\o.dict=dx/\o.data=.fields vs/\0<vs.size/\(∀t,ar=some t->vs[0]?=some (.ref t))/\vs[1]?=some (tbV tb)
def ExO (C e:Addr)(dx ar tb:Option Addr):HO:=.ext (CA C e dx ar tb)
section
end
section
variable {e:Addr}
end
structure ExG (K:Frag)(C:Addr):Prop where
 ga:findIn K (.ref C) "__getattribute__" = some (some (.builtin "BaseException.__getattribute__"))
 no:findIn K (.ref C) "__getattr__" = some none
 be:mroIn K C (.type "BaseException")=some true
 hd:hasDictIn K C=true
 ca:findIn K (.ref C) "__class__" = some (some (.builtin "object.__class__"))
 cn:specialIn K (.builtin "object.__class__") "__get__" = some (some (.builtin "getset_descriptor.__get__"))
 ct:takesIn K (.builtin "object.__class__")=some true
 ob:mroIn K C (.type "object")=some true
 ki:subIn K (.ref C) (.type "int")=some false
 kb:subIn K (.ref C) (.type "bool")=some false
 kl:subIn K (.ref C) (.type "list")=some false
 kt:subIn K (.ref C) (.type "tuple")=some false
section
variable {e:Addr}{o:Obj}{od:Option Obj}
end
end L2
namespace L2
open PySem PySem.Spec PyProof.Rows
inductive Thg (K:Frag)(H:Hp):V->Value->Prop where
 | non:Thg K H .non (.type "NoneType")
 | bl (x:Bool):Thg K H (.bl x) (.type "bool")
 | int (i:Int):Thg K H (.int i) (.type "int")
 | str (x:Str):Thg K H (.str x) (.type "str")
 | lst {a:Addr} {xs:List V} (e:H a=some (.lst xs)):Thg K H (.ref a) (.type "list")
 | frz {a:Addr} {o:Obj} {xs:List V} (e:H a=some (.frz o (.lst xs))):Thg K H (.ref a) (.type "list")
 | tup {a:Addr} {xs:List V} (e:H a=some (.tup xs)):Thg K H (.ref a) (.type "tuple")
 | dK {a:Addr} {kvs:List (Key×V)} (e:H a=some (.dK kvs)):Thg K H (.ref a) (.type "dict")
theorem Thg.keep {t}(x:Thg K H v t)(k:∀a o,H a=some o->H' a=some o):Thg K H' v t:=by
 cases x with
 | non=>exact .non
 | bl x=>exact .bl x
 | int i=>exact .int i
 | str x=>exact .str x
 | lst e=>exact .lst (k _ _ e)
 | frz e=>exact .frz (k _ _ e)
 | tup e=>exact .tup (k _ _ e)
 | dK e=>exact .dK (k _ _ e)
section
theorem cE.there (x:cE P w H h a o):∃ob,h.get? a=some ob:=by
 cases o with
 | lst xs=>obtain⟨_,_,_,_,e⟩:=x;exact⟨_,e⟩
 | tup xs=>obtain⟨_,_,_,⟨ob,e,_⟩,_⟩:=x;exact⟨ob,e⟩
 | dK kvs=>obtain⟨_,_,_,_,o,_,_,e,_⟩:=x;exact⟨o,e⟩
 | dT kvs=>obtain⟨_,_,_,_,o,_,_,e,_⟩:=x;exact⟨o,e⟩
 | set S n=>obtain⟨o,_,_,_,e,_⟩:=x;exact⟨o,e⟩
 | ins C dx fs=>obtain⟨_,_,_,e,_⟩:=x;exact⟨_,e⟩
 | own y=>exact x
 | xd fs=>obtain⟨_,⟨o,_,_,e,_⟩,_⟩:=x;exact⟨o,e⟩
 | rng lo hi=>obtain⟨_,_,_,e⟩:=x;exact⟨_,e⟩
 | frz ob u=>obtain⟨e,_⟩:=x;exact⟨ob,e⟩
 | tbl ps=>exact⟨_,x⟩
 | met f y=>exact⟨_,x⟩
 | ext φ=>exact x.2.1
theorem Thg.kit {t}(I:Inv X pins σ H s)(r:cW v u)(x:Thg X.K H v t):u≠.builtin "__main__.__loader__#opaque"/\∃φ,PySem.W.KitX X.K u t φ/\φ s.heap:=by
 cases x with
 | non=>cases(show u=Value.none from r);exact⟨nofun,_,kitx_none,True.intro⟩
 | bl y=>cases(show u=Value.bool y from r);exact⟨nofun,_,kitx_bool,True.intro⟩
 | int i=>obtain⟨t,q⟩:=(show ∃t,u=Value.int i t from r);cases q;exact⟨nofun,_,kitx_int,True.intro⟩
 | str y=>obtain⟨t,q⟩:=(show ∃t,u=Value.str y t from r);cases q;exact⟨nofun,_,kitx_str,True.intro⟩
 | @lst a xs ea=>
  cases(show u=Value.ref a from r);obtain⟨_,_,n,_,h1⟩:=(show cE X.prog X.w H s.heap a (.lst xs) from I.hok a _ ea);exact⟨nofun,_,kitx_list,⟨_,h1,rfl⟩⟩
 | @frz a ob xs ea=>
  cases(show u=Value.ref a from r);obtain⟨_,_,_,n,_,h1⟩:=(show cE X.prog X.w H s.heap a (.frz ob (.lst xs)) from I.hok a _ ea);exact⟨nofun,_,kitx_list,⟨_,h1,rfl⟩⟩
 | @tup a xs ea=>
  cases(show u=Value.ref a from r);obtain⟨_,_,_,p,_⟩:=(show cE X.prog X.w H s.heap a (.tup xs) from I.hok a _ ea);obtain⟨o,h1,h2,_⟩:=p;exact⟨nofun,_,kitx_tuple,⟨o,h1,h2⟩⟩
 | @dK a kvs ea=>
  cases(show u=Value.ref a from r);obtain⟨_,_,vs,_,p⟩:=(show cE X.prog X.w H s.heap a (.dK kvs) from I.hok a _ ea);obtain⟨o,es,ep,h1,h2,_⟩:=p;exact⟨nofun,_,kitx_dict,⟨o,h1,h2.1⟩⟩
def vOf:V->Value
 | .ty n=>.type n
 | .ref a=>.ref a
 | _=>.none
theorem pq:∀{cs:List V} {us:List Value},cU cs us->(∀c∈cs,(∃n,c=.ty n)\/∃a,c=.ref a)->us=cs.map vOf
 | _,_,.nil,_=>rfl
 | c::cs,u::us,.cons r t,h=>by
  rw[bH,pq t fun c hc=>h c (br _ hc)];rcases h c bY with⟨n,rfl⟩|⟨a,rfl⟩
  ·cases(show u=type n from r);rfl
  ·cases(show u=Value.ref a from r);rfl
def yN (K:Frag):List V->Hp->VK->Prop:=fun xs H Q=>∃v c t b,xs=[v,c]/\Thg K H v t /\
  ((∃T,c=.ty T/\kitOne K t (.type T)=some b)\/(∃C,c=.ref C/\kitOne K t (.ref C)=some b) \/
    ∃tp cs,c=.ref tp/\H tp=some (.tup cs)/\(∀c∈cs,(∃n,c=.ty n)\/∃a,c=.ref a)/\kitAny K t (cs.map vOf)=some b)/\Q (.bl b) H
theorem fF:fX X (.builtin "isinstance") (yN X.K):=by
 intro pins s σ H xs us Q I r h;obtain⟨v,c,t,b,rfl,x,hc,q⟩:=h;obtain⟨u,u',rfl,ru,ru'⟩:=mz r;obtain⟨hx,φ,Z,p⟩:=x.kit I ru;have fin:∀tk,EP X pins σ Q (.bool b) { s with toks:=tk }:=fun tk=>⟨.bl b,H,I.tok tk,rfl,q⟩;rcases hc with⟨T,rfl,e⟩|⟨C,rfl,e⟩|⟨tp,cs,rfl,ht,hcs,e⟩
 ·cases(show u'=type T from ru');exact kia_one Z I.kIn p e hx fin
 ·cases(show u'=Value.ref C from ru');exact kia_one Z I.kIn p e hx fin
 ·cases(show u'=Value.ref tp from ru');obtain⟨_,its,rv,⟨o,h1,h2,n,h3⟩,_⟩:=(show cE X.prog X.w H s.heap tp (.tup cs) from I.hok tp _ ht);rcases o with⟨oc,od,odt,osl⟩;cases(show oc=_ from h2);cases(show odt=_ from h3);rw[<- pq rv hcs] at e;exact PySem.W.kia_tup Z I.kIn p h1 e hx fin
end
section
end
section
variable {e t:Addr}{o:Obj}{od:Option Obj}{vs:Array Value}{tk:Tok}{nm:String}
def KBp (p:Addr)(H H':Hp):Prop:=∀b o,H b=some o->b≠p->H' b=some o
def Shw (P:Program)(w:World)(K:Frag)(p:Addr)(H:Hp)(as:List Addr)(d:Nat)(v:V)(t:Str):Prop:=
 ∀(X:Cx) (pins:List (Addr×Obj)) (σ:St) (H':Hp) (s:Shared) (u:Value),X.prog=P->X.w=w->X.K=K->Inv X pins σ H' s->KBp p H H'->cW v u->ReprK P w as s.heap d u t
variable {p:Addr}{d:Nat}{tx:Str}
theorem shw_int {i:Int}(h:i.natAbs.log2<1920):Shw P w K p H as d (.int i) (toString i):=fun X pins σ H2 s u _ _ _ I k r=>by
 obtain⟨tk,rfl⟩:=(show ∃t,u=Value.int i t from r);exact .of_is (.int tk h) _ _ _
end
section
variable {p:Addr}{d:Nat}{tx:Str}
end
section
variable {g:Array GenState}{d:Drawn}{t:Nat}{os:OsState}
end
section
variable {e:Addr}
end
section
variable {E:XK}{x:Expr}{pos:Pos}
end
section
variable {e:Addr}
end
section
def Bo (it t:Addr)(i:Nat)(s:Shared)(Q:Value->Shared->Prop)(E:Value->Shared->Prop):Option Value->Prop
 | some x=>∀h',h'.IsTupleIter it t (i+1)->Heap.SameBut it s.heap h'->Q x { s with heap:=h' }
 | none=>∀h' e,Heap.ExtBut it s.heap h'->(∃o,h'.get? e=some o/\o.cls=.type "StopIteration")->E (.ref e) { s with heap:=h' }
theorem x_ {t o}(hh:A.handled=none)(ti:s.heap.IsTupleIter it t i)(tt:s.heap.IsTuple t its)(hx:its[i]?=o)(hk:Bo it t i s Q E o):wpAny (model prog w) A (nextOf (.ref it)) Q E s:=by
 have nn:¬(Value.ref t==Value.none)=true:=fun z=>ay z;rcases id ti with⟨ob,e1,e2,e3⟩;rcases tt with⟨ol,f1,_,nl,f2⟩
 delta nextOf
 refine ac (wpAny_callSpecial?_slot (name:=Str.ofString "__next__") ti.typeIs PySem.F.slot_tuple_iterator_next (wpAny_call_entry PySem.F.slot_tuple_iterator_next ti.typeIs PySem.F.entry_tuple_iterator_next ?_ (PySem.F.args_tuple_iterator_next_1 _)));refine ac (m:=field (.ref it) 0) (wpAny_field e1 e3 (x:=.ref t) rfl ?_);rw[aA nn]
 refine ac (m:=field (.ref it) 1) (wpAny_field e1 e3 (x:=.int i 0) rfl (ac (m:=seqItems? (.ref t)) (wpAny_seqItems f1 f2 ?_)));simp only[hx,toNat_natCast];cases o with
 | some x=>
  refine ac (wpAny_setField e1 e3 (by simp) (aG ⟨x,rfl,aG (hk _ ⟨_,bR _ e1 (Obj.isFreed_of_fields (Obj.data_mapFields e3 _)),(Obj.cls_mapFields ..).trans e2,?_⟩ (Heap.SameBut.update ..))⟩));simp[rawInt,Obj.data_mapFields e3]
 | none=>
  refine ac (wpAny_rule (ac (wpAny_setField e1 e3 (by simp) (ac (m:=newExc (.type "StopIteration") []) ?_))));simp only[newExc,newTuple];refine ac (wpAny_newObj_type (ac (m:=firstArgMember _ _) (wpAny_of_eq (a:=Value.none) (by first|rfl|(simp;rfl)) (wpAny_newObj_type ?_ (by size_fits)))) (by size_fits));simp only[raiseNew]
  have last:∀{h1:Heap} (x:Heap.ExtBut it s.heap h1) {e:Addr} {o:Obj} (_:h1.get? e=some o) (_:o.cls=.type "StopIteration"),E (.ref e) { s with heap:=h1 }:=fun {_} x {_ _} q1 q2=>hk _ _ x ⟨_,q1,q2⟩;refine ac ?_;refine wpAny_handled ?_;rw[hh];refine ac (aG (wpAny_throw (last (((Heap.SameBut.update ..).extBut.push _).push _) (aV _ rfl) rfl)))
theorem zV (hh:A.handled=none)(it l:Addr)(hne:l≠it)(its:Array Value):Draws prog w A it [it,l] its.size (fun i v=>its[i]?=some v) (fun i h=>h.IsTupleIter it l i/\h.IsTuple l its) where
 live:=fun _ _ ⟨⟨o,ho,_⟩,_⟩=>⟨o,ho⟩
 frame:=fun _ _ _ ⟨p,q⟩ hk=>⟨p.at (hk it (by simp)),q.at (hk l (by simp))⟩
 item:=fun i s Q E hi st hQ=>x_ hh st.1 st.2 (o:=some its[i]) (by simp[hi]) fun h' hit' hs'=>hQ _ h' s.toks (by simp[hi]) ⟨hit',st.2.extBut hs'.extBut hne⟩ hs'
 done:=fun s Q E st hE=>x_ hh st.1 st.2 (o:=none) (by simp) hE
end
def SqB (K:Frag)(tp:Bool)(H:Hp)(a:Addr)(xs:List V):Prop:=if tp then SqT K H a xs else SqL K H a xs
section
end
section
theorem zW {it l}{its:Array Value}(hne:l≠it):∀(n i:Nat) (s:Shared) (Q:List Value->Shared->Prop),s.heap.IsListIter it l i->s.heap.IsList l its->i+n<=its.size ->
  (∀h',h'.IsListIter it l (i+n)->Heap.SameBut it s.heap h'->Q ((its.toList.drop i).take n) { s with heap:=h' })->wpAny (model prog w) A (draw (.ref it) n) Q E s
 | 0,i,s,Q,hi,_,_,hQ=>by
  have q:=hQ s.heap hi (Heap.SameBut.refl ..);rw[take_zero] at q;exact aG q
 | n+1,i,s,Q,hi,hl,hle,hQ=>by
  have hlt:i<its.size:=by lia
  refine ac (m:=pyNext (.ref it)) (wpAny_pyNext_list_item hi hl (x:=its[i]) (by simp[hlt]) fun h1 hi1 hs1=>?_);refine ac (bv (zW hne n (i+1) _ _ hi1 (hl.extBut hs1.extBut hne) (by lia) fun h2 hi2 hs2=>aG ?_));have q:=hQ h2 (by rw[show i+(n+1)=i+1+n by lia];exact hi2) (hs1.trans hs2)
  rw[show its.toList.drop i=its[i]::its.toList.drop (i+1) by simp[List.drop_eq_getElem_cons,hlt],List.take_succ_cons] at q;exact q
theorem we {l}{Q:List Value->Shared->Prop}(hh:A.handled=none)(hl:s.heap.IsList l its)
  (hQ:∀h',Heap.ExtBut s.heap.objs.size s.heap h'->Q its.toList { s with heap:=h' }):wpAny (model prog w) A (unpackItems (.ref l) its.size none) Q E s:=by
 have hlt:l≠s.heap.objs.size:=let⟨_,ho,_⟩:=hl;aP (aZ ho);have hp:(s.heap.push { cls:=.type "list_iterator",data:=.fields #[.ref l,.int 0 0] }).IsList l its:=hl.push _;unfold unpackItems;refine ac ?_;unfold notIterableAtAll;refine ac (wpAny_specialOf hl.typeIs slot_list_iter.lookup (aG ?_));rw[aA ay]
 refine ac (bv (wpAny_pyIter_list hl (ac (bv (zW hlt its.size 0 _ _ ⟨_,aV _ rfl,rfl,rfl⟩ hp (by lia) fun h1 hi1 hs1=>?_)))));rw[show List.take its.size (List.drop 0 its.toList)=its.toList by rw[List.drop_zero];exact take_of_length_le (by simp)]
 first
  | rw[aA (by simp)]
  | skip
 refine ac (bv (wpAny_pyNext_list_end hh hi1 (hp.extBut hs1.extBut hlt) (by simp) fun h2 he2=>?_));rw[aA (by simp)];exact aG (hQ h2 fun b o hb e=>he2 b o hb (hs1.extBut b o hb (az _ e)))
end
section
variable {pos:Pos}
def Bg (K:Frag)(n:Nat)(t:TGs):TG:=fun v σ H Q=>∃a xs,v=.ref a/\SqL K H a xs/\xs.length=n/\t xs σ H Q
theorem wI {k:Nat}{t:TGs}(hc:X.calm=true)(h:PGs X es t)
  (hn:(assignEach es X.env).length=n:=by rfl) (hst:(assignEach es X.env).findIdx? (·.1)=none:=by rfl):PG X (.Tuple es k pos) (Bg X.K n t):=by
 intro pins s σ H v u Q I r hw;obtain⟨a,xs,e1,hq,hl,hw⟩:=hw;subst e1;cases r;obtain⟨its,rv,ht,hz⟩:=I.list hq;rw[assign_Tuple];refine ac (wpAny_standAt ?_);unfold unpack;have e2:(assignEach es X.env).length=its.toArray.size:=by simp[hn,<- hl,rv.length]
 rw[e2,hst];refine ac (bv (we (I.ok.hd hc) ht.isList fun h' hx=>?_));have I1:Inv X pins σ H { s with heap:=h' }:=I.kept (t':=s.toks) fun b o e=>hx b o (aP (aZ e)) e;exact h pins _ σ H xs _ Q I1 (by simpa using rv) hw
end
theorem cS:bootBuiltins "len" = some (.builtin "len"):=by decide +kernel
theorem ko:bootBuiltins "max" = some (.builtin "max"):=by decide +kernel
theorem nQ:bootBuiltins "min" = some (.builtin "min"):=by decide +kernel
theorem cx:bootBuiltins "isinstance" = some (.builtin "isinstance"):=by decide +kernel
theorem dX:bootBuiltins "list" = some (.type "list"):=by decide +kernel
theorem iU:bootBuiltins "tuple" = some (.type "tuple"):=by decide +kernel
theorem v6:bootBuiltins "int" = some (.type "int"):=by decide +kernel
theorem uc:bootBuiltins "bool" = some (.type "bool"):=by decide +kernel
theorem dw:bootBuiltins "enumerate" = some (.type "enumerate"):=by decide +kernel
structure Dn (K:Frag)(mg:Str->Option Value)(x qual:Str)(st:Stmt)(ps:List Str)(f:Addr)(fd:FuncData):Prop where
 fn:Fun K x qual st f fd
 b:eJ K fd ps []
 m:mg x=some (.ref f)
theorem dn_mk (X:K.In h)(G:h.Ns mainGlobals mg){kV ct:Value}
  (a:nsIn K mainGlobals x=some (some (.ref f))) (l:K.lookup f=some ⟨oc,od,.func (fnOf x x (fC st) (eI st) (bA st) .none kV doc pm an cdv ct),osl⟩)
  (c:codeIn K cdv x=true) (k:keepIn K (.ref f)=true)
  (b:∀(kV doc pm:Value) (an:Option Addr) (cdv ct:Value) (us:List Value),us.length=ps.length->bindArgs (fnOf x x (fC st) (eI st) (bA st) .none kV doc pm an cdv ct) ⟨us,[]⟩=pure (ps.zip us)) :
  ∃f fd,Dn K mg x x st ps f fd:=⟨f,_,ic (st:=st) l c k,(ic (st:=st) l c k).binds b,mg_of X G a⟩
def dq:Expr->Bool
 | .Starred _ _=>true
 | _=>false
theorem eZ (h:dq e=false):starEach (e::es) env=(false,eval e env)::starEach es env:=by
 cases e with
 | Starred a b=>exact Bool.noConfusion h
 | _=>kernel_rfl
theorem yZ {t}(ha:PE X e te)(hr:PA X es t)(h:dq e=false:=by rfl):PA X (e::es) (eY te t):=wP ha hr (eZ h)
section
variable {t:TA}
end
def z5 (fs:Scope)(scope:Scope)(N xs Nf:List Str)(js:List Nat):Bool:=
 (scope.kind==.function)&&scope.names.all (fun y=>y.2 != .cell)&&scope.names.all (fun y=>y.2 != .local||scope.names.lookup y.1==some .local)&&xs.all (fun x=>scope.names.lookup x==some .local) &&
  decide (xs++Nf).Nodup&&scope.names.all (fun y=>y.2 != .free||fs.names.lookup y.1==some .cell)&&(Nf.length==js.length) &&
  (Nf.zip js).all (fun p=>N[p.2]?==some p.1&&scope.names.lookup p.1==some .free&&fs.names.lookup p.1==some .cell)
theorem dE {xs}(Nf:List Str)(js:List Nat)(h:z5 X.env.scope scope X.N xs Nf js=true:=by kernel_rfl):BlkG X scope xs Nf js:=by
 unfold z5 at h;simp only[and_eq_true,beq_iff_eq,decide_eq_true_eq] at h;obtain⟨⟨⟨⟨⟨⟨⟨h1,h2⟩,h3⟩,h4⟩,h5⟩,h6⟩,h7⟩,h8⟩:=h;refine⟨h1,fun y hy=>?_,fun y hy hl=>?_,fun x hx=>beq_iff_eq.mp (all_eq_true.mp h4 x hx),h5,fun y hy hf=>?_,h7,fun i z hz=>?_⟩
 ·have:=all_eq_true.mp h2 y hy;simpa using this
 ·have:=all_eq_true.mp h3 y hy;rw[hl] at this;simpa using this
 ·have:=all_eq_true.mp h6 y hy;rw[hf] at this;show X.env.scope.names.lookup y.1=some .cell;simpa using this
 ·have hi:i<js.length:=by rw[<- h7];exact(aq.mp hz).1
  have hm:(z,js[i])∈Nf.zip js:=by
   have e:(Nf.zip js)[i]?=some (z,js[i]):=by
    rw[getElem?_zip_eq_some];exact⟨hz,by simp[hi]⟩
   exact aK e
  have q:=all_eq_true.mp h8 _ hm;rw[and_eq_true,and_eq_true,beq_iff_eq,beq_iff_eq,beq_iff_eq] at q;exact⟨js[i],by simp[hi],q.1.1,q.1.2,q.2⟩
def ItB (K:Frag)(tp:Bool)(a:Addr):It:=if tp then Itt K a else Itl K a
def BT (K:Frag)(tp:Bool)(tl:TE):TI:=fun σ H R=>tl σ H fun x H1=>∃a,x=.ref a/\(∃xs,SqB K tp H1 a xs)/\R (ItB K tp a) H1
theorem vH {l}(tp:Bool)(hl:PE X l tl):PI X tg l (BT X.K tp tl):=by
 cases tp with
 | true=>exact yV hl
 | false=>exact dm hl
def KB (p:Addr)(H H':Hp):Prop:=∀b o,H b=some o->b≠p->H' b=some o
theorem KB.refl {p}:KB p H H:=fun _ _ h _=>h
theorem KB.trans {p}(a:KB p H H1)(b:KB p H1 H2):KB p H H2:=fun c o h n=>b c o (a c o h n) n
theorem aQ.upd {p}(h:H p=none):aQ H (upd H p o):=fun b u q=>by rw[ak (ah q h)];exact q
theorem KB.updN {p}(k:KB p H H1)(h:H1 q=none):KB p H (upd H1 q o):=fun b u z n=>by rw[ak (ah (k b u z n) h)];exact k b u z n
theorem KB.updP {p}(k:KB p H H1):KB p H (upd H1 p o):=fun b u z n=>by rw[ak n];exact k b u z n
def kD:Key->PyData
 | .inl i=>.int i
 | .inr x=>.str x
mutual
inductive DV (N:Addr->Prop)(H:Hp):V->PyData->Prop
 | non:DV N H .non .none
 | bl (b:Bool):DV N H (.bl b) (.bool b)
 | int (i:Int):DV N H (.int i) (.int i)
 | str (x:Str):DV N H (.str x) (.str x)
 | lst {a:Addr} {xs:List V} {ds:List PyData}:¬N a->H a=some (.lst xs)->DVs N H xs ds->DV N H (.ref a) (.list ds)
 | tup {a:Addr} {xs:List V} {ds:List PyData}:¬N a->H a=some (.tup xs)->DVs N H xs ds->DV N H (.ref a) (.tuple ds)
inductive DVs (N:Addr->Prop)(H:Hp):List V->List PyData->Prop
 | nil:DVs N H [] []
 | cons {v:V} {d:PyData} {vs:List V} {ds:List PyData}:DV N H v d->DVs N H vs ds->DVs N H (v::vs) (d::ds)
end
mutual
theorem DV.one {N N':Addr->Prop}{H:Hp}:∀{v:V} {d d':PyData},DV N H v d->DV N' H v d'->d=d'
 | _,_,_,.non,h=>by cases h;rfl
 | _,_,_,.bl _,h=>by cases h;rfl
 | _,_,_,.int _,h=>by cases h;rfl
 | _,_,_,.str _,h=>by cases h;rfl
 | _,_,_,.lst _ e r,h=>by
  cases h with
  | lst _ e' r'=>rw[e] at e';cases e';rw[DVs.one r r']
  | tup _ e' _=>rw[e] at e';cases e'
 | _,_,_,.tup _ e r,h=>by
  cases h with
  | tup _ e' r'=>rw[e] at e';cases e';rw[DVs.one r r']
  | lst _ e' _=>rw[e] at e';cases e'
theorem DVs.one {N N':Addr->Prop}{H:Hp}:∀{vs:List V} {ds ds':List PyData},DVs N H vs ds->DVs N' H vs ds'->ds=ds'
 | _,_,_,.nil,h=>by cases h;rfl
 | _,_,_,.cons r t,h=>by
  cases h with
  | cons r' t'=>rw[DV.one r r',DVs.one t t']
end
theorem nA {prog:Program}{w:World}{h₀:Heap}{as as':List Addr}{d d':Nat}(hsub:∀b∈as,b∈as')(hd:d<=d'):∀{l:List DictEntry} {ts:List Str},ReprEntriesK prog w as h₀ d l ts->ReprEntriesK prog w as' h₀ d' l ts
 | _,_,.nil=>.nil
 | _,_,.cons a b t=>.cons ((a.more hsub).level_le hd) ((b.more hsub).level_le hd) (nA hsub hd t)
section
def Low (N:Addr->Prop)(H:Hp)(n:Nat)(bs:List Addr):Prop:=∀b∈bs,∃d,DV N H (.ref b) d/\d.depth<=n
theorem Low.mono {m:Nat}{bs}(h:Low N H n bs)(k:n<=m):Low N H m bs:=fun b hb=>let⟨d,r,q⟩:=h b hb;⟨d,r,bh q k⟩
theorem Low.append {bs cs}(h:Low N H n bs)(k:Low N H n cs):Low N H n (bs++cs):=fun b hb=>(aT.mp hb).elim (h b) (k b)
theorem Low.cons {d:PyData}{bs}(r:DV N H (.ref a) d)(k:n<=d.depth)(h:Low N H n bs):Low N H d.depth (a::bs):=fun b hb=>by
 rcases bm.mp hb with rfl|hb
 ·exact⟨d,r,aE _⟩
 ·exact h.mono k b hb
theorem Low.out {d:PyData}{bs}(r:DV N H (.ref a) d)(k:n<d.depth)(h:Low N H n bs):a∉bs:=fun hb=>by
 obtain⟨d',r',q⟩:=h a hb;rw[DV.one r' r] at q
 lia
mutual
theorem DV.shows (I:Inv X pins σ H s):∀{v:V} {d:PyData} {u:Value},DV N H v d->cW v u->d.showable=true->d.shown.length<=sizeLine->∃bs,Low N H d.depth bs/\ReprK X.prog X.w bs s.heap d.depth u d.shown
 | _,_,u,.non,r,_,_=>by cases(show u=Value.none from r);exact⟨[],nofun,by simp only[PyData.shown];exact .of_is ReprIs.none _ _ _⟩
 | _,_,u,.bl b,r,_,_=>by cases(show u=Value.bool b from r);exact⟨[],nofun,by simp only[PyData.shown];exact .of_is (ReprIs.bool b) _ _ _⟩
 | _,_,u,.int i,r,hs,_=>by obtain⟨t,rfl⟩:=(show ∃t,u=Value.int i t from r);exact⟨[],nofun,by simp only[PyData.shown];exact .of_is (ReprIs.int t (by simpa[PyData.showable] using hs)) _ _ _⟩
 | _,_,u,.str x,r,_,hz=>by obtain⟨t,rfl⟩:=(show ∃t,u=Value.str x t from r);exact⟨[],nofun,by simp only[PyData.shown];exact .of_is (ReprIs.str x t (by simpa only [PyData.shown] using hz)) _ _ _⟩
 | _,_,u,.lst (a:=a) (xs:=xs) (ds:=ds) na e q,r,hs,hz=>by
  cases(show u=Value.ref a from r);obtain⟨_,its,n,rv,g⟩:=(show cE X.prog X.w H s.heap a (.lst xs) from I.hok a _ e);have hz':(listText (PyData.shownAll ds)).length<=sizeLine:=by simpa only [PyData.shown] using hz
  obtain⟨bs,hb,hk⟩:=DVs.shows I q rv (by simpa[PyData.showable] using hs) (fun t ht=>bh (listText_mem_le ht) hz');have R:DV N H (.ref a) (.list ds):=.lst na e q;have hna:=Low.out R (by simp only[PyData.depth];lia) hb;refine⟨a::bs,Low.cons R (by simp only[PyData.depth];lia) hb,?_⟩;simp only[PyData.depth,PyData.shown];cases rv with
  | nil=>
   cases q;simp only[PyData.shownAll,listText_nil];exact ReprK.listEmpty g rfl rfl
  | cons r1 r2=>exact ReprK.list g rfl rfl hna (by simpa using hk.length_eq) (fun i y e=>hk.item i y (by simpa using e))
 | _,_,u,.tup (a:=a) (xs:=xs) (ds:=ds) na e q,r,hs,hz=>by
  cases(show u=Value.ref a from r);obtain⟨_,its,rv,⟨o,h1,h2,n,h3⟩,_⟩:=(show cE X.prog X.w H s.heap a (.tup xs) from I.hok a _ e);have hz':(tupleText (PyData.shownAll ds)).length<=sizeLine:=by simpa only [PyData.shown] using hz
  obtain⟨bs,hb,hk⟩:=DVs.shows I q rv (by simpa[PyData.showable] using hs) (fun t ht=>bh (tupleText_mem_le ht) hz');have R:DV N H (.ref a) (.tuple ds):=.tup na e q;have hna:=Low.out R (by simp only[PyData.depth];lia) hb;refine⟨a::bs,Low.cons R (by simp only[PyData.depth];lia) hb,?_⟩;simp only[PyData.depth,PyData.shown];exact ReprK.tuple h1 h2 h3 hna (by simpa using hk)
theorem DVs.shows (I:Inv X pins σ H s):∀{vs:List V} {ds:List PyData} {us:List Value},DVs N H vs ds->cU vs us->PyData.showableAll ds=true->(∀t∈PyData.shownAll ds,t.length<=sizeLine) ->
  ∃bs,Low N H (PyData.depthAll ds) bs/\ReprAllK X.prog X.w bs s.heap (PyData.depthAll ds) us (PyData.shownAll ds)
 | _,_,_,.nil,.nil,_,_=>⟨[],nofun,by simp only[PyData.shownAll];exact .nil⟩
 | _,_,_,.cons (d:=d) (ds:=ds) r t,.cons r1 r2,hs,hz=>by
  obtain⟨sd,sds⟩:d.showable=true/\PyData.showableAll ds=true:=by rwa[PyData.showableAll,and_eq_true] at hs
  obtain⟨b1,hb1,k1⟩:=DV.shows I r r1 sd (hz _ (by simp only[PyData.shownAll];exact bY ..));obtain⟨b2,hb2,k2⟩:=DVs.shows I t r2 sds (fun t ht=>hz t (by simp only[PyData.shownAll];exact br _ ht));refine⟨b1++b2,(hb1.mono (by simp only[PyData.depthAll];exact Nat.le_max_left _ _)).append (hb2.mono (by simp only[PyData.depthAll];exact Nat.le_max_right _ _)),?_⟩
  simp only[PyData.depthAll,PyData.shownAll];have m1:=(k1.more fun b hb=>bE b2 hb).level_le (Nat.le_max_left d.depth (PyData.depthAll ds));have m2:=k2.more_le (fun b hb=>aU b1 hb) (Nat.le_max_right d.depth (PyData.depthAll ds));exact .cons m1 m2
end
structure Okd (n:Nat)(d:PyData):Prop where
 sh:d.showable=true
 lv:d.leavesShort 40=true
 dp:d.depth<=20
 wt:d.weight<=n
theorem Okd.len {d:PyData}(h:Okd n d)(hn:n<=100000):d.shown.length<=sizeLine:=by
 have:=PyData.shown_le 40 (by decide) d h.lv;have e:(40+2) * d.weight<=42 * 100000:=Nat.mul_le_mul (by lia) (bh h.wt hn);have:sizeLine=16777216:=by decide
 lia
theorem kY (hg:X.A.guards=some [])(hu:X.A.units+64<cLine):fX X (.builtin "repr") (fun xs H Q=>∃(v:V) (N:Addr->Prop) (d:PyData),xs=[v]/\DV N H v d/\Okd 100000 d/\Q (.str d.shown) H):=by
 intro pins s σ H xs us Q I r h;obtain⟨v,N,d,rfl,x,ok,q⟩:=h;obtain⟨u,rfl,rx⟩:=g6 r;have hz:=ok.len (by lia);have hs:=ok.sh;have hd:=ok.dp;cases x with
 | non=>cases(show u=Value.none from rx);exact P.repr_of_none ⟨.str PyData.none.shown,H,I.tok _,⟨_,by simp only[PyData.shown];rfl⟩,q⟩
 | bl b=>cases(show u=Value.bool b from rx);exact P.repr_of_bool ⟨.str (PyData.bool b).shown,H,I.tok _,⟨_,by simp only[PyData.shown];rfl⟩,q⟩
 | int i=>
  obtain⟨t,rfl⟩:=(show ∃t,u=Value.int i t from rx);exact P.repr_of_int (by simpa[PyData.showable] using hs) ⟨.str (PyData.int i).shown,H,I.tok _,⟨_,by simp only[PyData.shown];rfl⟩,q⟩
 | str y=>
  obtain⟨t,rfl⟩:=(show ∃t,u=Value.str y t from rx);exact P.repr_of_str ⟨.str (PyData.str y).shown,H,I.tok _,⟨_,by simp only[PyData.shown];rfl⟩,q⟩ (by simpa only [PyData.shown] using hz)
 | @lst a xs ds na e p=>
  cases(show u=Value.ref a from rx);obtain⟨_,its,n,rv,g⟩:=(show cE X.prog X.w H s.heap a (.lst xs) from I.hok a _ e);have hz':(listText (PyData.shownAll ds)).length<=sizeLine:=by simpa only [PyData.shown] using hz
  obtain⟨bs,hb,hk⟩:=DVs.shows I p rv (by simpa[PyData.showable] using hs) (fun t ht=>bh (listText_mem_le ht) hz');have hna:=Low.out (DV.lst na e p) (by simp only[PyData.depth];lia) hb;simp only[PyData.depth] at hd;cases rv with
  | nil=>
   cases p;exact call_repr_slot (by lia) ⟨_,g,rfl⟩ PySem.F.slot_list_repr.toG (call_list_repr_empty ⟨_,g,rfl⟩ g rfl ⟨_,_,rfl,.str (PyData.list []).shown,H,I.kept (fun _ _ e=>e),⟨_,by simp only[PyData.shown,PyData.shownAll,listText_nil];rfl⟩,q⟩)
  | cons r1 r2=>
   exact call_repr_slot (by lia) ⟨_,g,rfl⟩ PySem.F.slot_list_repr.toG (call_list_reprK (g:=[]) g rfl rfl hna (by simpa using hk.length_eq) (fun i y z=>hk.item i y (by simpa using z)) hg (fun b _=>Clear.nil b) (by show X.A.units+1+(_+1)<cLine;lia) (fun _ _ e=>e) (fun h' u tk hkk=>⟨_,_,rfl,⟨.str (PyData.list ds).shown,H,I.kept hkk,⟨_,by simp only[PyData.shown];rfl⟩,q⟩⟩) hz')
 | @tup a xs ds na e p=>
  cases(show u=Value.ref a from rx);obtain⟨_,its,rv,⟨o,h1,h2,n,h3⟩,_⟩:=(show cE X.prog X.w H s.heap a (.tup xs) from I.hok a _ e);have hz':(tupleText (PyData.shownAll ds)).length<=sizeLine:=by simpa only [PyData.shown] using hz
  obtain⟨bs,hb,hk⟩:=DVs.shows I p rv (by simpa[PyData.showable] using hs) (fun t ht=>bh (tupleText_mem_le ht) hz');have hna:=Low.out (DV.tup na e p) (by simp only[PyData.depth];lia) hb;simp only[PyData.depth] at hd
  exact call_repr_slot (by lia) ⟨_,h1,h2⟩ PySem.F.slot_tuple_repr (call_tuple_reprK (g:=[]) h1 h2 h3 hna (by simpa using hk) hg (fun b _=>Clear.nil b) (by show X.A.units+1+(_+1)<cLine;lia) (fun _ _ e=>e) (fun h' u tk hkk=>⟨_,_,rfl,⟨.str (PyData.tuple ds).shown,H,I.kept hkk,⟨_,by simp only[PyData.shown];rfl⟩,q⟩⟩) hz')
end
theorem t_:bootBuiltins "repr" = some (.builtin "repr"):=by decide +kernel
theorem ud:bootBuiltins "all" = some (.builtin "all"):=by decide +kernel
theorem zZ:bootBuiltins "set" = some (.type "set"):=by decide +kernel
section
theorem km (hh:X.A.handled=none):fX X (.builtin "all") (fun xs H Q=>∃(a:Addr) (bs:List Bool),xs=[.ref a]/\H a=some (.lst (bs.map V.bl))/\Q (.bl (bs.all id)) H):=by
 intro pins s σ H xs us Q I r h;obtain⟨a,bs,rfl,hl,q⟩:=h;obtain⟨u,rfl,rx⟩:=g6 r;cases rx;obtain⟨hz,its,n,rv,g⟩:=(show cE X.prog X.w H s.heap a (.lst (bs.map V.bl)) from I.hok a _ hl);have isl:s.heap.IsList a its.toArray:=⟨_,g,rfl,n,rfl⟩;refine call_all_walk (wpAny_pyIter_list isl ?_)
 have at_:∀(i:Nat) (v:Value),its.toArray[i]?=some v->v=.bool (bs.getD i false):=fun i v e=>by
  have e':its[i]?=some v:=by simpa using e
  obtain⟨j1,j2⟩:=aq.mp e';have hi:i<bs.length:=by have:=rv.length;rw[af] at this;lia
  obtain⟨u,u1,u2⟩:=rv.get (i:=i) (x:=.bl bs[i]) (by simp[hi]);rw[e'] at u1;cases u1;rw[show v=Value.bool bs[i] from u2];simp[hi]
 refine⟨_,_,_,_,_,_,fun i=>bs.getD i false,rfl,Walks.list (by simp[hh]) _ a (aP (aZ g)) its.toArray,⟨⟨_,aV _ rfl,rfl,rfl⟩,isl.push _⟩,?_,fun h' tk k=>?_⟩
 ·intro i v s' R E' e hr;rw[at_ i v e];exact aG hr
 ·have kk:∀b o,s.heap.get? b=some o->h'.get? b=some o:=fun b o e=>k b o (by
   intro z;rw[au.mp z] at e
   exact aY (aZ e) (lt_irrefl _)) (az _ e)
  refine⟨.bl (bs.all id),H,I.kept kk,?_,q⟩;congr 1;have e1:its.toArray.size=bs.length:=by have:=rv.length;rw[af] at this;simp[<- this]
  rw[e1];rw[Bool.eq_iff_iff,all_eq_true,all_eq_true];constructor
  ·intro f b hb;obtain⟨i,hi,e⟩:=bD hb;have:=f i (mem_range.mpr hi);simpa[hi,e] using this
  ·intro f i hi;have hi':=mem_range.mp hi;have:=f bs[i] (getElem_mem hi');simpa[hi'] using this
def upTo (i:Int)(n:Nat):List V:=(List.range n).map fun(k:Nat)=>V.int (i+(k:Int))
end
section
abbrev fm (ns:List Int)(n:Nat):List Int:=firstMet (fun i=>ns.getD i 0) n
end
section
theorem nr:∀{ns:List Int} {us:List Value},cU (ns.map V.int) us->IntsAre us ns
 | [],_,.nil=>.nil
 | n::ns,_,.cons r t=>by
  obtain⟨k,rfl⟩:=(show ∃k,_=Value.int n k from r);exact .cons _ _ (nr t)
theorem t6:fX X (.builtin "len") (fun xs H Q=>∃(a:Addr) (S:Int->Bool) (n:Nat),xs=[.ref a]/\H a=some (.set S n)/\n<=100000/\Q (.int n) H):=by
 intro pins s σ H xs us Q I r h;obtain⟨a,S,n,rfl,hl,hz,q⟩:=h;obtain⟨u,rfl,rx⟩:=g6 r;cases rx;obtain⟨o,es,ep,t,h1,h2,h3,h4,h5,h6,h7,h8⟩:=(show s.heap.SetOf (intKind X.prog X.w) a S n from I.hok a _ hl);exact call_len_set h1 h2 h3 h7 (by lia) ⟨.int n,H,I.tok _,⟨_,by rw[h8]⟩,q⟩
structure BaseFn (K:Frag)(T:Addr)(m:Str)(f:Addr):Prop where
 ga:specialIn K (.ref T) "__getattribute__" = some (some (.builtin "type.__getattribute__"))
 rd:readsIn K T (.type "type")=true
 at_:findCls K (.ref T) (.type "type") m=some (.val (.ref f))
 kp:keepIn K (.ref f)=true
theorem sA {k:Nat}{E}{pos:Pos}{t}(B:BaseFn X.K T m f)(F:iX X.prog X.w X.K X.mg X.base CX k f fd ps sp)(hr:nX k X.A)
  (hg:Gl X x) (hm:X.mg x=some (.ref T)) (hb:eJ X.K fd ps []) (hx:ie CX X E) (ha:PA X (e::es) t)
  (hdb:(x==("__debug__" : Str))=false:=by decide) (he:starEach (e::es) X.env=(false,eval e X.env)::starEach es X.env:=by rfl) (hpl:(backTo pos (starEach es X.env)).any (·.1)=false:=by rfl)
  (ht:eval (.Call (.Attribute (.Name x p) m apos) (e::es) [] pos) X.env=(do
   let ov <- eval (.Name x p) X.env
   standAt apos.atName
   let(f,first) <- holding [ov] (getMethod ov m pl)
   callWith pos f first (backTo pos (starEach (e::es) X.env)) (backToKw pos (keywordEach [] X.env))):=by rfl) :
  PE X (.Call (.Attribute (.Name x p) m apos) (e::es) [] pos) (uB sp [] E t):=by
 intro pins s σ H Q I h;refine methodCall_KW (pl:=pl) (j7 I hg hm ?_ hdb) ht;refine PySem.W.method_cls I.kIn B.ga (PySem.W.cls_value I.kIn B.rd B.at_ rfl ?_);exact callWith_K (h₀:=X.base) I.ok.mod.kin B.kp (thn (ha pos pins { s with toks:=s.toks+1 } σ H _ (I.tok _) h) fun us s1 zz=>by obtain⟨vs,H1,I1,r,q⟩:=zz;exact⟨I1.kIn,mD F hr hb .nil hx I1 r (by simpa using q)⟩) he hpl
structure InsC (K:Frag)(C:Addr):Prop where
 cl:Cls K C
 ha:findIn K (.ref C) "__class__" = some (some (.builtin "object.__class__"))
 hn:specialIn K (.builtin "object.__class__") "__get__" = some (some (.builtin "getset_descriptor.__get__"))
 tk:takesIn K (.builtin "object.__class__")=some true
 hm:mroIn K C (.type "object")=some true
theorem kZ:fX X (.builtin "isinstance") (fun xs H Q=>∃(a C D dx:Addr) (fs:List (Str×V)) (b:Bool),xs=[.ref a,.ref D]/\H a=some (.ins C dx fs)/\InsC X.K C/\kitOne X.K (.ref C) (.ref D)=some b/\Q (.bl b) H):=by
 intro pins s σ H xs us Q I r h;obtain⟨a,C,D,dx,fs,b,rfl,hi,c,e,q⟩:=h;obtain⟨u,u',rfl,ru,ru'⟩:=mz r;cases(show u'=Value.ref D from ru');exact tw I ru (.ins hi c.cl c.ha c.hn c.tk c.hm) e fun tk=>⟨.bl b,H,I.tok tk,rfl,q⟩
end
end L2
namespace L2
open PySem PyProof PyProof.Rows
theorem oW:typeLookup (.type "dict") "__len__" = pure (some (.builtin "dict.__len__")):=by rw[typeLookup_type,builtinLookup_eq_fast];kernel_rfl
section
variable {KK:Type}[DecidableEq KK]{knd:KeyKind prog w KK}
theorem zQ {id}{args:Args}{b:Builtin}(ent:entryFor table id=some b)(pl:plainId id=true)(k:wpAny (model prog w) A.in1 (b args) (fun fin t=>match fin with|.done f=>R (.ok f) t|.again c=>c.quiet=true/\codeAny (model prog w) A c R t) (fun e t=>R (.error e) t) s):codeAny (model prog w) A (.builtin id args) R s:=
 codeAny_builtin ent (by rw[under_plainId pl];exact k)
theorem m9 {kvs:List (KK×Value)}{Q:List Value->Shared->Prop}(hh:A.handled=none)(hS:(d==sysModules)=false)(hm:s.heap.DictAt knd d kvs ep)(hn:kvs.length<=sizeLine)
  (q:∀h' tk acc,s.heap.objs.size<=h'.objs.size->(∀b o,s.heap.get? b=some o->h'.get? b=some o)->ItemsOf (fun i v=>∃k x,kvs[i]?=some (k,x)/\knd.is k v=true) acc kvs.length->Q acc.toList { s with heap:=h',toks:=tk }):wpAny (model prog w) A (collect (.ref d)) Q E s:=by
 have dlt:=hm.lt_size;refine show wpAny _ _ (runValue (.builtin "proto.collect" ⟨[.ref d],[]⟩) >>= _) _ _ s from ac (wpAny_runValue (zQ F.entry_proto_collect F.plain_proto_collect ?c0));refine ac (m:=newList []) (wpAny_newList (aG ⟨plainId_quiet F.plain_list_iadd _,zQ F.entry_list_iadd F.plain_list_iadd (show wpAny _ A.in1 (typeOf (.ref d) >>= _) _ _ _ from ?c2)⟩))
 have m1:=hm.push { cls:=.type "list",data:=.seq ([]:List Value).toArray };have g1:(s.heap.push { cls:=.type "list",data:=.seq ([]:List Value).toArray }).get? s.heap.objs.size=some { cls:=.type "list",data:=.seq ([]:List Value).toArray }:=aV _ rfl;have z1:(s.heap.push { cls:=.type "list",data:=.seq ([]:List Value).toArray }).objs.size=s.heap.objs.size+1:=by rw[cj]
 have k1:∀b o,s.heap.get? b=some o->(s.heap.push { cls:=.type "list",data:=.seq ([]:List Value).toArray }).get? b=some o:=fun b o e=>az _ e;generalize s.heap.push { cls:=.type "list",data:=.seq ([]:List Value).toArray }=h1 at *;refine ac (wpAny_typeOf (T:="dict") (s:={ s with heap:=h1 }) m1.dictOf.typeIs ?c3);have nd:s.heap.objs.size≠d:=fun e=>lt_irrefl _ (e▸dlt)
 have e1:listSameRef (.ref s.heap.objs.size) (.ref d)=false:=by simp[listSameRef,nd]
 rw[aA (by rw[e1];decide)];refine ac (wpAny_pyIter_dict (s:={ s with heap:=h1 }) hS m1 ?c4);dsimp only;have m2:=m1.push { cls:=.type "dict_keyiterator",data:=.fields #[.ref d,.int 0 0,.int kvs.length 0,.int ep 0] }
 have i2:(h1.push { cls:=.type "dict_keyiterator",data:=.fields #[.ref d,.int 0 0,.int kvs.length 0,.int ep 0] }).IsKeyIter h1.objs.size d 0 kvs.length ep:=⟨_,aV _ rfl,rfl,rfl⟩;have g2:=az { cls:=.type "dict_keyiterator",data:=.fields #[.ref d,.int 0 0,.int kvs.length 0,.int ep 0] } g1
 have k2:∀b o,s.heap.get? b=some o->(h1.push { cls:=.type "dict_keyiterator",data:=.fields #[.ref d,.int 0 0,.int kvs.length 0,.int ep 0] }).get? b=some o:=fun b o e=>az _ (k1 b o e);have n2:s.heap.objs.size≠h1.objs.size:=by rw[z1];exact aP (lt_succ_self _)
 have dI:d≠h1.objs.size:=by rw[z1];exact aP (lt_succ_of_lt dlt)
 generalize hI:h1.objs.size=It at *;generalize h1.push { cls:=.type "dict_keyiterator",data:=.fields #[.ref d,.int 0 0,.int kvs.length 0,.int ep 0] }=h2 at *;refine ac (bv ?c5);unfold listLengthHint;refine ac (wpAny_specialOf (T:="dict") (s:={ s with heap:=h2 }) m2.dictOf.typeIs oW ?c6)
 wp_delta
 refine ac (wpAny_isInstance (T:="dict") (s:={ s with heap:=h2 }) (b:=true) m2.dictOf.typeIs (by rw[isSubtype_type];kernel_rfl) ?c7);refine ac (wpAny_typeOf (T:="dict") (s:={ s with heap:=h2 }) m2.dictOf.typeIs ?c8);refine aG ?c9;rw[aH (by decide +kernel)];refine ac (wpAny_rule ?c10);refine ac ?c11
 refine ac (wpAny_updateSeq (s:={ s with heap:=h2 }) g2 rfl ?c12);have g3:=bR (mapSeq (·.push Value.none)) g2 rfl;refine wpAny_updateSeq (hz:=by seq_fits) g3 rfl ?c13;have g4:=bR (mapSeq (·.pop)) g3 rfl
 have o4:∀b o,b≠s.heap.objs.size->h2.get? b=some o->((h2.update s.heap.objs.size (mapSeq (·.push Value.none))).update s.heap.objs.size (mapSeq (·.pop))).get? b=some o:=fun b o n e=>
  (get?_update_other _ _ n.symm).trans ((get?_update_other _ _ n.symm).trans e)
 generalize (h2.update s.heap.objs.size (mapSeq (·.push Value.none))).update s.heap.objs.size (mapSeq (·.pop))=h4 at *;have W:=(Walks.dictKeys (prog:=prog) (w:=w) (A:=A.in1) (knd:=knd) hh It d dI kvs ep).toS
 have out:s.heap.objs.size∉[It,d]:=fun z=>by
  rcases bm.mp z with z|z
  ·exact n2 z
  ·exact nd (au.mp z)
 refine aG ⟨plainId_quiet F.plain_extend_loop _,codeAny_extend_loopS W hn s.heap.objs.size out _ kvs.length 0 _ _ _ rfl (zero_le _) ⟨i2.at fun o e=>o4 _ _ n2.symm e,m2.at' fun o e=>o4 _ _ nd.symm e⟩ g4 (ItemsOf.nil _) fun s' acc' c' mv gS it=>?c14⟩;refine show wpAny _ A (load s.heap.objs.size >>= _) _ _ s' from ac (wpAny_load gS ?c15)
 have kp:∀b o,s.heap.get? b=some o->s'.heap.get? b=some o:=fun b o e=>by
  have lt:=aZ e;have b1:=aP lt;refine mv.heap b o (fun z=>?_) (o4 b o b1 (k2 b o e));rcases bm.mp z with z|z
  ·exact b1 z
  ·rw[au.mp z,z1] at lt;exact aY lt (Nat.not_lt.mpr (le_succ _))
 rw[(Moved.eq_with mv)];exact aG (q s'.heap s'.toks acc' (dY (aZ gS)) kp it)
theorem ky {kvs:List (KK×Value)}(hh:A.handled=none)(hS:(d==sysModules)=false)(hm:s.heap.DictAt knd d kvs ep)(h64:kvs.length<64)
  (hi:∀acc:Array Value,ItemsOf (fun i v=>∃k x,kvs[i]?=some (k,x)/\knd.is k v=true) acc kvs.length->IntsAre acc.toList ns)
  (q:∀h' tk l (out:Array Value) e ns',(∀b o,s.heap.get? b=some o->h'.get? b=some o)->s.heap.objs.size<=l->h'.get? l=some (seqObj "list" out e)->IntsAre out.toList ns'->ns'.Perm ns->ns'.Pairwise (· <= ·)->Q (.ref l) { s with heap:=h',toks:=tk }):wpAny (model prog w) A (call (.builtin "sorted") [.ref d]) Q E s:=by
 refine Calls.call_function_entry kind_sorted plain_sorted entry_sorted (args_sorted1 _) (show wpAny _ _ (checkCount "sorted" 1 1 1 >>= fun _=>collect (.ref d) >>= _) _ _ s from ac (aG (ac ?c1)));refine m9 hh hS hm (by rw[show sizeLine=16777216 by decide];lia) fun h1 tk acc sz k1 it=>?c2;have len:acc.toList.length<64:=by rw[length_toList,it.1];exact h64
 refine ac (wpAny_newList ?c3);have g1:(h1.push (seqObj "list" acc.toList.toArray 0)).get? h1.objs.size=some (seqObj "list" acc.toList.toArray 0):=aV _ rfl;refine ac (bv (wpAny_call_entry slot_list_sort ⟨_,g1,rfl⟩ entry_list_sort (list_sort_tree g1 (hi acc it) len fun out ns' p1 p2 p3=>⟨_,rfl,?c4⟩) (args_list_sort _)))
 obtain⟨e,ge⟩:=sortedHeap_at (out:=out) g1;refine aG ⟨_,rfl,q _ tk h1.objs.size out e ns' (fun b o z=>?c5) ?c6 ge p1 p2 p3⟩
 case c5=>
  have lt:=aZ (k1 b o z);rw[sortedHeap_old (aP lt) (by rw[size_push'];exact lt_succ_of_lt lt)];exact az _ (k1 b o z)
 case c6=>exact sz
end
theorem oQ {us:List Value}(l:us.length=ns.length)(f:∀(i:Nat) (u:Value) (n:Int),us[i]?=some u->ns[i]?=some n->∃t,u=.int n t):IntsAre us ns:=by
 induction us generalizing ns with
 | nil=>
  rw[(List.length_eq_zero_iff.mp l.symm)];exact .nil
 | cons u us ih=>
  obtain⟨n,ns,rfl⟩:=List.exists_cons_of_length_eq_add_one (n:=us.length) l.symm;obtain⟨t,rfl⟩:=f 0 u n rfl rfl;exact .cons n t (ih (Nat.succ.inj l) fun i u' n' a b=>f (i+1) u' n' a b)
section
theorem gY (hh:X.A.handled=none):fX X (.builtin "sorted") (fun xs H Q=>∃(a:Addr) (kvs:List (Key×V)) (ns:List Int),xs=[.ref a]/\Rd H a (.dK kvs)/\kvs.map (·.1)=ns.map Sum.inl/\ns.length<64 /\
  ∀ns':List Int,ns'.Perm ns->ns'.Pairwise (· <= ·)->∀l,H l=none->Q (.ref l) (upd H l (.lst (ns'.map V.int)))):=by
 intro pins s σ H xs us Q I r h;obtain⟨a,kvs,ns,rfl,hk,ek,hl,q⟩:=h;obtain⟨u,rfl,ru⟩:=g6 r;cases ru;obtain⟨hz,hS,vs,rk,m⟩:=jB I.hok hk;obtain⟨ep,hm0⟩:=m.dictAt
 have e1:vs.map (·.1)=kvs.map (·.1):=by
  clear hz m hm0 q hk ek
  induction rk with
  | nil=>rfl
  | cons a b ih=>rw[bH,bH,ih,a.1]
 have lv:vs.length=ns.length:=by
  have:=bq List.length (e1.trans ek);simpa using this
 refine ky (ns:=ns) hh hS hm0 (by lia) (fun acc it=>?_) fun h' tk l out e ns' kp le g i1 i2 i3=>?_
 ·refine oQ (by rw[length_toList,it.1,lv]) fun i u n a b=>?_;obtain⟨k,x,e2,e3⟩:=it.2 i u (by simpa using a);have e4:(vs.map (·.1))[i]?=some k:=by rw[aB,e2];rfl
  rw[e1,ek,aB,b] at e4;cases e4;rw[eU] at e3;exact isInt_shape (show Value.isInt n u=true from e3)
 ·have rel:=gD i1;refine⟨.ref l,_,I.laid (a:=l) (o:=.lst (ns'.map V.int)) (t':=tk) kp le ⟨?_,out.toList,e,rel,by simpa using g⟩,rfl,q ns' i2 i3 l (I.hok.fresh le)⟩;have:=i2.length_eq;rw[af,show sizeLine=16777216 by decide]
  lia
end
section
end
section
end
section
end
section
variable {o:Expr}{to:TE}{t:TA}{id:String}{r:V->List V->Hp->VK->Prop}
end
section
end
section
theorem sF (hu:X.A.units+1<cLine):OpR X (compareOp .In) (fun x y H Q=>∃a o,y=.ref a/\pj H a x o/\Q (.bl o.isSome) H):=by
 intro pins s σ H x y v u Q I rx ry h;obtain⟨a,o,rfl,g,q⟩:=h;cases ry;exact Cv hu I g rx fun s' I'=>⟨.bl _,H,I',rfl,q⟩
end
end L2
namespace L2
open PySem
def jg (h:Heap)(z TI TO:Addr)(f0 f1:Value):Prop:=
 h.get? z=some { cls:=.type "zip",dict:=none,data:=.fields #[f0,f1,.bool false,.ref TI,.ref TO],slots:=#[] }
def xN (h:Heap)(f0:Value):Prop:=f0=.none\/∃(T:Nat) (o:Obj),f0=rawInt T/\h.get? T=some o
structure ZipS (h:Heap)(z TI TO i1 i2:Addr):Prop where
 z:∃f0 f1,jg h z TI TO f0 f1/\xN h f0
 ti:IsPair h TI (.ref i1) (.ref i2)
 to:∃a b,IsPair h TO a b
def Ag (B:List Addr)(h h':Heap):Prop:=h'.objs.size=h.objs.size/\∀c,c∉B->h'.get? c=h.get? c
theorem Ag.refl {B}:Ag B h h:=⟨rfl,fun _ _=>rfl⟩
theorem Ag.trans {B}(a:Ag B h h')(b:Ag B h' h2):Ag B h h2:=⟨b.1.trans a.1,fun c n=>(b.2 c n).trans (a.2 c n)⟩
theorem Ag.one {B i}(m:i∈B)(a:Heap.SameBut i h h'):Ag B h h':=⟨a.1,fun c n=>a.2 c fun e=>n (e▸m)⟩
theorem Ag.upd {B i}{f:Obj->Obj}(m:i∈B):Ag B h (h.update i f):=⟨size_update h i f,fun c n=>bL h c i f fun e=>n (e▸m)⟩
theorem jg.set0 {TI TO v}(o:jg h z TI TO f0 f1):jg (h.update z (mapFields (·.setIfInBounds 0 v))) z TI TO v f1:=bR _ o rfl
theorem jg.set1 {TI TO v}(o:jg h z TI TO f0 f1):jg (h.update z (mapFields (·.setIfInBounds 1 v))) z TI TO f0 v:=bR _ o rfl
theorem sC {a b v}(o:IsPair h T a b):IsPair (h.update T (mapSeq (·.setIfInBounds 0 v))) T v b:=bR _ o rfl
theorem sB {a b v}(o:IsPair h T a b):IsPair (h.update T (mapSeq (·.setIfInBounds 1 v))) T a v:=bR _ o rfl
section
variable {TI TO:Addr}
theorem wq {Q:Option Obj->Shared->Prop}(h:Q (s.heap.get? a) s):wpAny (model prog w) A (loadIfAlive a) Q E s:=fun _ _ _=>h
theorem p6 {Q:Bool->Shared->Prop}(o:jg s.heap z TI TO f0 f1)(fr:xN s.heap f0)(q1:f0=.none->Q true s)
  (q2:f0≠.none->∀f1',jg (s.heap.update z (mapFields (·.setIfInBounds 1 f1'))) z TI TO f0 f1'->Q false { s with heap:=s.heap.update z (mapFields (·.setIfInBounds 1 f1')) }) (q3:f0≠.none->f1=.bool true->Q false s):wpAny (model prog w) A (Builtin.SmallTypes.ownedTupleIsFree (.ref z)) Q E s:=by
 refine show wpAny _ _ (field (.ref z) 0 >>= _) _ _ s from ac (wpAny_field o rfl (i:=0) rfl ?_);rcases fr with rfl|⟨T,oT,rfl,hT⟩
 ·exact aG (q1 rfl)
 ·refine ac (wq ?_);have e:s.heap.get? ((T:Int).toNat)=some oT:=hT;rw[e];by_cases c:f1=.bool true
  ·subst c;exact ac (wpAny_field o rfl (i:=1) rfl (aG (q3 nofun rfl)))
  ·refine ac (wpAny_field o rfl (i:=1) rfl ?_);show wpAny _ _ (if (f1 != Value.bool true)=true then _ else _) _ _ s;rw[aH (bne_iff_ne.mpr c)];exact ac (wpAny_setField o rfl (by show 1<5;decide) (aG (q2 nofun _ o.set1)))
def Far (P1 P2:Nat->Value->Prop)(St1 St2:Nat->Heap->Prop)(i:Nat)(k:Nat)(x y:Value)(h:Heap):Prop:=
 (k=0/\St1 i h/\St2 i h)\/(k=1/\P1 i x/\St1 (i+1) h/\St2 i h)\/(k=2/\P1 i x/\P2 i y/\St1 (i+1) h/\St2 (i+1) h)
theorem dA {jt l}{k:Nat}{P:Nat->Value->Prop}{St:Nat->Heap->Prop}(D:Draws prog w A jt [jt,l] n P St)(a:jt≠it)(b:l≠it)(q:∀c,c≠it->h'.get? c=h.get? c)(x:St k h):St k h':=
 D.frame k h h' x fun c hc o ho=>by
  have:c≠it:=by
   intro e;rw[e] at hc;rcases bm.mp hc with q|q
   ·exact a q.symm
   ·exact b (au.mp q).symm
  rw[q c this];exact ho
theorem v_ (Z:ZipApart z TI TO i1 i2 l1 l2)(D1:Draws prog w A i1 [i1,l1] n1 P1 St1)(D2:Draws prog w A i2 [i2,l2] n2 P2 St2)(S:ZipS s.heap z TI TO i1 i2)
  (s1:St1 i s.heap) (s2:St2 i s.heap) (h1:i<n1) (h2:i<n2)
  (onQ:∀x y h' tk (T:Nat),P1 i x->P2 i y->ZipS h' z TI TO i1 i2->(∀f,jg s.heap z TI TO .none f->jg h' z TI TO (rawInt T) (.bool false))->St1 (i+1) h'->St2 (i+1) h'->IsPair h' T x y->s.heap.objs.size<=T->(∀c o,c≠z->c≠TO->c≠i1->c≠i2->s.heap.get? c=some o->h'.get? c=some o)->Q (.ref T) { s with heap:=h',toks:=tk }) :
  wpAny (model prog w) A (Builtin.«zip.__next__» ⟨[.ref z],[]⟩) (fun fl s'=>∃u,fl=.done (.ret u)/\Q u s') E s:=by
 obtain⟨f0,f1,o,fr⟩:=S.z;obtain⟨a,b,to⟩:=S.to;have nz1:=Z.i1z.symm;have nz2:=Z.i2z.symm
 -- the road that collects, from a heap that differs at z only
 have road:∀(hh:Heap) (g0 g1:Value) (f:Value->Option PySem.Fin×Array Value->Sem (ForInStep (Option PySem.Fin×Array Value))) (g:Value->Option PySem.Fin×Array Value->Sem (ForInStep (Option PySem.Fin×Array Value))),
   (∀it r,f it r=holding r.2.toList (nextOf it >>= fun x=>pure (some x)) >>= fun d=>match d with|some x=>pure (.yield (none,r.2.push x))|none=>g it r) ->
   (∀c,c≠z->hh.get? c=s.heap.get? c)->hh.objs.size=s.heap.objs.size->jg hh z TI TO g0 g1->xN s.heap g0->g0≠.none->(∀f,¬jg s.heap z TI TO .none f) ->
   wpAny (model prog w) A (forIn (#[Value.ref i1,Value.ref i2]:Array Value) ((none,#[]):Option PySem.Fin×Array Value) f) (fun r s'=>r.1=none/\wpAny (model prog w) A (newTuple r.2.toList >>= fun t=>ret t) (fun fl s'=>∃u,fl=.done (.ret u)/\Q u s') E s') E { s with heap:=hh }:=by
  intro hh g0 g1 f g hf off sz oz fz ng no;have t1:=dA D1 Z.i1z Z.l1z off s1;have t2:=dA D2 Z.i2z Z.l2z off s2
  refine PySem.MeetsSeq2.wpAny_forIn_array _ (fun rest r s'=>r.1=none/\∃h' tk x y k,s'={ s with heap:=h',toks:=tk }/\Ag [i1,i2] hh h'/\r.2=(#[x,y]:Array Value).take k/\rest=[Value.ref i1,Value.ref i2].drop k/\Far P1 P2 St1 St2 i k x y h') _ ?turn ?fin _ _ ⟨rfl,hh,s.toks,.none,.none,0,rfl,.refl,rfl,rfl,.inl ⟨rfl,t1,t2⟩⟩
  case turn=>
   rintro it rest ⟨r,its⟩ s' ⟨hr,h',tk,x,y,k,rfl,ag,ei,er,far⟩;rw[hf];rcases far with⟨rfl,c1,c2⟩|⟨rfl,p1,c1,c2⟩|⟨rfl,_⟩
   ·injection er with e1 e2;subst e1 e2;refine ac (bv (ac (D1.item i _ _ _ h1 c1 fun x' h3 tk' px d1 sb=>aG (aG ⟨rfl,h3,tk',x',y,1,rfl,ag.trans (Ag.one (by simp) sb),?_,rfl,.inr (.inl ⟨rfl,px,d1,dA D2 Z.i12.symm Z.l2i1 (fun c n=>sb.2 c n) c2⟩)⟩))));have:its = #[]:=ei;subst this;rfl
   ·injection er with e1 e2;subst e1 e2;refine ac (bv (ac (D2.item i _ _ _ h2 c2 fun y' h3 tk' py d2 sb=>aG (aG ⟨rfl,h3,tk',x,y',2,rfl,ag.trans (Ag.one (by simp) sb),?_,rfl,.inr (.inr ⟨rfl,p1,py,dA D1 Z.i12 Z.l1i2 (fun c n=>sb.2 c n) c1,d2⟩)⟩))));have:its = #[x]:=ei;subst this;rfl
   ·cases er
  case fin=>
   rintro⟨r,its⟩ s' ⟨hr,h',tk,x,y,k,rfl,ag,ei,er,far⟩;rcases far with⟨rfl,_⟩|⟨rfl,_⟩|⟨rfl,p1,p2,c1,c2⟩
   ·cases er
   ·cases er
   ·have:its = #[x,y]:=ei;subst this;refine⟨hr,ac (wpAny_newTuple (aG ⟨_,rfl,?_⟩))⟩;have keep:∀{c:Addr} {oc:Obj},h'.get? c=some oc->(h'.push { cls:=.type "tuple",data:=.seq #[x,y] }).get? c=some oc:=fun e=>az _ e;have at':∀{c:Addr},c≠i1->c≠i2->h'.get? c=hh.get? c:=fun a b=>ag.2 _ (by simp[a,b])
    have st:∀{it jt l:Addr} {n k:Nat} {P:Nat->Value->Prop} {St:Nat->Heap->Prop},Draws prog w A jt [jt,l] n P St->St k h'->St k (h'.push { cls:=.type "tuple",data:=.seq #[x,y] }):=fun D q=>D.frame _ _ _ q fun c _ oc ho=>keep ho
    refine onQ x y _ tk _ p1 p2 ⟨⟨g0,g1,keep ((at' nz1 nz2).trans oz),?_⟩,keep ((at' Z.TIi1 Z.TIi2).trans ((off _ Z.TIz).trans S.ti)),a,b,keep ((at' Z.TOi1 Z.TOi2).trans ((off _ Z.TOz).trans to))⟩ (fun f q=>aY q (no f)) (st (it:=i1) D1 c1) (st (it:=i1) D2 c2) (aV h' rfl) (by rw[ag.1,sz];exact aE _) (fun c oc n0 n3 n4 n5 e=>keep ((at' n4 n5).trans ((off c n0).trans e)))
    rcases fz with e|⟨T,oT,e,hT⟩
    ·exact aY e ng
    ·by_cases cz:T=z
     ·exact .inr ⟨T,_,e,by rw[cz];exact keep ((at' nz1 nz2).trans oz)⟩
     ·by_cases ca:T=i1
      ·obtain⟨o1,q1⟩:=D1.live _ _ c1;exact .inr ⟨T,_,e,by rw[ca];exact keep q1⟩
      ·by_cases cb:T=i2
       ·obtain⟨o1,q1⟩:=D2.live _ _ c2;exact .inr ⟨T,_,e,by rw[cb];exact keep q1⟩
       ·exact .inr ⟨T,oT,e,keep ((at' ca cb).trans ((off T cz).trans hT))⟩
 unfold Builtin.«zip.__next__»;refine ac (aG (ac (wpAny_field o rfl (i:=2) (x:=.bool false) rfl ?_)));refine ac (wpAny_field o rfl (i:=3) (x:=.ref TI) rfl ?_);refine ac (wpAny_seqItems S.ti rfl ?_);dsimp only;rw[aA (by simp)];refine ac (p6 o fr ?_ ?_ ?_)
 ·rintro rfl;rw[aH rfl];refine ac (wpAny_rule (ac (wpAny_field o rfl (i:=4) (x:=.ref TO) rfl ?_)));refine ac (wpAny_setField o rfl (by show 0<5;decide) ?_);have oe:=o.set0 (v:=.ellipsis);have off:∀c,c≠z->(s.heap.update z (mapFields (·.setIfInBounds 0 ellipsis))).get? c=s.heap.get? c:=fun c n=>bL _ c z _ n
  have sz:(s.heap.update z (mapFields (·.setIfInBounds 0 ellipsis))).objs.size=s.heap.objs.size:=size_update ..;have t2:=dA D2 Z.i2z Z.l2z off s2;generalize s.heap.update z (mapFields (·.setIfInBounds 0 ellipsis))=hh at *
  refine ac (wpAny_forIn_list _ (fun rest r s'=>r.1=none/\∃h' tk x y k,s'={ s with heap:=h',toks:=tk }/\Ag [i1,i2,TO] hh h'/\(∃a b,IsPair h' TO a b/\(0<k->a=x)/\(1<k->b=y))/\rest=[(Value.ref i1,0),(Value.ref i2,1)].drop k/\Far P1 P2 St1 St2 i k x y h') _ ?turn ?fin _ _ ⟨rfl,hh,s.toks,.none,.none,0,rfl,.refl,⟨a,b,(off _ Z.TOz).trans to,fun z=>aY z (by decide),fun z=>aY z (by decide)⟩,rfl,.inl ⟨rfl,(dA D1 Z.i1z Z.l1z off s1),t2⟩⟩)
  case turn=>
   rintro⟨it,k0⟩ rest ⟨r,_⟩ s' ⟨hr,h',tk,x,y,k,rfl,ag,⟨a',b',t,ea,eb⟩,er,far⟩;rcases far with⟨rfl,c1,c2⟩|⟨rfl,p1,c1,c2⟩|⟨rfl,_⟩
   ·injection er with e1 e2;injection e1 with e1 e3;subst e1 e2 e3;refine ac (wpAny_onRaise ?_);refine ac (D1.item i _ _ _ h1 c1 fun x' h3 tk' px d1 sb=>aG ?_);have u:=(sb.2 TO Z.TOi1).trans t
    refine ac (wpAny_seqItems u rfl (ac (wpAny_updateSeq u rfl (ac (wpAny_letGo (aG ⟨rfl,_,tk',x',.none,1,rfl,?_,⟨x',b',sC u,fun _=>rfl,fun z=>aY z (by decide)⟩,rfl,.inr (.inl ⟨rfl,px,?_,?_⟩)⟩))))))
    ·exact ag.trans ((Ag.one (by simp) sb).trans (Ag.upd (by simp)))
    ·exact dA D1 Z.TOi1.symm Z.l1TO (fun c n=>bL _ c TO _ n) d1
    ·exact dA D2 Z.TOi2.symm Z.l2TO (fun c n=>bL _ c TO _ n) (dA D2 Z.i12.symm Z.l2i1 (fun c n=>sb.2 c n) c2)
   ·injection er with e1 e2;injection e1 with e1 e3;subst e1 e2 e3;refine ac (wpAny_onRaise ?_);refine ac (D2.item i _ _ _ h2 c2 fun y' h3 tk' py d2 sb=>aG ?_);have u:=(sb.2 TO Z.TOi2).trans t
    refine ac (wpAny_seqItems u rfl (ac (wpAny_updateSeq u rfl (ac (wpAny_letGo (aG ⟨rfl,_,tk',x,y',2,rfl,?_,⟨a',y',sB u,fun _=>ea (by decide),fun _=>rfl⟩,rfl,.inr (.inr ⟨rfl,p1,py,?_,?_⟩)⟩))))))
    ·exact ag.trans ((Ag.one (by simp) sb).trans (Ag.upd (by simp)))
    ·exact dA D1 Z.TOi1.symm Z.l1TO (fun c n=>bL _ c TO _ n) (dA D1 Z.i12 Z.l1i2 (fun c n=>sb.2 c n) c1)
    ·exact dA D2 Z.TOi2.symm Z.l2TO (fun c n=>bL _ c TO _ n) d2
   ·cases er
  case fin=>
   rintro⟨r,_⟩ s' ⟨hr,h',tk,x,y,k,rfl,ag,⟨a',b',t,ea,eb⟩,er,far⟩;rcases far with⟨rfl,_⟩|⟨rfl,_⟩|⟨rfl,p1,p2,c1,c2⟩
   ·cases er
   ·cases er
   cases(show r=none from hr);rw[ea (by decide),eb (by decide)] at t;refine ac (wpAny_seqItems t rfl (ac (wpAny_newTuple ?_)));have oz:=(ag.2 z (by simp[nz1,nz2,Z.TOz.symm])).trans oe
   have zT:z≠h'.objs.size:=fun e=>by
    have l:=aZ oz;rw[<- e] at l;exact lt_irrefl z l
   have keep:∀{c:Addr} {oc:Obj},h'.get? c=some oc->(h'.push { cls:=.type "tuple",data:=.seq #[x,y] }).get? c=some oc:=fun e=>az _ e;have o3:jg (h'.push { cls:=.type "tuple",data:=.seq #[x,y] }) z TI TO .ellipsis f1:=keep oz;have o4:=o3.set0 (v:=rawInt h'.objs.size);have o5:=o4.set1 (v:=.bool false)
   refine ac (show wpAny _ _ (setField (.ref z) 0 (rawInt h'.objs.size) >>= fun _=>setField (.ref z) 1 (.bool false)) _ _ _ from ac (wpAny_setField o3 rfl (by show 0<5;decide) (wpAny_setField o4 rfl (by show 1<5;decide) (aG ⟨_,rfl,?_⟩))))
   have lift:∀{c:Addr} {oc:Obj},c≠z->h'.get? c=some oc->(((h'.push { cls:=.type "tuple",data:=.seq #[x,y] }).update z (mapFields (·.setIfInBounds 0 (rawInt h'.objs.size)))).update z (mapFields (·.setIfInBounds 1 (.bool false)))).get? c=some oc:=fun n e=>by
    rw[bL _ _ _ _ n,bL _ _ _ _ n];exact keep e
   have new:(((h'.push { cls:=.type "tuple",data:=.seq #[x,y] }).update z (mapFields (·.setIfInBounds 0 (rawInt h'.objs.size)))).update z (mapFields (·.setIfInBounds 1 (.bool false)))).get? h'.objs.size=some { cls:=.type "tuple",data:=.seq #[x,y] }:=by
    rw[bL _ _ _ _ zT.symm,bL _ _ _ _ zT.symm];exact aV h' rfl
   have at':∀{c:Addr},c≠i1->c≠i2->c≠TO->h'.get? c=hh.get? c:=fun a b d=>ag.2 _ (by simp[a,b,d]);refine onQ x y _ tk _ p1 p2 ⟨⟨_,_,o5,.inr ⟨_,_,rfl,new⟩⟩,lift Z.TIz ((at' Z.TIi1 Z.TIi2 Z.TITO).trans ((off _ Z.TIz).trans S.ti)),x,y,lift Z.TOz t⟩ (fun _ _=>o5) ?_ ?_ new (by rw[ag.1,sz];exact aE _) (fun c oc m0 m3 m4 m5 e=>lift m0 ((at' m4 m5 m3).trans ((off c m0).trans e)))
   ·exact D1.frame _ _ _ c1 fun c hc oc ho=>lift (by rcases bm.mp hc with rfl|hc;exact Z.i1z;rw[au.mp hc];exact Z.l1z) ho
   ·exact D2.frame _ _ _ c2 fun c hc oc ho=>lift (by rcases bm.mp hc with rfl|hc;exact Z.i2z;rw[au.mp hc];exact Z.l2z) ho
 ·intro ng f1' o';rw[aA (by decide)];refine ac (bI (road _ f0 f1' _ _ (fun it r=>rfl) (fun c n=>bL _ c z _ n) (size_update ..) o' fr ng fun f q=>ng ?_) ?_ fun _ _ z=>z)
  ·have e:=(show s.heap.get? z=_ from o).symm.trans (show s.heap.get? z=_ from q);injection e with e;injection e with _ _ e;injection e with e;exact bq (fun v:Array Value=>v.getD 0 .none) e
  ·rintro⟨r,its⟩ s' ⟨hr,q⟩;cases(show r=none from hr);exact q
 ·rintro ng rfl;rw[aA (by decide)];refine ac (bI (road s.heap f0 _ _ _ (fun it r=>rfl) (fun c n=>rfl) rfl o fr ng fun f q=>ng ?_) ?_ fun _ _ z=>z)
  ·have e:=(show s.heap.get? z=_ from o).symm.trans (show s.heap.get? z=_ from q);injection e with e;injection e with _ _ e;injection e with e;exact bq (fun v:Array Value=>v.getD 0 .none) e
  ·rintro⟨r,its⟩ s' ⟨hr,q⟩;cases(show r=none from hr);exact q
theorem xY {Q:Fin->Shared->Prop}(Z:ZipApart z TI TO i1 i2 l1 l2)(D1:Draws prog w A i1 [i1,l1] n1 P1 St1)(S:ZipS s.heap z TI TO i1 i2)(s1:St1 n1 s.heap)
  (onE:∀h' e,(∀c o,c≠z->c≠TO->c≠i1->c≠i2->s.heap.get? c=some o->h'.get? c=some o)->(∃o,h'.get? e=some o/\o.cls=.type "StopIteration")->E (.ref e) { s with heap:=h' }) :
  wpAny (model prog w) A (Builtin.«zip.__next__» { pos:=[.ref z],kw:=[] }) Q E s:=by
 obtain⟨f0,f1,o,fr⟩:=S.z;obtain⟨a,b,to⟩:=S.to
 -- the draw that ends, out of a heap that differs at z only
 have stop:∀(hh:Heap) (R:Option Value->Shared->Prop) (E':Value->Shared->Prop),(∀c,c≠z->hh.get? c=s.heap.get? c) ->
   (∀h' e,(∀c oc,c≠i1->hh.get? c=some oc->h'.get? c=some oc)->(∃oc,h'.get? e=some oc/\oc.cls=.type "StopIteration")->E' (.ref e) { s with heap:=h' }) ->
   wpAny (model prog w) A (nextOf (.ref i1) >>= fun y=>pure (some y)) R E' { s with heap:=hh }:=fun hh R E' off k=>
  ac (D1.done _ _ _ (dA D1 Z.i1z Z.l1z off s1) fun h' e x t=>k h' e (fun c oc n q=>x c oc n q) t)
 have road:∀(hh:Heap) (f:Value->Option PySem.Fin×Array Value->Sem (ForInStep (Option PySem.Fin×Array Value))) (g:Value->Option PySem.Fin×Array Value->Sem (ForInStep (Option PySem.Fin×Array Value))) (R:Option PySem.Fin×Array Value->Shared->Prop),
   (∀it r,f it r=holding r.2.toList (nextOf it >>= fun x=>pure (some x)) >>= fun d=>match d with|some x=>pure (.yield (none,r.2.push x))|none=>g it r)->(∀c,c≠z->hh.get? c=s.heap.get? c) ->
   wpAny (model prog w) A (forIn (#[Value.ref i1,Value.ref i2]:Array Value) ((none,#[]):Option PySem.Fin×Array Value) f) R E { s with heap:=hh }:=by
  intro hh f g R hf off;refine PySem.MeetsSeq2.wpAny_forIn_array _ (fun rest r s'=>rest=[Value.ref i1,Value.ref i2]/\s'={ s with heap:=hh }) _ ?_ ?_ _ _ ⟨rfl,rfl⟩
  ·rintro it rest r s' ⟨er,rfl⟩;injection er with e1 e2;subst e1;rw[hf];exact ac (bv (stop hh _ _ off fun h' e keep t=>onE h' e (fun c oc m0 m3 m4 m5 q=>keep c oc m4 ((off c m0).trans q)) t))
  ·rintro r s' ⟨er,_⟩;cases er
 unfold Builtin.«zip.__next__»;refine ac (aG (ac (wpAny_field o rfl (i:=2) (x:=.bool false) rfl ?_)));refine ac (wpAny_field o rfl (i:=3) (x:=.ref TI) rfl ?_);refine ac (wpAny_seqItems S.ti rfl ?_);dsimp only;rw[aA (by simp)];refine ac (p6 o fr ?_ ?_ ?_)
 ·rintro rfl;rw[aH rfl];refine ac (wpAny_rule (ac (wpAny_field o rfl (i:=4) (x:=.ref TO) rfl ?_)));refine ac (wpAny_setField o rfl (by show 0<5;decide) ?_);have oe:=o.set0 (v:=.ellipsis);have off:∀c,c≠z->(s.heap.update z (mapFields (·.setIfInBounds 0 ellipsis))).get? c=s.heap.get? c:=fun c n=>bL _ c z _ n
  generalize s.heap.update z (mapFields (·.setIfInBounds 0 ellipsis))=hh at *;refine ac (wpAny_forIn_list _ (fun rest r s'=>rest=[(Value.ref i1,0),(Value.ref i2,1)]/\s'={ s with heap:=hh }) _ ?_ ?_ _ _ ⟨rfl,rfl⟩)
  ·rintro⟨it,k⟩ rest r s' ⟨er,rfl⟩;injection er with e1 e2;injection e1 with e1 e3;subst e1;refine ac (wpAny_onRaise ?_);refine stop hh _ _ off fun h' e keep zz=>?_;obtain⟨oc,q1,q2⟩:=zz;have oz:=keep z _ Z.i1z.symm oe;refine wpAny_setField oz rfl (by show 0<5;decide) (onE _ e (fun c o' m0 m3 m4 m5 q=>?_) ?_)
   ·rw[bL _ _ _ _ m0];exact keep c o' m4 ((off c m0).trans q)
   ·have ne:e≠z:=fun c=>by
     rw[c,show h'.get? z=_ from oz] at q1;cases q1;injection q2 with q2;exact aY q2 (by decide)
    exact⟨oc,by rw[bL _ _ _ _ ne];exact q1,q2⟩
  ·rintro r s' ⟨er,_⟩;cases er
 ·intro ng f1' o';rw[aA (by decide)];exact ac (road _ _ _ _ (fun it r=>rfl) fun c n=>bL _ c z _ n)
 ·rintro ng rfl;rw[aA (by decide)];exact ac (road s.heap _ _ _ (fun it r=>rfl) fun c n=>rfl)
end
def SeqAt (tp:Bool)(h:Heap)(l:Addr)(xs:Array Value):Prop:=if tp then h.IsTuple l xs else h.IsList l xs
def gj (tp:Bool)(h:Heap)(it l:Addr)(k:Nat):Prop:=if tp then h.IsTupleIter it l k else h.IsListIter it l k
theorem AV {a b c d e:Obj}(fa:a.isFreed=false)(fb:b.isFreed=false)(fc:c.isFreed=false)(fd:d.isFreed=false)(fe:e.isFreed=false) :
  ∃h',h'=((((h.push a).push b).push c).push d).push e/\h'.objs.size=h.objs.size+5/\h'.get? h.objs.size=some a/\h'.get? (h.objs.size+1)=some b/\h'.get? (h.objs.size+2)=some c/\h'.get? (h.objs.size+3)=some d/\h'.get? (h.objs.size+4)=some e/\∀x o,h.get? x=some o->h'.get? x=some o:=by
 have up:∀{g:Heap} {x:Addr} {o p:Obj},g.get? x=some o->(g.push p).get? x=some o:=fun q=>az _ q;have sz:∀{g:Heap} {p:Obj},(g.push p).objs.size=g.objs.size+1:=fun {g p}=>cj ..
 refine⟨_,rfl,by rw[sz,sz,sz,sz,sz],up (up (up (up (get?_push_at rfl fa)))),up (up (up (get?_push_at (by rw[sz]) fb))),up (up (get?_push_at (by rw[sz,sz]) fc)),up (get?_push_at (by rw[sz,sz,sz]) fd),get?_push_at (by rw[sz,sz,sz,sz]) fe,fun x o q=>up (up (up (up (up q))))⟩
section
theorem xf (l1 l2:Addr)(xs ys:Array Value):Meets (Builtin.«zip.__new__» ⟨[.type "zip",.ref l1,.ref l2],[]⟩) (fun _ R s=>s.heap.IsTuple l1 xs/\s.heap.IsTuple l2 ys /\
  ∀h',h'.objs.size=s.heap.objs.size+5->h'.get? s.heap.objs.size=some { cls:=.type "tuple_iterator",data:=.fields #[.ref l1,.int 0 0] }->h'.get? (s.heap.objs.size+1)=some { cls:=.type "tuple_iterator",data:=.fields #[.ref l2,.int 0 0] }->IsPair h' (s.heap.objs.size+2) (.ref s.heap.objs.size) (.ref (s.heap.objs.size+1))->IsPair h' (s.heap.objs.size+3) .none .none ->
   jg h' (s.heap.objs.size+4) (s.heap.objs.size+2) (s.heap.objs.size+3) .none (.bool false)->(∀x o,s.heap.get? x=some o->h'.get? x=some o)->R (.ok (.ret (.ref (s.heap.objs.size+4)))) { s with heap:=h' }):=
 Meets.of_wp fun prog w A R s ⟨p1,p2,k⟩=>by
  have sb:=sub_zip;have it1:∀{A':Around} {Q:Value->Shared->Prop} {E:Value->Shared->Prop},Q (.ref s.heap.objs.size) { s with heap:=s.heap.push { cls:=.type "tuple_iterator",data:=.fields #[.ref l1,.int 0 0] } }->wpAny (model prog w) A' (pyIter (.ref l1)) Q E s:=fun q=>wpAny_pyIter_tuple p1 q
  have it2:∀{A':Around} {Q:Value->Shared->Prop} {E:Value->Shared->Prop},Q (.ref (s.heap.push { cls:=.type "tuple_iterator",data:=.fields #[.ref l1,.int 0 0] }).objs.size) { s with heap:=(s.heap.push { cls:=.type "tuple_iterator",data:=.fields #[.ref l1,.int 0 0] }).push { cls:=.type "tuple_iterator",data:=.fields #[.ref l2,.int 0 0] } }->wpAny (model prog w) A' (pyIter (.ref l2)) Q E { s with heap:=s.heap.push { cls:=.type "tuple_iterator",data:=.fields #[.ref l1,.int 0 0] } }:=fun q=>wpAny_pyIter_tuple (Heap.IsTuple.push p2 _) q
  wp_walk using it1,it2
  obtain⟨h',e,sz,g1,g2,g3,g4,g5,kp⟩:=AV (h:=s.heap) (a:={ cls:=.type "tuple_iterator",data:=.fields #[.ref l1,.int 0 0] }) (b:={ cls:=.type "tuple_iterator",data:=.fields #[.ref l2,.int 0 0] }) (c:={ cls:=.type "tuple",data:=.seq #[.ref s.heap.objs.size,.ref (s.heap.objs.size+1)] }) (d:={ cls:=.type "tuple",data:=.seq #[.none,.none] }) (e:={ cls:=.type "zip",data:=.fields #[.none,.bool false,.bool false,.ref (s.heap.objs.size+2),.ref (s.heap.objs.size+3)] }) rfl rfl rfl rfl rfl
  have r:=k h' sz g1 g2 g3 g4 g5 kp;rw[e] at r;simp only[cj] at r ⊢;exact⟨_,rfl,r⟩
theorem rH {xs ys}(p1:SeqAt tp s.heap l1 xs)(p2:SeqAt tp s.heap l2 ys)
  (h:∀h',ZipS h' (s.heap.objs.size+4) (s.heap.objs.size+2) (s.heap.objs.size+3) s.heap.objs.size (s.heap.objs.size+1)->jg h' (s.heap.objs.size+4) (s.heap.objs.size+2) (s.heap.objs.size+3) .none (.bool false)->gj tp h' s.heap.objs.size l1 0->gj tp h' (s.heap.objs.size+1) l2 0->h'.objs.size=s.heap.objs.size+5 ->
   (∀b u,s.heap.get? b=some u->h'.get? b=some u)->Q (.ref (s.heap.objs.size+4)) { s with heap:=h' }) :
  wpAny (model prog w) A (call (type "zip") [Value.ref l1,Value.ref l2]) Q E s:=by
 cases tp with
 | false=>exact call_zip_2 p1 p2 fun h' a b c d e f g=>h h' ⟨⟨_,_,a,.inl rfl⟩,b,_,_,c⟩ a d e f g
 | true=>
  exact callType_new F.called_zip (by decide) (F.typeCall_zip_2 _ _) (F.newCall_zip_2 _ _) (fun obj=>F.args_object_init_3 obj _ _) F.entry_zip_new (xf l1 l2 xs ys) ⟨p1,p2,fun h' sz g1 g2 g3 g4 g5 kp=>⟨⟨_,g5,rfl⟩,h h' ⟨⟨_,_,g5,.inl rfl⟩,g3,_,_,g4⟩ g5 ⟨_,g1,rfl,rfl⟩ ⟨_,g2,rfl,rfl⟩ sz kp⟩⟩
variable {TI TO:Addr}
theorem pp (S:ZipS s.heap z TI TO i1 i2):s.TypeIs (.ref z) "zip":=by
 obtain⟨_,_,o,_⟩:=S.z;exact⟨_,o,rfl⟩
theorem rF {Q:Option Value->Shared->Prop}(Z:ZipApart z TI TO i1 i2 l1 l2)(D1:Draws prog w A.in1 i1 [i1,l1] n1 P1 St1)(D2:Draws prog w A.in1 i2 [i2,l2] n2 P2 St2)(S:ZipS s.heap z TI TO i1 i2)
  (s1:St1 i s.heap) (s2:St2 i s.heap) (h1:i<n1) (h2:i<n2)
  (onQ:∀x y h' tk (T:Nat),P1 i x->P2 i y->ZipS h' z TI TO i1 i2->(∀f,jg s.heap z TI TO .none f->jg h' z TI TO (rawInt T) (.bool false))->St1 (i+1) h'->St2 (i+1) h'->IsPair h' T x y->s.heap.objs.size<=T->(∀c o,c≠z->c≠TO->c≠i1->c≠i2->s.heap.get? c=some o->h'.get? c=some o)->Q (some (.ref T)) { s with heap:=h',toks:=tk }) :
  wpAny (model prog w) A (pyNext (Value.ref z)) Q E s:=by
 have step:∀{Q':Option Value->Shared->Prop} {E':Value->Shared->Prop},(∀v s',(∃(x y:Value) (h':Heap) (tk:Nat) (T:Nat),v=.ref T/\s'={ s with heap:=h',toks:=tk }/\P1 i x/\P2 i y/\ZipS h' z TI TO i1 i2/\(∀f,jg s.heap z TI TO .none f->jg h' z TI TO (rawInt T) (.bool false))/\St1 (i+1) h'/\St2 (i+1) h'/\IsPair h' T x y/\s.heap.objs.size<=T/\(∀c o,c≠z->c≠TO->c≠i1->c≠i2->s.heap.get? c=some o->h'.get? c=some o))->Q' (some v) s') ->
   wpAny (model prog w) A (callSpecial? (.ref z) "__next__") Q' E' s:=fun {Q' E'} k=>
  wpAny_callSpecial?_slot (pp S) F.slot_zip_next (wpAny_call_entry F.slot_zip_next (pp S) F.entry_zip_next (v_ Z D1 D2 S s1 s2 h1 h2 fun x y h' tk T a1 a2 a3 a4 a5 a6 a7 a8 a9=>k _ _ ⟨x,y,h',tk,T,rfl,rfl,a1,a2,a3,a4,a5,a6,a7,a8,a9⟩) (F.args_zip_next_1 _))
 refine show wpAny _ _ ((callSpecial? (.ref z) "__next__").attempt >>= _) _ _ s from ac (wpAny_attempt (step ?_));rintro v s' ⟨x,y,h',tk,T,rfl,rfl,a1,a2,a3,a4,a5,a6,a7,a8,a9⟩;exact aG (onQ x y h' tk T a1 a2 a3 a4 a5 a6 a7 a8 a9)
theorem kB {Q:Option Value->Shared->Prop}(Z:ZipApart z TI TO i1 i2 l1 l2)(D1:Draws prog w A.in1 i1 [i1,l1] n1 P1 St1)(S:ZipS s.heap z TI TO i1 i2)(s1:St1 n1 s.heap)
  (onQ:∀h',(∀c o,c≠z->c≠TO->c≠i1->c≠i2->s.heap.get? c=some o->h'.get? c=some o)->Q none { s with heap:=h' }):wpAny (model prog w) A (pyNext (.ref z)) Q E s:=by
 have step:∀{Q':Option Value->Shared->Prop} {E':Value->Shared->Prop},(∀h' e,(∀c o,c≠z->c≠TO->c≠i1->c≠i2->s.heap.get? c=some o->h'.get? c=some o)->(∃o,h'.get? e=some o/\o.cls=.type "StopIteration")->E' (.ref e) { s with heap:=h' })->wpAny (model prog w) A (callSpecial? (.ref z) "__next__") Q' E' s:=fun {Q' E'} k=>
  wpAny_callSpecial?_slot (pp S) F.slot_zip_next (wpAny_call_entry F.slot_zip_next (pp S) F.entry_zip_next (xY Z D1 S s1 k) (F.args_zip_next_1 _))
 exact show wpAny _ _ ((callSpecial? (.ref z) "__next__").attempt >>= _) _ _ s from ac (wpAny_attempt (step fun h' e keep there=>ac (wpAny_isInstance (T:="StopIteration") (b:=true) there isSubtype_stop (aG (onQ h' keep)))))
end
end L2
namespace L2
open PySem PyProof PyProof.Rows
section
variable {KK:Type}[DecidableEq KK]{knd:KeyKind prog w KK}{R:Result->Shared->Prop}
variable {TI TO:Addr}
end
section
variable {KK:Type}[DecidableEq KK]{knd:KeyKind prog w KK}
theorem iP (tp:Bool)(hh:A.handled=none)(it l:Addr)(hne:l≠it)(xs:Array Value):Draws prog w A it [it,l] xs.size (fun i v=>xs[i]?=some v) (fun i h=>gj tp h it l i/\SeqAt tp h l xs):=by
 cases tp with
 | false=>exact Draws.list hh it l hne xs
 | true=>exact zV hh it l hne xs
end
theorem i6 {α β:Type}{F:α->β->Prop}:∀{l₁:List α} {l₂:List β} {i:Nat} {a:α} {b:β},Paired F l₁ l₂->l₁[i]?=some a->l₂[i]?=some b->F a b
 | _,_,0,_,_,.cons r _,ha,hb=>by cases ha;cases hb;exact r
 | _,_,i+1,_,_,.cons _ t,ha,hb=>i6 (i:=i) t (by simpa using ha) (by simpa using hb)
section
variable {a b:Expr}{t:TA}{pos:Pos}
theorem Inv.seqAt {σ:List (Option V)}{l}(I:Inv X pins σ H s)(h:SqB X.K tp H l xs):∃its:List Value,cU xs its/\SeqAt tp s.heap l its.toArray/\xs.length<=sizeLine:=by
 cases tp with
 | true=>
  obtain⟨its,r,⟨o,e1,e2,n,e3⟩,z⟩:=I.tuple h;exact⟨its,r,⟨o,e1,e2,n,e3⟩,z⟩
 | false=>
  obtain⟨its,r,⟨o,n,e1,e2,e3,e4⟩,z⟩:=I.list h;exact⟨its,r,⟨o,e1,e2,n,e4⟩,z⟩
theorem SeqAt.lt {l xs}(q:SeqAt tp h l xs):l<h.objs.size:=by
 cases tp with
 | true=>obtain⟨o,e,_⟩:=q;exact aZ e
 | false=>obtain⟨o,e,_⟩:=q;exact aZ e
theorem SeqAt.keep {l xs}(q:SeqAt tp h l xs)(k:∀c o,h.get? c=some o->h'.get? c=some o):SeqAt tp h' l xs:=by
 cases tp with
 | true=>obtain⟨o,e,r⟩:=q;exact⟨o,k _ _ e,r⟩
 | false=>obtain⟨o,e,r⟩:=q;exact⟨o,k _ _ e,r⟩
end
section
end
theorem Inv.turnN {t':Nat}(ch:List Addr)(I:Inv X pins σ H s)(hf:∀b∈ch,nZ X pins H b)(k:∀b o,b∉ch->s.heap.get? b=some o->h'.get? b=some o):Inv X pins σ H { s with heap:=h',toks:=t' }:=by
 have nH:∀b u,H b=some u->b∉ch:=fun b u q z=>by rw[(hf b z).1] at q;cases q
 refine I.step (g':=s.gens) (d':=s.drawn) (ch:=ch) (fun b hb=>?_) (fun b o _ _ hc q _=>k b o hc q) (fun b o _ _ hc q _=>⟨o.slots,k b o hc q⟩)
  (fun _ _ _ _ n=>n) (fun b o hc q=>⟨o,k b o hc q⟩) (fun _ _ e=>e) (fun _ _ _ e=>e) (fun b ps e=>⟨#[],by rw[e];simp⟩) (fun m hm=>?_) (fun b u q=>?_) I.bare
 ·obtain⟨_,f1,_,f3,f4,f5⟩:=hf b hb;exact⟨f3,f1,f4,f5⟩
 ·obtain⟨o,es,ep,ho,r⟩:=hm;exact⟨o,es,ep,k _ o (fun z=>(hf _ z).2.1 rfl) ho,r⟩
 ·refine(I.hok b u q).stay (fun c v hc z=>?_) (fun _ z=>z) fun _ _ z=>z;rcases hc with rfl|hc
  ·exact k _ v (nH _ _ q) z
  ·exact k _ v (nH _ _ hc) z
theorem Inv.turnT {t':Nat}{us:List Value}(ch:List Addr)(I:Inv X pins σ H s)(hf:∀b∈ch,nZ X pins H b)(k:∀b o,b∉ch->s.heap.get? b=some o->h'.get? b=some o)
  (lT:s.heap.objs.size<=T) (r:cU xs us) (hz:xs.length<=sizeLine) (hT:h'.get? T=some { cls:=.type "tuple",data:=.seq us.toArray }):Inv X pins σ (upd H T (.tup xs)) { s with heap:=h',toks:=t' }:=by
 have fT:=I.hok.fresh lT;have nT:∀b o,s.heap.get? b=some o->b≠T:=fun b o q=>aP (ba (aZ q) lT);have nH:∀b u,H b=some u->b∉ch:=fun b u q z=>by rw[(hf b z).1] at q;cases q
 refine I.step (g':=s.gens) (d':=s.drawn) (ch:=ch) (fun b hb=>?_) (fun b o _ _ hc q _=>k b o hc q) (fun b o _ _ hc q _=>⟨o.slots,k b o hc q⟩)
  (fun b o _ q n=>by rw[ak (nT b o q)];exact n) (fun b o hc q=>⟨o,k b o hc q⟩) (fun b ys q=>by rw[ak (ah q fT)];exact q) (fun b o u q=>by rw[ak (ah q fT)];exact q)
  (fun b ps q=>⟨#[],by rw[ak (ah q fT),q];simp⟩) (fun m hm=>?_) (fun b u q=>?_) I.bare
 ·obtain⟨_,f1,_,f3,f4,f5⟩:=hf b hb;exact⟨f3,f1,f4,f5⟩
 ·obtain⟨o,es,ep,ho,r⟩:=hm;exact⟨o,es,ep,k _ o (fun z=>(hf _ z).2.1 rfl) ho,r⟩
 ·by_cases hb:b=T
  ·subst hb;rw[ae] at q;cases q;exact⟨hz,us,r,⟨_,hT,rfl,_,rfl⟩,fun o z=>by rw[hT] at z;cases z;rfl⟩
  ·rw[ak hb] at q;refine(I.hok b u q).stay (fun c v hc z=>?_) (fun c z=>by rw[ak (ah z fT)];exact z) fun c ys z=>by rw[ak (ah z fT)];exact z
   rcases hc with rfl|hc
   ·exact k _ v (nH _ _ q) z
   ·exact k _ v (nH _ _ hc) z
def Itz (K:Frag)(tp:Bool)(a b:Addr):It:=
 ⟨fun i H=>∃xs ys x y,SqB K tp H a xs/\SqB K tp H b ys/\xs[i]?=some x/\ys[i]?=some y,fun i H v H'=>∃t x y,v=.ref t/\H t=none/\(∀xs ys,SqB K tp H a xs->SqB K tp H b ys->xs[i]?=some x/\ys[i]?=some y)/\H'=upd H t (.tup [x,y]),
  fun i H=>∃xs,SqB K tp H a xs/\xs.length=i⟩
theorem Inv.seqB_inj (I:Inv X pins σ H s)(h:SqB X.K tp H a xs)(h':SqB X.K tp H a ys):xs=ys:=by
 cases tp with
 | true=>exact I.tuple_inj h h'
 | false=>exact I.list_inj h h'
theorem rG {TI TO}(gz:jg s.heap z TI TO f0 (.bool false))(h:Q (.ref z) s):wpAny (model prog w) A (pyIter (.ref z)) Q E s:=wpAny_pyIter_zip gz h
theorem zP {x1}{pos:Pos}{TI TO:Addr}{Q:Unit->Shared->Prop}(gz:jg s.heap z TI TO (rawInt T) (.bool false))
  (q:∀h',jg h' z TI TO .none (.bool false)->Heap.SameBut z s.heap h'->Q () { s with heap:=h' }):wpAny (model prog w) A (letOwnedTupleGo (.Tuple elts x1 pos) (.ref z) (.ref T)) Q E s:=wpAny_letOwnedTupleGo_zip gz q
theorem uw (tp:Bool)(a b z TI TO i1 i2:Addr)(Z:ZipApart z TI TO i1 i2 a b) :
  Turn P w K (.Tuple elts kk tpos) (Itz K tp a b) [z,TI,TO,i1,i2] z (fun i h=>jg h z TI TO .none (.bool false)/\IsPair h TI (.ref i1) (.ref i2)/\(∃u v,IsPair h TO u v)/\gj tp h i1 a i/\gj tp h i2 b i) where
 mem:=by simp
 obj:=fun i h st c hc=>by
  obtain⟨gz,gI,⟨u,v,gO⟩,h1,h2⟩:=st
  have it:∀{j l:Addr},gj tp h j l i->∃o,h.get? j=some o/\∀v,o.data≠.cell v:=fun {j l} q=>by
   cases tp with
   | true=>obtain⟨o,e,c,d⟩:=(show h.IsTupleIter j l i from q);exact⟨o,e,fun v z=>by rw[d] at z;cases z⟩
   | false=>obtain⟨o,e,c,d⟩:=(show h.IsListIter j l i from q);exact⟨o,e,fun v z=>by rw[d] at z;cases z⟩
  simp at hc;rcases hc with rfl|rfl|rfl|rfl|rfl
  ·exact⟨_,gz,fun v z=>by have z':Data.fields _=Data.cell v:=z;cases z'⟩
  ·exact⟨_,gI,fun v z=>by have z':Data.seq _ _=Data.cell v:=z;cases z'⟩
  ·exact⟨_,gO,fun v z=>by have z':Data.seq _ _=Data.cell v:=z;cases z'⟩
  ·exact it h1
  ·exact it h2
 keep:=fun i h h' st k=>by
  obtain⟨gz,gI,⟨u,v,gO⟩,h1,h2⟩:=st
  have it:∀{j l:Addr},j∈[z,TI,TO,i1,i2]->gj tp h j l i->gj tp h' j l i:=fun {j l} m q=>by
   cases tp with
   | true=>exact(show h.IsTupleIter j l i from q).at fun o e=>k j m o e
   | false=>exact(show h.IsListIter j l i from q).at fun o e=>k j m o e
  exact⟨k z (by simp) _ gz,k TI (by simp) _ gI,⟨u,v,k TO (by simp) _ gO⟩,it (by simp) h1,it (by simp) h2⟩
 item:=by
  intro X hP hw hK hc i pins s σ H E I hf st hg;subst hP hw hK;obtain⟨gz,gI,⟨u,v,gO⟩,h1,h2⟩:=st;obtain⟨xs,ys,x,y,qx,qy,ex,ey⟩:=hg;obtain⟨us,rx,px,zx⟩:=I.seqAt qx;obtain⟨vs,ry,py,zy⟩:=I.seqAt qy;obtain⟨u1,hu1,ru1⟩:=rx.get ex;obtain⟨u2,hu2,ru2⟩:=ry.get ey;have lx:i<us.toArray.size:=by rw[aJ,<- rx.length];exact(aq.mp ex).1
  have ly:i<vs.toArray.size:=by rw[aJ,<- ry.length];exact(aq.mp ey).1
  have hh:X.A.in1.handled=none:=I.ok.hd hc;refine rF Z (iP tp hh i1 a Z.l1i1 us.toArray) (iP tp hh i2 b Z.l2i2 vs.toArray) ⟨⟨_,_,gz,.inl rfl⟩,gI,u,v,gO⟩ ⟨h1,px⟩ ⟨h2,py⟩ lx ly fun x' y' h' tk T e1 e2 S' zo t1 t2 hT lT kp=>⟨_,rfl,?_⟩
  have E1:x'=u1:=by
   have:us[i]?=some x':=by simpa using e1
   rw[hu1] at this;injection this with this;exact this.symm
  have E2:y'=u2:=by
   have:vs[i]?=some y':=by simpa using e2
   rw[hu2] at this;injection this with this;exact this.symm
  subst E1 E2;refine zP (s:={ s with heap:=h',toks:=tk }) (zo _ gz) fun h2' gz2 sb=>?_;replace sb:Heap.SameBut z h' h2':=sb;have nz:∀{c:Addr} {o:Obj},s.heap.get? c=some o->T≠c:=fun {c o} e=>ne_of_gt (ba (aZ e) lT)
  have J:Inv X pins σ (upd H T (.tup [x,y])) { s with heap:=h2',toks:=tk }:=by
   refine I.turnT (xs:=[x,y]) (us:=[x',y']) [z,TI,TO,i1,i2] hf (fun c o hc e=>?_) lT (.cons ru1 (.cons ru2 .nil)) (by show 2<=sizeLine;decide) (sb.extBut _ _ (nz gz) hT);simp at hc;exact sb.extBut _ _ hc.1 (kp c o hc.1 hc.2.2.1 hc.2.2.2.1 hc.2.2.2.2 e)
  have it:∀{j l:Addr},j≠z->gj tp h' j l (i+1)->gj tp h2' j l (i+1):=fun {j l} m q=>by
   cases tp with
   | true=>exact(show h'.IsTupleIter j l (i+1) from q).extBut sb.extBut m
   | false=>exact(show h'.IsListIter j l (i+1) from q).extBut sb.extBut m
  obtain⟨_,gI',ua,ub,gO'⟩:=S';refine⟨.ref T,_,J,rfl,⟨T,x,y,rfl,I.hok.fresh lT,fun xs' ys' qx' qy'=>?_,rfl⟩,⟨gz2,sb.extBut _ _ Z.TIz gI',⟨ua,ub,sb.extBut _ _ Z.TOz gO'⟩,it Z.i1z t1.1,it Z.i2z t2.1⟩,fun c hc=>?_⟩
  ·rw[I.seqB_inj qx' qx,I.seqB_inj qy' qy];exact⟨ex,ey⟩
  ·have lt:∀{tpp:Bool} {j l:Addr},gj tpp s.heap j l i->T≠j:=fun {tpp j l} q=>by
    cases tpp with
    | true=>obtain⟨o,e,_⟩:=(show s.heap.IsTupleIter j l i from q);exact nz e
    | false=>obtain⟨o,e,_⟩:=(show s.heap.IsListIter j l i from q);exact nz e
   have ne:c≠T:=by
    simp at hc;rcases hc with rfl|rfl|rfl|rfl|rfl
    ·exact(nz gz).symm
    ·exact(nz gI).symm
    ·exact(nz gO).symm
    ·exact(lt h1).symm
    ·exact(lt h2).symm
   rw[ak ne];exact(hf c hc).1
 done:=by
  intro X hP hw hK hc i pins s σ H E I hf st hg;subst hP hw hK;obtain⟨gz,gI,⟨u,v,gO⟩,h1,h2⟩:=st;obtain⟨xs,qx,en⟩:=hg;obtain⟨us,rx,px,zx⟩:=I.seqAt qx;have hh:X.A.in1.handled=none:=I.ok.hd hc;have e2:i=us.toArray.size:=by rw[aJ,<- rx.length];exact en.symm
  subst e2;refine kB Z (iP tp hh i1 a Z.l1i1 us.toArray) ⟨⟨_,_,gz,.inl rfl⟩,gI,u,v,gO⟩ ⟨h1,px⟩ fun h' kp=>⟨rfl,?_⟩;refine I.turnN (t':=s.toks) [z,TI,TO,i1,i2] hf fun c o hc e=>?_;simp at hc;exact kp c o hc.1 hc.2.2.1 hc.2.2.2.1 hc.2.2.2.2 e
 self:=fun _ _ _ _ _ st h=>by
  obtain⟨gz,_⟩:=st;exact rG gz h
section
def BS (K:Frag)(tp:Bool)(ta:TA):TI:=fun σ H R=>ta σ H fun vs H1=>∃a b,vs=[.ref a,.ref b]/\(∃xs,SqB K tp H1 a xs)/\(∃ys,SqB K tp H1 b ys)/\R (Itz K tp a b) H1
theorem yU {pos:Pos}{l ta}(tp:Bool)(hg:Gl X "zip")(hm:X.mg "zip" = none)(hv:bootBuiltins "zip" = some (.type "zip"))(ha:PA X [l,l'] ta)(sa:dq l=false:=by rfl)(sb:dq l'=false:=by rfl) :
  PI X (.Tuple elts kk tpos) (.Call (.Name "zip" p) [l,l'] [] pos) (BS X.K tp ta):=by
 intro pins s σ H R I h;refine Call_ (h_ I hg hm hv (PyProof.Rows.callWith_type1 (thn (ha pos pins s σ H _ I h) fun us s1 ⟨vs,H1,I1,r1,q1⟩=>?_) (eZ sa) (by rw[eZ sb];rfl)));obtain⟨a,b,rfl,⟨xs,qx⟩,⟨ys,qy⟩,q⟩:=q1;obtain⟨u1,u2,rfl,e1,e2⟩:=mz r1;cases e1;cases e2;obtain⟨us,rx,px,zx⟩:=I1.seqAt qx;obtain⟨ws,ry,py,zy⟩:=I1.seqAt qy;refine rH px py fun h1 S gz i1 i2 sz kp=>?_
 have a1:=px.lt;have a2:=py.lt
 have Z:ZipApart (s1.heap.objs.size+4) (s1.heap.objs.size+2) (s1.heap.objs.size+3) s1.heap.objs.size (s1.heap.objs.size+1) a b:=by
  constructor<;>(intro e;simp only[Addr] at *;lia)
 refine rG gz ?_;obtain⟨_,gI,ua,ub,gO⟩:=S;refine⟨s1.heap.objs.size+4,[s1.heap.objs.size+4,s1.heap.objs.size+2,s1.heap.objs.size+3,s1.heap.objs.size,s1.heap.objs.size+1],_,_,H1,rfl,I1.kept (t':=s1.toks) kp,uw tp a b _ _ _ _ _ Z,⟨gz,gI,⟨ua,ub,gO⟩,i1,i2⟩,fun c hc=>?_,q⟩
 have lc:s1.heap.objs.size<=c:=by
  simp at hc;rcases hc with rfl|rfl|rfl|rfl|rfl<;>(simp only[Addr] at *;lia)
 exact I1.fpOk lc (I1.hok.fresh lc)
end
section
end
end L2
namespace L2
open PySem PySem.Spec PyProof.Rows
section
end
open PySem.SeqAt
open PySem.AutoSeq1 (wpAny_loadPart')
open PySem.MeetsSeq PySem.MeetsSeq2 PySem.MeetsSeq3
section
end
section
end
end L2
namespace L2
open PySem PyProof PyProof.Rows
section
variable {u u':HO}
theorem Inv.swap (I:Inv X pins σ H s)(hd:H d=some u)(nt:∀xs,u≠.tup xs)(nw:∀y,u≠.own y)(nb:∀ps,u≠.tbl ps)(nf:∀o z,X.H₀ d≠some (.frz o z))(new:cE X.prog X.w (upd H d u') s.heap d u'):Inv X pins σ (upd H d u') s:=by
 have no:∀{b:Addr},H b=none->upd H d u' b=none:=fun {b} h=>by rw[ak (fun e=>by rw[e,hd] at h;cases h)];exact h
 have tp:∀b xs,H b=some (.tup xs)->upd H d u' b=some (.tup xs):=fun b xs h=>by
  rw[ak (fun e=>by rw[e,hd] at h;injection h with h;exact nt xs h)];exact h
 refine⟨I.ok,I.os,I.bare,⟨I.base.keep,I.base.slot,fun b o e n hx=>no (I.base.free b o e n hx),I.base.there,fun b xs e=>tp b xs (I.base.tups b xs e),fun b o z e=>?_,fun b ps e=>?_⟩,I.loc,I.cell,no I.free,fun x c e=>no (I.freeC x c e),fun p hp=>?_,fun a o e=>?_,I.len⟩
 ·rw[ak (fun e'=>nf o z (by rw[<- e'];exact e))];exact I.base.frzs b o z e
 ·obtain⟨more,h⟩:=I.base.tbls b ps e;refine⟨more,?_⟩;rw[ak (fun e'=>by rw[e',hd] at h;injection h with h;exact nb _ h)];exact h
 ·obtain⟨e,n,r⟩:=I.pin p hp;exact⟨e,no n,r⟩
 ·by_cases h:a=d
  ·subst h;rw[ae] at e;cases e;exact new
  ·rw[ak h] at e;refine(I.hok a o e).stay (fun b v _ q=>q) (fun b q=>?_) tp;rw[ak (fun e'=>by rw[e',hd] at q;injection q with q;exact nw _ q)];exact q
theorem Inv.notFrz {v}(I:Inv X pins σ H s)(hd:H d=some v)(n:∀o z,v≠.frz o z):∀o z,X.H₀ d≠some (.frz o z):=fun o z e=>by
 have:=I.base.frzs d o z e;rw[hd] at this;injection this with this;exact n o z this
theorem Inv.freeze (I:Inv X pins σ H s)(hd:H d=some (.dK kvs)):∃o,s.heap.get? d=some o/\Inv X pins σ (upd H d (.frz o (.dK kvs))) s:=by
 have x:=I.hok d _ hd;obtain⟨_,_,_,_,o,_,_,e,_⟩:=id x;refine⟨o,e,I.swap hd (fun _ z=>nomatch z) (fun _ z=>nomatch z) (fun _ z=>nomatch z) (I.notFrz hd fun _ _ z=>nomatch z) ⟨e,?_⟩⟩;refine x.stay (fun b v _ q=>q) (fun b q=>?_) fun b xs q=>?_
 ·rw[ak (cJ q hd (fun z=>nomatch z))];exact q
 ·rw[ak (cJ q hd (fun z=>nomatch z))];exact q
theorem Inv.thaw {o}(I:Inv X pins σ H s)(hd:H d=some (.frz o (.dK kvs)))(nf:∀o z,X.H₀ d≠some (.frz o z)):Inv X pins σ (upd H d (.dK kvs)) s:=by
 obtain⟨_,x⟩:=I.hok d _ hd;refine I.swap hd (fun _ z=>nomatch z) (fun _ z=>nomatch z) (fun _ z=>nomatch z) nf ?_;refine x.stay (fun b v _ q=>q) (fun b q=>?_) fun b xs q=>?_
 ·rw[ak (cJ q hd (fun z=>nomatch z))];exact q
 ·rw[ak (cJ q hd (fun z=>nomatch z))];exact q
theorem qA {o:Obj}{es}(ok:HOk P w H h)(hd:H d=some (.frz o (.dK kvs)))(ed:o.data=.dict es ep):(d==sysModules)=false/\∃vs,KV kvs vs/\h.DictAt (bX P w) d vs ep:=by
 obtain⟨e,_,hS,vs,rk,o',es',ep',e',c,ed',r⟩:=ok d _ hd;rw[e] at e';cases e';rw[ed] at ed';cases ed';exact⟨hS,vs,rk,o,es,e,c,ed,r⟩
end
theorem KV.get {vs:List (Key×Value)}(r:KV kvs vs):∀{i:Nat} {k:Key} {x:V},kvs[i]?=some (k,x)->∃v,vs[i]?=some (k,v)/\cW x v:=by
 induction r with
 | nil=>intro i k x h;cases h
 | @cons a b l m h t ih=>
  intro i k x e;cases i with
  | zero=>
   have e':=e;cases e';obtain⟨h1,h2⟩:=h;obtain⟨b1,b2⟩:=b;cases h1;exact⟨b2,rfl,h2⟩
  | succ i=>exact ih (i:=i) e
theorem wy {k}(h:ja k u=true):cW (kV k) u:=by
 rcases cu h with⟨i,t,rfl,rfl⟩|⟨x,t,rfl,rfl⟩
 ·exact⟨t,rfl⟩
 ·exact⟨t,rfl⟩
def Iti (d:Addr)(o:Obj)(kvs:List (Key×V)):It:=
 ⟨fun i H=>H d=some (.frz o (.dK kvs))/\i<kvs.length,fun i H v H'=>∃t k x,v=.ref t/\H t=none/\kvs[i]?=some (k,x)/\H'=upd H t (.tup [kV k,x]),fun i H=>H d=some (.frz o (.dK kvs))/\kvs.length<=i⟩
def Itv (d:Addr)(o:Obj)(kvs:List (Key×V)):It:=
 ⟨fun i H=>H d=some (.frz o (.dK kvs))/\i<kvs.length,fun i H v H'=>H'=H/\∃k,kvs[i]?=some (k,v),fun i H=>H d=some (.frz o (.dK kvs))/\kvs.length<=i⟩
theorem qK {o:Obj}{es}(ed:o.data=.dict es ep) :
  Turn P w K (.Tuple elts kk tpos) (Iti d o kvs) [it] it (fun i h=>∃ok ov,IsItemIter h it d i kvs.length ep ok ov) where
 mem:=by simp
 obj:=fun i h st b hb=>by
  have e:b=it:=by simpa using hb
  subst e;obtain⟨ok,ov,e⟩:=st;exact⟨_,e,fun v z=>by have z':Data.fields _=Data.cell v:=z;cases z'⟩
 keep:=fun i h h' st k=>by
  obtain⟨ok,ov,e⟩:=st;exact⟨ok,ov,k it (by simp) _ e⟩
 item:=by
  intro X hP hw hK hc i pins s σ H E I hf st hg;subst hP hw hK;obtain⟨ok,ov,hit⟩:=st;obtain⟨hd,hi⟩:=hg;obtain⟨hS,vs,rk,hm⟩:=qA I.hok hd ed;have lv:=Paired.length rk;rw[lv] at hit;obtain⟨k,x,ex⟩:∃k x,kvs[i]?=some (k,x):=⟨kvs[i].1,kvs[i].2,aa hi⟩;obtain⟨v,ev,rv⟩:=KV.get rk ex;refine wpAny_pyNext_items_item hit hm ev fun key h' hk ho hT sz kp=>⟨_,rfl,?_⟩
  refine wpAny_letOwnedTupleGo_items (s:={ s with heap:=h' }) ho fun h2 hit2 sb=>?_;replace sb:Heap.SameBut it h' h2:=sb;have nT:=ne_of_gt (aZ hit)
  have J:Inv X pins σ (upd H s.heap.objs.size (.tup [kV k,x])) { s with heap:=h2,toks:=s.toks }:=by
   refine I.turnT (xs:=[kV k,x]) (us:=[key,v]) [it] hf (fun c o' hc' e=>?_) (aE _) (.cons (wy hk) (.cons rv .nil)) (by show 2<=sizeLine;decide) (sb.extBut _ _ nT hT);have nc:c≠it:=fun z=>hc' (by simp[z]);exact sb.extBut _ _ nc (kp c o' nc e)
  refine⟨.ref s.heap.objs.size,_,J,rfl,⟨_,k,x,rfl,I.hok.fresh (aE _),ex,rfl⟩,⟨_,_,by rw[lv];exact hit2⟩,fun b hb=>?_⟩;have eb:b=it:=by simpa using hb
  subst eb;rw[ak (bM nT)];exact(hf b hb).1
 done:=by
  intro X hP hw hK hc i pins s σ H E I hf st hg;subst hP hw hK;obtain⟨ok,ov,hit⟩:=st;obtain⟨hd,hi⟩:=hg;obtain⟨hS,vs,rk,hm⟩:=qA I.hok hd ed;have lv:=Paired.length rk;rw[lv] at hit hi;obtain⟨f0,f1,f2,f3,f4,f5⟩:=hf it (by simp);exact wpAny_pyNext_items_end (I.ok.hd hc) hit hm (List.getElem?_eq_none hi) fun h' eb=>⟨rfl,I.turned (t':=s.toks) (fun b o hb e=>eb b o hb e) f0 f1 f3 f4 f5⟩
 self:=fun A i s Q E st h=>by
  obtain⟨ok,ov,e⟩:=st;exact PySem.W.kcp_self e h
theorem n_ {o:Obj}{es}(ed:o.data=.dict es ep) :
  Turn P w K tg (Itv d o kvs) [it] it (fun i h=>h.IsValIter it d i kvs.length ep) where
 mem:=by simp
 obj:=fun i h st b hb=>by
  have e:b=it:=by simpa using hb
  subst e;obtain⟨o,e,c,dd⟩:=st;exact⟨o,e,fun v z=>by rw[dd] at z;cases z⟩
 keep:=fun i h h' st k=>st.at fun o e=>k it (by simp) o e
 item:=by
  intro X hP hw hK hc i pins s σ H E I hf st hg;subst hP hw hK;obtain⟨hd,hi⟩:=hg;obtain⟨hS,vs,rk,hm⟩:=qA I.hok hd ed;have lv:=Paired.length rk;rw[lv] at st;obtain⟨k,x,ex⟩:∃k x,kvs[i]?=some (k,x):=⟨kvs[i].1,kvs[i].2,aa hi⟩;obtain⟨v,ev,rv⟩:=KV.get rk ex;obtain⟨f0,f1,f2,f3,f4,f5⟩:=hf it (by simp);refine wpAny_pyNext_values_item st hm ev fun h' st' sb=>?_
  have I1:Inv X pins σ H { s with heap:=h' }:=I.turned (t':=s.toks) (fun b o hb e=>(sb.2 b hb).trans e) f0 f1 f3 f4 f5;obtain⟨o',e,c,dd⟩:=id st';exact⟨v,rfl,tL (s:={ s with heap:=h' }) e c dd (by decide) ⟨x,H,I1,rv,⟨rfl,k,ex⟩,by rw[lv];exact st',fun b hb=>(hf b hb).1⟩⟩
 done:=by
  intro X hP hw hK hc i pins s σ H E I hf st hg;subst hP hw hK;obtain⟨hd,hi⟩:=hg;obtain⟨hS,vs,rk,hm⟩:=qA I.hok hd ed;have lv:=Paired.length rk;rw[lv] at st hi;obtain⟨f0,f1,f2,f3,f4,f5⟩:=hf it (by simp);exact wpAny_pyNext_values_end (I.ok.hd hc) st hm (List.getElem?_eq_none hi) fun h' eb=>⟨rfl,I.turned (t':=s.toks) (fun b o hb e=>eb b o hb e) f0 f1 f3 f4 f5⟩
 self:=fun _ _ _ _ _ st h=>wpAny_pyIter_valiter st h
section
variable {o:Expr}{to:TE}
def vV (to:TE):TI:=fun σ H R=>to σ H fun x H1=>∃d kvs,x=.ref d/\H1 d=some (.dK kvs)/\∀ob,R (Iti d ob kvs) (upd H1 d (.frz ob (.dK kvs)))
def zM (to:TE):TI:=fun σ H R=>to σ H fun x H1=>∃d kvs,x=.ref d/\H1 d=some (.dK kvs)/\∀ob,R (Itv d ob kvs) (upd H1 d (.frz ob (.dK kvs)))
theorem pU (ho:PE X o to)(hbase:attributeBase o "items" X.env (eval o X.env)=eval o X.env:=by rfl)(hline:(apos.endLine==cpos.line)=true:=by rfl) :
  PI X (.Tuple elts kk tpos) (.Call (.Attribute o "items" apos) [] [] cpos) (vV to):=by
 intro pins s σ H R I h;refine wpAny_Call_method0_late hbase hline (thn (ho pins s σ H _ I h) fun v s1 zz=>?_);obtain⟨x,H1,I1,r1,q1⟩:=zz;obtain⟨d,kvs,rfl,hd,q⟩:=q1;cases r1;obtain⟨h1,h2⟩:=pB (T:="dict") (x:=.ref d) I1 rfl (.inr (.inr (.inl ⟨rfl,.inl ⟨kvs,hd⟩⟩)))
 refine⟨"dict","dict.items",plainAttrs_dict,PySem.F.slot_dict_items,PySem.F.type_dict_items,h1,h2,Calls.callWith_builtin rfl (PySem.evalArgs_none ?_)⟩;obtain⟨ob,eo,I2⟩:=I1.freeze hd;obtain⟨hz,hS,vs,rk,m⟩:=rf I1.hok hd;refine call_meetsIn PySem.F.slot_dict_items m.typeIs PySem.F.entry_dict_items (PySem.F.args_dict_items_1 _) (meets_dict_items (bX X.prog X.w) d hS) ⟨⟨vs,m⟩,?_⟩
 obtain⟨ep,hm⟩:=m.dictAt;obtain⟨o',es,eo',c,ed,r⟩:=id hm;rw[eo] at eo';cases eo';refine wpAny_pyIter_items (v:=s1.heap.objs.size) (d:=d) (kvs:=vs) (ep:=ep) ⟨_,aV _ rfl,rfl,rfl⟩ (hm.push _) ?_
 have k2:∀b u,s1.heap.get? b=some u->((s1.heap.push { cls:=.type "dict_items",data:=.fields #[.ref d] }).push { cls:=.type "dict_itemiterator",data:=.fields #[.none,.bool false,.ref d,.int 0 0,.int vs.length 0,.int ep 0,.none,.none] }).get? b=some u:=fun b u e=>az _ (az _ e)
 refine⟨(s1.heap.push { cls:=.type "dict_items",data:=.fields #[.ref d] }).objs.size,[(s1.heap.push { cls:=.type "dict_items",data:=.fields #[.ref d] }).objs.size],_,_,_,rfl,I2.kept (t':=s1.toks) k2,qK ed,⟨.none,.none,?_⟩,fun b hb=>?_,q ob⟩
 ·rw[(Paired.length rk)];exact aV _ rfl
 ·have e:b=(s1.heap.push { cls:=.type "dict_items",data:=.fields #[.ref d] }).objs.size:=by simpa using hb
  have le:s1.heap.objs.size<=b:=by rw[e,cj];exact le_succ _
  exact I2.fpOk le (I2.hok.fresh le)
theorem sv (ho:PE X o to)(hbase:attributeBase o "values" X.env (eval o X.env)=eval o X.env:=by rfl)(hline:(apos.endLine==cpos.line)=true:=by rfl) :
  PI X tg (.Call (.Attribute o "values" apos) [] [] cpos) (zM to):=by
 intro pins s σ H R I h;refine wpAny_Call_method0_late hbase hline (thn (ho pins s σ H _ I h) fun v s1 zz=>?_);obtain⟨x,H1,I1,r1,q1⟩:=zz;obtain⟨d,kvs,rfl,hd,q⟩:=q1;cases r1;obtain⟨h1,h2⟩:=pB (T:="dict") (x:=.ref d) I1 rfl (.inr (.inr (.inl ⟨rfl,.inl ⟨kvs,hd⟩⟩)))
 refine⟨"dict","dict.values",plainAttrs_dict,PySem.F.slot_dict_values,PySem.F.type_dict_values,h1,h2,Calls.callWith_builtin rfl (PySem.evalArgs_none ?_)⟩;obtain⟨ob,eo,I2⟩:=I1.freeze hd;obtain⟨hz,hS,vs,rk,m⟩:=rf I1.hok hd;refine call_meetsIn PySem.F.slot_dict_values m.typeIs PySem.F.entry_dict_values (PySem.F.args_dict_values_1 _) (meets_dict_values (bX X.prog X.w) d hS) ⟨⟨vs,m⟩,?_⟩
 obtain⟨ep,hm⟩:=m.dictAt;obtain⟨o',es,eo',c,ed,r⟩:=id hm;rw[eo] at eo';cases eo';refine wpAny_pyIter_values (v:=s1.heap.objs.size) (d:=d) (kvs:=vs) (ep:=ep) ⟨_,aV _ rfl,rfl,rfl⟩ (hm.push _) ?_
 have k2:∀b u,s1.heap.get? b=some u->((s1.heap.push { cls:=.type "dict_values",data:=.fields #[.ref d] }).push { cls:=.type "dict_valueiterator",data:=.fields #[.ref d,.int 0 0,.int vs.length 0,.int ep 0] }).get? b=some u:=fun b u e=>az _ (az _ e)
 refine⟨(s1.heap.push { cls:=.type "dict_values",data:=.fields #[.ref d] }).objs.size,[(s1.heap.push { cls:=.type "dict_values",data:=.fields #[.ref d] }).objs.size],_,_,_,rfl,I2.kept (t':=s1.toks) k2,n_ ed,?_,fun b hb=>?_,q ob⟩
 ·rw[(Paired.length rk)];exact⟨_,aV _ rfl,rfl,rfl⟩
 ·have e:b=(s1.heap.push { cls:=.type "dict_values",data:=.fields #[.ref d] }).objs.size:=by simpa using hb
  have le:s1.heap.objs.size<=b:=by rw[e,cj];exact le_succ _
  exact I2.fpOk le (I2.hok.fresh le)
def uz (t:TE):TE:=fun σ H Q=>∃d v,H d=some v/\(∀o z,v≠.frz o z)/\t σ H fun x H1=>∃o kvs,H1 d=some (.frz o (.dK kvs))/\Q x (upd H1 d (.dK kvs))
theorem wJ {t}(he:PE X e t):PE X e (uz t):=by
 intro pins s σ H Q I h;obtain⟨d,v,hd,nf,h⟩:=h;refine thn (he pins s σ H _ I h) fun u s1 ⟨x,H1,I1,r1,o,kvs,h1,q⟩=>⟨x,_,I1.thaw h1 (I.notFrz hd nf),r1,q⟩
end
section
theorem Inv.track (I:Inv X pins σ H s)(f:nZ X pins H a)(h0:X.s₀.heap.objs.size<=a)(new:cE X.prog X.w (upd H a o) s.heap a o):Inv X pins σ (upd H a o) s:=by
 obtain⟨f0,f1,_,_,f4,f5⟩:=f;have nb:∀{b:Addr} {u:HO},H b=some u->upd H a o b=some u:=fun {b u} h=>by rw[ak (ah h f0)];exact h
 refine⟨I.ok,I.os,I.bare,⟨I.base.keep,I.base.slot,fun b ob e n hx=>?_,I.base.there,fun b xs e=>nb (I.base.tups b xs e),fun b ob z e=>nb (I.base.frzs b ob z e),fun b ps e=>?_⟩,I.loc,I.cell,?_,fun x c e=>?_,fun p hp=>?_,fun b u e=>?_,I.len⟩
 ·rw[ak (aP (ba (aZ e) h0))];exact I.base.free b ob e n hx
 ·obtain⟨more,h⟩:=I.base.tbls b ps e;exact⟨more,nb h⟩
 ·rw[ak f1.symm];exact I.free
 ·rw[ak (f4 x c e)];exact I.freeC x c e
 ·obtain⟨e,n,r⟩:=I.pin p hp;exact⟨e,by rw[ak (f5 p hp)];exact n,r⟩
 ·by_cases h:b=a
  ·subst h;rw[ae] at e;cases e;exact new
  ·rw[ak h] at e;exact(I.hok b u e).stay (fun c v _ q=>q) (fun c q=>nb q) fun c xs q=>nb q
theorem Inv.tracks:∀(as:List Addr) (qs:List (List V)) {H:Hp},Inv X pins σ H s->as.length=qs.length->as.Pairwise (· < ·)->(∀a∈as,nZ X pins H a/\X.s₀.heap.objs.size<=a) ->
  (∀(j:Nat) (a:Addr) (q:List V),as[j]?=some a->qs[j]?=some q->q.length<=sizeLine/\∃us:List Value,cU q us/\s.heap.get? a=some { cls:=.type "tuple",data:=.seq us.toArray }) ->
  ∃H',Inv X pins σ H' s/\(∀b o,H b=some o->H' b=some o)/\∀(j:Nat) (a:Addr) (q:List V),as[j]?=some a->qs[j]?=some q->H' a=some (.tup q)
 | [],qs,H,I,_,_,_,_=>⟨H,I,fun _ _ z=>z,nofun⟩
 | a::as,[],H,I,l,_,_,_=>nomatch l
 | a::as,q::qs,H,I,l,pw,hf,ho=>by
  obtain⟨pa,pw'⟩:=pairwise_cons.mp pw;obtain⟨hz,us,rv,e⟩:=ho 0 a q rfl rfl;obtain⟨fa,h0⟩:=hf a (bY ..);have I1:Inv X pins σ (upd H a (.tup q)) s:=I.track fa h0 ⟨hz,us,rv,⟨_,e,rfl,_,rfl⟩,fun o z=>by rw[e] at z;cases z;rfl⟩;have na:∀b o,H b=some o->upd H a (.tup q) b=some o:=fun b o z=>by rw[ak (ah z fa.1)];exact z
  obtain⟨H',I',k',t'⟩:=Inv.tracks as qs I1 (Nat.succ.inj l) pw' (fun b hb=>by
   obtain⟨⟨g0,g⟩,gl⟩:=hf b (br _ hb)
   exact⟨⟨by rw[ak (ne_of_gt (pa b hb))];exact g0,g⟩,gl⟩) fun j b p e1 e2=>ho (j+1) b p e1 e2
  refine⟨H',I',fun b o z=>k' b o (na b o z),fun j b p e1 e2=>?_⟩;cases j with
  | zero=>
   have e1':=e1;have e2':=e2;cases e1';cases e2';exact k' _ _ ae
  | succ j=>exact t' j b p e1 e2
end
section
variable {o:Expr}{to:TE}
theorem my:∀(as:List Addr),cU (as.map V.ref) (as.map Value.ref)
 | []=>.nil
 | _::as=>.cons rfl (my as)
theorem tY (hh:X.A.handled=none):fX X (.builtin "min") (fun xs H Q=>∃(a:Addr) (kvs:List (Key×V)) (ns:List Int),xs=[.ref a]/\Rd H a (.dK kvs)/\kvs.map (·.1)=ns.map Sum.inl/\ns≠[] /\
  ∀m:Int,m∈ns->(∀n∈ns,m<=n)->Q (.int m) H):=by
 intro pins s σ H xs us Q I r h;obtain⟨a,kvs,ns,rfl,hk,ek,hne,q⟩:=h;obtain⟨u,rfl,ru⟩:=g6 r;cases ru;obtain⟨hz,hS,vs,rk,m⟩:=jB I.hok hk;obtain⟨ep,hm⟩:=m.dictAt
 have e1:vs.map (·.1)=kvs.map (·.1):=by
  clear hz m hm q hk ek
  induction rk with
  | nil=>rfl
  | cons a b ih=>rw[bH,bH,ih,a.1]
 have lv:vs.length=ns.length:=by
  have:=bq List.length (e1.trans ek);simpa using this
 have lp:=length_pos_iff.mpr hne;refine call_min_walk (wpAny_pyIter_dict hS hm ?_);have alt:=hm.lt_size;have hh1:X.A.in1.handled=none:=hh
 refine⟨s.heap.objs.size,_,_,vs.length,_,_,fun i j=>decide (ns.getD i 0<ns.getD j 0),rfl,Walks.dictKeys (knd:=bX X.prog X.w) hh1 s.heap.objs.size a (aP alt) vs ep,⟨⟨_,aV _ rfl,rfl,rfl⟩,hm.push _⟩,fun b hb=>?_,by lia,?_,fun v h' tk hP kp=>?_⟩
 ·rw[cj];rcases bm.mp hb with e|hb
  ·rw[e];exact lt_succ_self _
  ·rw[au.mp hb];exact lt_succ_of_lt alt
 ·refine CmpOf.ints_lt (fun i=>ns.getD i 0) fun i v hP=>?_;obtain⟨k,x,e2,e3⟩:=hP;have e4:(vs.map (·.1))[i]?=some k:=by rw[aB,e2];rfl
  rw[e1,ek,aB] at e4;obtain⟨n,en,rfl⟩:=bt.mp e4;rw[bP,en];rw[eU] at e3;exact isInt_shape (show Value.isInt n v=true from e3)
 ·obtain⟨b1,b2⟩:=argBest_lt (fun i=>ns.getD i 0) (vs.length - 1);obtain⟨k,x,e2,e3⟩:=hP;have e4:(vs.map (·.1))[argBest (fun i j=>decide (ns.getD i 0<ns.getD j 0)) (vs.length - 1)]?=some k:=by rw[aB,e2];rfl
  rw[e1,ek,aB] at e4;obtain⟨n,en,rfl⟩:=bt.mp e4;rw[eU] at e3;obtain⟨t,rfl⟩:=isInt_shape (show Value.isInt n v=true from e3)
  have I1:Inv X pins σ H { s with heap:=h',toks:=tk }:=I.kept fun b o z=>kp b o (fun hb=>by
   have lt:=aZ z;rw[au.mp hb] at lt
   exact lt_irrefl _ lt) (az _ z)
  refine⟨.int n,H,I1,⟨t,rfl⟩,q n (aK en) fun n' hn'=>?_⟩;obtain⟨j,hj,rfl⟩:=bD hn';have:=b2 j (by lia);rw[bP,bP,en,aa hj] at this;exact this
theorem rA:fX X (.builtin "sorted") (fun xs H Q=>∃(a:Addr) (ns:List Int),xs=[.ref a]/\SqL X.K H a (ns.map V.int)/\ns.length<64 /\
  ∀ns':List Int,ns'.Perm ns->ns'.Pairwise (· <= ·)->∀l,H l=none->Q (.ref l) (upd H l (.lst (ns'.map V.int)))):=by
 intro pins s σ H xs us Q I r h;obtain⟨a,ns,rfl,hq,hl,q⟩:=h;obtain⟨u,rfl,ru⟩:=g6 r;cases ru;obtain⟨its,rv,pl,hz⟩:=I.list hq;have ll:=rv.length;rw[af] at ll
 have hI:=oQ ll.symm fun i u n a b=>by
  obtain⟨u',e,r'⟩:=rv.get (i:=i) (x:=.int n) (by rw[aB,b];rfl);rw[a] at e;cases e;exact r'
 refine sorted_ints pl.isList hI (by lia) fun out ns' p1 p2 p3=>?_;obtain⟨e,ge⟩:=sortedAll_at s.heap its out;refine⟨.ref (s.heap.objs.size+1),_,I.laid (a:=s.heap.objs.size+1) (o:=.lst (ns'.map V.int)) (t':=s.toks) (fun b o z=>sortedAll_old z) (le_succ _) ⟨?_,out.toList,e,(gD p1),by simpa using ge⟩,rfl,q ns' p2 p3 _ (I.hok.fresh (le_succ _))⟩;have:=p2.length_eq
 rw[af,show sizeLine=16777216 by decide]
 lia
end
open PySem.AutoSeq1 (wpAny_loadPart')
section
variable {l:Addr}{x:Value}
end
section
theorem xH {p}{us:List Value}(ne:p≠q)(pl:s.heap.IsTuple p us.toArray)(pl':s.heap.IsTuple q ws.toArray)(r:cU zs us)(r':cU ys ws)(hu:A.units<cLine)(ok:∀(i:Nat) (a b:V),zs[i]?=some a->ys[i]?=some b->okP a b):SeqAt.EqAt A s (.ref p) (.ref q) (tO zs ys):=by
 have l1:=r.length;have l2:=r'.length
 have rc:=SeqAt.RcAt.tuples (e:=ans zs ys) pl pl' hu fun j h1 h2=>by
  have j1:j<zs.length:=by simp at h1;lia
  have j2:j<ys.length:=by simp at h2;lia
  obtain⟨u,eu,ru⟩:=r.get (aa j1);obtain⟨w,ew,rw'⟩:=r'.get (aa j2)
  have a1:us.toArray[j]=u:=by
   simp at h1;simpa[h1] using eu
  have a2:ws.toArray[j]=w:=by
   simp at h2;simpa[h2] using ew
  rw[a1,a2,show ans zs ys j=eqP zs[j] ys[j] by unfold ans;rw[aa j1,aa j2]];exact vZ ru rw' (ok j _ _ (aa j1) (aa j2))
 refine SeqAt.EqAt.of_refs ne ?_;have eb:tO zs ys=((List.range (min us.toArray.size ws.toArray.size)).all (ans zs ys)&&us.toArray.size==ws.toArray.size):=?_
 ·rw[eb];exact rc
 ·by_cases hl:zs.length=ys.length
  ·unfold tO;rw[av hl,Bool.true_and,<- lj zs ys hl,aJ,aJ,<- l1,<- l2,<- hl,min_self,beq_self_eq_true,Bool.and_true]
  ·unfold tO;rw[aF hl,Bool.false_and,aJ,aJ,<- l1,<- l2,show (zs.length==ys.length)=false from beq_eq_false_iff_ne.mpr hl,Bool.and_false]
end
section
variable {t:TS}
def yr (t:TS):TS:=fun D σ H=>∃d v,H d=some v/\(∀o z,v≠.frz o z)/\t { D with nx:=fun σ' H'=>∃o kvs,H' d=some (.frz o (.dK kvs))/\D.nx σ' (upd H' d (.dK kvs)) } σ H
theorem wH (h:PS X st t):PS X st (yr t):=by
 intro pins s σ H D I q;obtain⟨d,v,hd,nf,q⟩:=q;refine thn (h pins s σ H _ I q) fun f s' r=>?_;cases f with
 | next=>
  obtain⟨σ',H',I',o,kvs,e,n⟩:=r;exact⟨σ',_,I'.thaw e (I.notFrz hd nf),n⟩
 | brk=>exact r
 | cont=>exact r
 | ret u=>exact r
theorem At {D:Ends}(h:uz te σ H fun x H1=>eS i x σ H1 D.nx):yr (qO te (eS i)) D σ H:=h
end
section
theorem jf (hh:X.A.handled=none):fX X (.type "list") (fun xs H Q=>∃(a:Addr) (kvs:List (Key×V)) (ns:List Int),xs=[.ref a]/\Rd H a (.dK kvs)/\kvs.map (·.1)=ns.map Sum.inl/\∀l,H l=none->Q (.ref l) (upd H l (.lst (ns.map V.int)))):=by
 intro pins s σ H xs us Q I r h;obtain⟨a,kvs,ns,rfl,hk,ek,q⟩:=h;obtain⟨u,rfl,ru⟩:=g6 r;cases ru;obtain⟨hz,hS,vs,rk,m⟩:=jB I.hok hk;obtain⟨ep,hm0⟩:=m.dictAt
 have e1:vs.map (·.1)=kvs.map (·.1):=by
  clear hz m hm0 q hk ek
  induction rk with
  | nil=>rfl
  | cons a b ih=>rw[bH,bH,ih,a.1]
 have lv:vs.length=ns.length:=by
  have:=bq List.length (e1.trans ek);simpa using this
 have lk:kvs.length=vs.length:=Paired.length rk;refine PySem.W.kdl_call (PySem.W.kdl_dict hS) hh hm0 (by rw[<- lk];exact hz) fun h' tk acc c kp gl it=>?_
 have hI:IntsAre acc.toList ns:=by
  refine oQ (by rw[length_toList,it.1,lv]) fun i u n a b=>?_;obtain⟨k,x,e2,e3⟩:=it.2 i u (by simpa using a);have e4:(vs.map (·.1))[i]?=some k:=by rw[aB,e2];rfl
  rw[e1,ek,aB,b] at e4;cases e4;rw[eU] at e3;exact isInt_shape (show Value.isInt n u=true from e3)
 refine⟨.ref s.heap.objs.size,_,I.laid (a:=s.heap.objs.size) (o:=.lst (ns.map V.int)) (t':=tk) kp (aE _) ⟨?_,acc.toList,c,gD hI,by simpa using gl⟩,rfl,q _ (I.hok.fresh (aE _))⟩;rw[af,<- lv,<- lk];exact hz
end
end L2
namespace L2
open PySem PySem.Spec PyProof PyProof.Rows
def yh (td ty tx:TE):TE:=fun σ H Q=>td σ H fun x H1=>∃a,x=.ref a/\IsD H1 a/\ty σ H1 fun y H2=>tx σ H2 fun z H3=>∃kvs k,H3 a=some (.dK kvs)/\y=kV k/\kvs.length<sizeLine /\
 (∀v,cf kvs k=some v->Q v H3)/\(cf kvs k=none->Q z (upd H3 a (.dK (db kvs k z))))
section
variable {o f:Expr}
theorem wM (ho:PE X o td)(he:PE X e ty)(hf:PE X f tx)(m:M2 X o "setdefault" apos e f cpos):PE X (.Call (.Attribute o "setdefault" apos) [e,f] [] cpos) (yh td ty tx):=by
 intro pins s σ H Q I h;refine wpAny_Call_method m.base m.few m.line plainAttrs_dict PySem.F.slot_dict_setdefault PySem.F.type_dict_setdefault (thn (ho pins s σ H _ I h) fun u s1 zz=>?_);obtain⟨x,H1,I1,rx,a,ex,d,q1⟩:=zz;cases ex;cases rx;obtain⟨t1,t2,_⟩:=vT I1 d;refine⟨t1,t2,?_⟩;rw[m.trees]
 refine Calls.callWith_builtin rfl (Calls.evalArgs_plain (Calls.spliced_cons (thn (he pins s1 σ H1 _ I1 q1) fun iv s2 zz=>?_)));obtain⟨y,H2,I2,ry,q2⟩:=zz;refine Calls.spliced_cons (thn (hf pins s2 σ H2 _ I2 q2) fun fv s3 zz=>?_);obtain⟨z,H3,I3,rz,kvs,k,ea,ey,hl,q3,q4⟩:=zz;refine Calls.spliced_nil ?_;cases ey;obtain⟨z0,hd,vs,rel,dd⟩:=rf I3.hok ea
 refine call_meetsIn PySem.F.slot_dict_setdefault dd.typeIs PySem.F.entry_dict_setdefault (PySem.F.args_dict_setdefault_3 _ _ _) (kt_meets_setdefault (bX X.prog X.w) a (m_ ry) hd fv) ⟨vs,dd,by rw[<- rel.length];exact z0,fun v hv=>?_,fun hn h' dd' hs=>?_⟩
 ·cases l:cf kvs k with
  | none=>
   have r:=rel.val k;rw[l,hv] at r;exact r.elim
  | some v0=>
   have r:=rel.val k;rw[l,hv] at r;exact⟨v0,H3,I3.tok _,r,q3 v0 l⟩
 ·have l:cf kvs k=none:=by
   cases l:cf kvs k with
   | none=>rfl
   | some v0=>
    have r:=rel.val k;rw[l,hn] at r;exact r.elim
  have he:∃q,h'.get? a=some q:=let⟨q,_,_,hq,_⟩:=dd';⟨q,hq⟩;have ll:=cZ kvs k z;exact⟨z,_,kg I3 (by rw[ea];exact True.intro) hs he (qF (by lia) hd (rel.put k rz) dd'),rz,q4 l⟩
end
section
variable {I S:Addr}{wr:List Addr}{Pv:Nat->Value->Prop}{St:Nat->Heap->Prop}{d:Value}
end
section
variable {pos:Pos}{t tk:TA}{id:String}{r:List V->List V->Hp->VK->Prop}
end
structure Chg (h h' H H':Hp):Prop where
 sm:aQ h' H'
 fr:∀b o,H b=some o->h b=none->H' b=some o
 nw:∀b,h' b=none\/h b≠none\/H b=none
def Dis (h g:Hp):Prop:=∀b,h b=none\/g b=none
theorem sg (S:aQ H H')(e:H a=some o):H' a=some o:=S _ _ e
theorem cm {p x}(f:H p=none)(e:H a=some x):upd H p o a=some x:=by rw[ak (ah e f)];exact e
theorem Chg.refl {h:Hp}(s:aQ h H):Chg h h H H:=⟨s,fun _ _ e _=>e,fun b=>by
 cases h b with
 | none=>exact .inl rfl
 | some o=>exact .inr (.inl nofun)⟩
theorem Chg.same {h:Hp}(s:aQ h H)(S:aQ H H'):Chg h h H H':=⟨s.trans S,fun _ _ e _=>S _ _ e,(Chg.refl s).nw⟩
theorem Chg.trans {h h2:Hp}(a:Chg h h1 H H1)(b:Chg h1 h2 H1 H2):Chg h h2 H H2:=by
 have back:∀c o,H c=some o->h c=none->h1 c=none:=fun c o e n=>by
  rcases a.nw c with z|z|z
  ·exact z
  ·exact aY n z
  ·rw[e] at z;cases z
 refine⟨b.sm,fun c o e n=>b.fr c o (a.fr c o e n) (back c o e n),fun c=>?_⟩;rcases b.nw c with z|z|z
 ·exact .inl z
 ·rcases a.nw c with y|y|y
  ·exact aY y z
  ·exact .inr (.inl y)
  ·exact .inr (.inr y)
 ·cases e:H c with
  | none=>exact .inr (.inr rfl)
  | some o=>
   refine .inr (.inl fun n=>?_);rw[a.fr c o e n] at z;cases z
theorem Chg.and {h:Hp}(a:Chg h h1 H H1)(S:aQ H1 H2):Chg h h1 H H2:=a.trans (.same a.sm S)
theorem pH {h:Hp}(s:aQ h H)(a:Addr)(o:HO):aQ (upd h a o) (upd H a o):=fun b x e=>by
 unfold upd at e ⊢;by_cases c:b=a
 ·rw[aH c] at e ⊢;exact e
 ·rw[aA c] at e ⊢;exact s _ _ e
theorem Chg.mut {h:Hp}{x}(s:aQ h H)(e:h a=some x):Chg h (upd h a o) H (upd H a o):=⟨pH s a o,fun b y z n=>by
  rw[ak (fun c=>by rw[c,e] at n;cases n)];exact z,fun b=>by
 by_cases c:b=a
 ·rw[c,e];exact .inr (.inl nofun)
 ·rw[ak c];exact(Chg.refl s).nw b⟩
theorem Chg.keep {h h' g:Hp}(c:Chg h h' H H')(d:Dis h g)(s:aQ g H):aQ g H':=fun b o e=>c.fr b o (s _ _ e) ((d b).resolve_right fun z=>by rw[e] at z;cases z)
theorem Chg.dis {h h' g:Hp}(c:Chg h h' H H')(d:Dis h g)(s:aQ g H):Dis h' g:=fun b=>by
 rcases c.nw b with z|z|z
 ·exact .inl z
 ·exact .inr ((d b).resolve_left z)
 ·exact .inr (s.free z)
theorem Chg.out {h h':Hp}(c:Chg h h' H H')(n:h b=none)(e:H b=some o):h' b=none:=by
 rcases c.nw b with z|z|z
 ·exact z
 ·exact aY n z
 ·rw[e] at z;cases z
def rsH (h H':Hp):Hp:=fun b=>if (h b).isSome then H' b else none
theorem oq {h:Hp}(e:h a=some o):rsH h H' a=H' a:=by unfold rsH;rw[e];rfl
theorem Chg.rs {h:Hp}(f:∀b o,H b=some o->h b=none->H' b=some o):Chg h (rsH h H') H H':=⟨fun b o e=>by
  unfold rsH at e;cases c:h b with
  | none=>rw[c] at e;cases e
  | some x=>rw[c] at e;exact e,f,fun b=>by
 unfold rsH;cases c:h b with
 | none=>exact .inl rfl
 | some x=>exact .inr (.inl nofun)⟩
theorem Dis.of_none {h:Hp}{g:Hp}(d:Dis h g)(e:g b=some o):h b=none:=(d b).resolve_right fun z=>by rw[e] at z;cases z
section
variable {Q:VK}{n bk:St->Hp->Prop}{D:Ends}{tb tc:TE}{t u:TS}{tu:TT}{gs:TGs}{w':V}{f:Str}
theorem rR (h:te σ H fun x H1=>n (σ.set i (some x)) H1):qO te (eS i) ⟨n,rt,bk,ct⟩ σ H:=h
theorem AF (h:te σ H fun x H1=>g x σ H1 n):qO te g ⟨n,rt,bk,ct⟩ σ H:=h
theorem AA (h:te σ H rt):Aw te ⟨n,rt,bk,ct⟩ σ H:=h
theorem ym (h:rt .non H):yb ⟨n,rt,bk,ct⟩ σ H:=h
theorem yo (h:te σ H fun _ H1=>n σ H1):yg te ⟨n,rt,bk,ct⟩ σ H:=h
theorem pI (h:n σ H):wk ⟨n,rt,bk,ct⟩ σ H:=h
def z8 (K:Frag)(f:Str)(y:V)(n:St->Hp->Prop)(σ:St)(x:V)(H:Hp):Prop:=∃a C dx fs,x=.ref a/\H a=some (.ins C dx fs)/\Cls K C/\cC K C f/\fs.length<1000/\n σ (upd H a (.ins C dx (gW f y fs)))
theorem AE (h:tb σ H fun y H1=>ta σ H1 fun x H2=>z8 K f y n σ x H2):BC K ta tb f ⟨n,rt,bk,ct⟩ σ H:=h
theorem zu {fs:List (Str×V)}(h:H a=some (.ins C dx fs))(c:Cls K C)(no:cC K C f)(l:fs.length<1000)(q:n σ (upd H a (.ins C dx (gW f y fs)))):z8 K f y n σ (.ref a) H:=⟨a,C,dx,fs,rfl,h,c,no,l,q⟩
def z9 (v:V)(n:St->Hp->Prop)(σ:St)(x y:V)(H:Hp):Prop:=∃a H',x=.ref a/\rD H a y v H'/\n σ H'
theorem yq (h:tc σ H fun v H1=>ta σ H1 fun x H2=>tb σ H2 fun y H3=>z9 v n σ x y H3):yt ta tb tc ⟨n,rt,bk,ct⟩ σ H:=h
theorem eF {k}(h:H a=some (.dK kvs))(l:kvs.length<sizeLine)(q:n σ (upd H a (.dK (db kvs k v)))):z9 v n σ (.ref a) (kV k) H:=⟨a,_,rfl,rD.k h l,q⟩
def BZ (i j:Nat)(n:St->Hp->Prop)(σ:St)(vs:List V)(H:Hp):Prop:=∃v w,vs=[v,w]/\n ((σ.set i (some v)).set j (some w)) H
theorem AB {ta}(h:ta σ H fun vs H1=>BZ i j n σ vs H1):Br i j ta ⟨n,rt,bk,ct⟩ σ H:=h
theorem A9 (h:n ((σ.set i (some v)).set j (some w')) H):BZ i j n σ [v,w'] H:=⟨v,w',rfl,h⟩
theorem vX {N:St->Hp->Prop}(h:N (σ.set i (some v)) H):eS i v σ H N:=h
theorem zR {N:St->Hp->Prop}{k:Nat}(e:H a=some (.tup xs))(l:xs.length=k)(h:gs xs σ H N):zU K k gs (.ref a) σ H N:=⟨a,xs,rfl,SqT.of e,l,h⟩
theorem zS {N:St->Hp->Prop}(h:g v σ H fun σ' H'=>gs xs σ' H' N):re g gs (v::xs) σ H N:=⟨v,xs,rfl,h⟩
theorem Be {N:St->Hp->Prop}{ts:Ao}(h:ta σ H fun o H1=>tb σ H1 fun i H2=>ts o i v H2 fun H3=>N σ H3):BU ta tb ts v σ H N:=h
theorem pK {N:Hp->Prop}{k:Int}(h:H a=some (.lst xs))(e:ixN xs.length k=some j)(q:N (upd H a (.lst (xs.set j v)))):yL (.ref a) (.int k) v H N:=⟨a,xs,k,j,rfl,rfl,h,e,q⟩
theorem Bf {N:St->Hp->Prop}(h:N σ H):Am [] σ H N:=⟨rfl,h⟩
def QB (Q:Bool->Hp->Prop)(x:V)(H:Hp):Prop:=∃k,x=.bl k/\Q k H
theorem qb {Q:Bool->Hp->Prop}{k}(h:Q k H):QB Q (.bl k) H:=⟨k,rfl,h⟩
theorem yz {Q:Bool->Hp->Prop}(h:te σ H (QB Q)):wj te σ H Q:=h
theorem Cf {Q:Bool->Hp->Prop}(h:te σ H (QB Q)):tB te σ H Q:=h
theorem yK (h:ta σ H (QB fun c H1=>if c=true then tb σ H1 Q else Q (.bl false) H1)):wm ta tb σ H Q:=h
theorem AJ (h:ta σ H (QB fun c H1=>if c=true then Q (.bl true) H1 else tb σ H1 Q)):Bs ta tb σ H Q:=h
theorem yE (h:ta σ H (QB fun c H1=>Q (.bl (!c)) H1)):ye ta σ H Q:=h
theorem AR {Q:Bool->Hp->Prop}(h:tt σ H fun c H1=>if c=true then tu σ H1 Q else Q false H1):Bz tt tu σ H Q:=h
theorem Ci {Q:Bool->Hp->Prop}(h:tt σ H fun c H1=>if c=true then Q true H1 else tu σ H1 Q):tOr tt tu σ H Q:=h
theorem AK {Q:Bool->Hp->Prop}(h:tt σ H fun c H1=>Q (!c) H1):Bu tt σ H Q:=h
theorem AO (h:tt σ H fun c H1=>if c=true then ta σ H1 Q else tb σ H1 Q):tIf tt ta tb σ H Q:=h
theorem AH (e:σ[i]?=some (some v))(h:Q v H):vA i σ H Q:=⟨v,e,h⟩
theorem r_c (h:Q v H):tC v σ H Q:=h
theorem BD (h:ta σ H fun x H1=>tb σ H1 fun y H2=>r x y H2 Q):tOp r ta tb σ H Q:=h
theorem Ce {ru:V->Hp->VK->Prop}(h:ta σ H fun x H1=>ru x H1 Q):tUn ru ta σ H Q:=h
theorem Co {g:Int->Int->V}{a b:Int}(h:Q (g a b) H):rI0 g (.int a) (.int b) H Q:=⟨a,b,rfl,rfl,h⟩
theorem q_i {C:Int->Int->Prop}{g:Int->Int->V}{a b:Int}(c:C a b)(h:Q (g a b) H):rI C g (.int a) (.int b) H Q:=⟨a,b,rfl,rfl,c,h⟩
theorem q_u {g:Int->V}{a:Int}(h:Q (g a) H):rU g (.int a) H Q:=⟨a,rfl,h⟩
theorem Cq {x}(c:Ah x y=true)(h:Q (.bl (decide (x=y))) H):rEq x y H Q:=⟨c,h⟩
theorem Cm {x}(c:Ah x y=true)(h:Q (.bl (!decide (x=y))) H):rNe x y H Q:=⟨c,h⟩
def v9 (r':R2)(tc:TE)(σ:St)(y:V)(Q:VK)(z:V)(H:Hp):Prop:=∃k,z=.bl k/\(if k=true then tc σ H fun w' H4=>r' y w' H4 Q else Q (.bl false) H)
theorem wA (h:ta σ H fun x H1=>tb σ H1 fun y H2=>r x y H2 (v9 r' tc σ y Q)):vC r r' ta tb tc σ H Q:=h
theorem xm {k}(h:if k=true then tc σ H fun w' H4=>r' y w' H4 Q else Q (.bl false) H):v9 r' tc σ y Q (.bl k) H:=⟨k,rfl,h⟩
def B_ (K:Frag)(f:Str)(Q:VK)(x:V)(H:Hp):Prop:=∃a C dx fs v,x=.ref a/\H a=some (.ins C dx fs)/\Cls K C/\cC K C f/\fs.lookup f=some v/\Q v H
theorem AQ (h:ta σ H (B_ K f Q)):Bw K ta f σ H Q:=h
theorem A_ {fs:List (Str×V)}(h:H a=some (.ins C dx fs))(c:Cls K C)(no:cC K C f)(l:fs.lookup f=some v)(q:Q v H):B_ K f Q (.ref a) H:=⟨a,C,dx,fs,v,rfl,h,c,no,l,q⟩
def z_ (x y:V)(Q:VK)(H:Hp):Prop:=∃a v,x=.ref a/\pj H a y (some v)/\Q v H
theorem yH (h:ta σ H fun x H1=>tb σ H1 fun y H2=>z_ x y Q H2):yk ta tb σ H Q:=h
theorem dM {k}(h:H a=some (.dK kvs))(e:cf kvs k=some v)(q:Q v H):z_ (.ref a) (kV k) Q H:=⟨a,v,rfl,e▸pj.k (k:=k) h,q⟩
def B9 (xs:List V)(Q:VK)(H:Hp):Prop:=xs.length<=sizeLine/\∀p,H p=none->Q (.ref p) (upd H p (.lst xs))
theorem AN {t}(h:t σ H fun xs H1=>B9 xs Q H1):Bv t σ H Q:=h
def Cz (xs:List V)(Q:VK)(H:Hp):Prop:=xs.length<=sizeLine/\∀p,H p=none->Q (.ref p) (upd H p (.tup xs))
theorem AI {t}(h:t σ H fun xs H1=>Cz xs Q H1):Ac t σ H Q:=h
theorem yI {t}{Q:List V->Hp->Prop}(h:ta σ H fun x H1=>t σ H1 fun xs H2=>Q (x::xs) H2):eY ta t σ H Q:=h
theorem AM {Q:List V->Hp->Prop}(h:Q [] H):pC σ H Q:=h
theorem yJ {E t}(h:t σ H fun vs H1=>sp (vs++dvs) H1 Q E):uB sp dvs E t σ H Q:=h
def z7 (C:Addr)(m:Str)(sp:Sp)(dvs:List V)(E:XK)(t:TA)(σ:St)(Q:VK)(x:V)(H:Hp):Prop:=∃a dx fs,x=.ref a/\H a=some (.ins C dx fs)/\fs.lookup m=none/\t σ H fun vs H2=>sp (x::(vs++dvs)) H2 Q E
theorem yF {E t}(h:ta σ H (z7 C m sp dvs E t σ Q)):rO C m sp dvs E ta t σ H Q:=h
theorem vO {E t}{fs:List (Str×V)}(h:H a=some (.ins C dx fs))(l:fs.lookup m=none)(q:t σ H fun vs H2=>sp (.ref a::(vs++dvs)) H2 Q E):z7 C m sp dvs E t σ Q (.ref a) H:=⟨a,dx,fs,rfl,h,l,q⟩
def xO (C:Addr)(sp:Sp)(dvs:List V)(E:XK)(Q:VK)(vs:List V)(H:Hp):Prop:=∀x dx,H x=none->H dx=none->dx≠x->sp (.ref x::(vs++dvs)) (upd (upd H dx (.own x)) x (.ins C dx [])) (fun v H2=>v=.non/\Q (.ref x) H2) E
theorem yG {E t}(h:t σ H fun vs H1=>xO C sp dvs E Q vs H1):wl C sp dvs E t σ H Q:=h
theorem Ck {rr:List V->Hp->VK->Prop}{t}(h:t σ H fun vs H1=>rr vs H1 Q):tCB rr t σ H Q:=h
theorem cG {k:Int}(h:H a=some (.lst xs))(e:atI xs k=some v)(q:Q v H):xS K (.ref a) (.int k) H Q:=⟨a,xs,k,v,rfl,rfl,SqL.of h,e,q⟩
theorem AU {k:Int}(h:H a=some (.tup xs))(e:atI xs k=some v)(q:Q v H):AT K (.ref a) (.int k) H Q:=⟨a,xs,k,v,rfl,rfl,SqT.of h,e,q⟩
def Ca (K:Frag)(T:String)(rr:V->List V->Hp->VK->Prop)(t:TA)(σ:St)(Q:VK)(x:V)(H:Hp):Prop:=tyV K T x H/\t σ H fun xs H2=>rr x xs H2 Q
theorem Cl {T t}(h:ta σ H (Ca K T rr t σ Q)):tBM K T rr ta t σ H Q:=h
theorem Ba {t}(h:H a=some (.lst xs))(q:t σ H fun ys H2=>rr (.ref a) ys H2 Q):Ca K "list" rr t σ Q (.ref a) H:=⟨.inl ⟨rfl,_,SqL.of h⟩,q⟩
theorem dh (h:H a=some (.lst xs))(l:xs.length<sizeLine)(q:Q .non (upd H a (.lst (xs++[y])))):rW (.ref a) [y] H Q:=⟨a,xs,y,rfl,rfl,h,l,q⟩
theorem kz (h1:H a=some (.lst xs))(h2:H b=some (.lst ys))(l:xs.length+ys.length<=sizeLine)(q:∀p,H p=none->Q (.ref p) (upd H p (.lst (xs++ys)))):BH (.ref a) (.ref b) H Q:=⟨a,b,xs,ys,rfl,rfl,h1,h2,l,q⟩
end
end L2
namespace L2
open PySem
def iV (tp:Bool)(H:Hp)(a:Addr)(xs:List V):Prop:=H a=some (if tp then .tup xs else .lst xs)
theorem iV.sq (h:iV tp H a xs):SqB K tp H a xs:=by
 cases tp with
 | true=>exact SqT.of h
 | false=>exact SqL.of h
theorem zE {x}(h:iV tp H a xs)(e:xs[i]?=some x):(ItB K tp a).go i H:=by
 cases tp with
 | true=>exact⟨xs,x,SqT.of h,e⟩
 | false=>exact⟨xs,x,SqL.of h,e⟩
theorem xz (h:iV tp H a xs)(y:(ItB K tp a).yld i H v H'):H'=H/\xs[i]?=some v:=by
 cases tp with
 | true=>exact⟨y.1,y.2 xs (SqT.of h)⟩
 | false=>exact⟨y.1,y.2 xs (SqL.of h)⟩
theorem u8 (h:iV tp H a xs)(e:xs.length<=i):(ItB K tp a).stop i H:=by
 cases tp with
 | true=>exact⟨xs,SqT.of h,e⟩
 | false=>exact⟨xs,SqL.of h,e⟩
theorem ot (h:iV tp H a xs):SqL K H a xs\/SqT K H a xs:=by
 cases tp with
 | true=>exact .inr (SqT.of h)
 | false=>exact .inl (SqL.of h)
theorem yx {i:Int}{Q}(h:iV tp H a xs)(e:atI xs i=some v)(q:Q v H):rIx K (.ref a) (.int i) H Q:=by
 cases tp with
 | true=>exact .inr (.inl ⟨_,_,_,_,rfl,rfl,SqT.of h,e,q⟩)
 | false=>exact .inl ⟨_,_,_,_,rfl,rfl,SqL.of h,e,q⟩
theorem uF {D}(s:aQ H1 H2)(d:H1 D=none):aQ H1 (upd H2 D o):=fun b u q=>by rw[ak (ah q d)];exact s b u q
theorem kR {b c}{A:Prop}(e:b=c)(h:if c=true then A else B):if b=true then A else B:=by subst e;exact h
theorem bp:(2001:Nat)<=sizeLine:=by decide
theorem nM {Q:VK}(xs:List V)(p:V->Bool)(g:V->V)
  (hJ:∀i H2,aQ H1 H2->(i<xs.length->J.go i H2)/\(∀v H3,J.yld i H2 v H3->i<xs.length->H3=H2/\xs[i]?=some v)/\(xs.length<=i->J.stop i H2))
  (hc:∀x∈xs,∀H2 (R:Bool->Hp->Prop),aQ H1 H2->(∀H3,aQ H2 H3->R (p x) H3)->tc (pd js σ (some x)) H2 R)
  (he:∀x∈xs,p x=true->∀H2 (R:VK),aQ H1 H2->(∀H3,aQ H2 H3->R (g x) H3)->te (pd js σ (some x)) H2 R)
  (hz:xs.length<=2000) (q:∀d H2,H1 d=none->aQ H1 H2->H2 d=some (.lst ((xs.filter p).map g))->Q (.ref d) H2) (D:Addr) (hD:H1 D=none) :
  ∃W:Nat->Nat->Hp->Prop,(∃m,W 0 m (upd H1 D (.lst [])))/\∀i m H2,W i m H2 ->
   (J.stop i H2/\Q (.ref D) H2)\/(J.go i H2/\∀v H3,J.yld i H2 v H3->tc (pd js σ (some v)) H3 fun b H4=>
    if b=true then te (pd js σ (some v)) H4 fun y H5=>∃ys,H5 D=some (.lst ys)/\ys.length<sizeLine/\∃m',m'<m/\W (i+1) m' (upd H5 D (.lst (ys++[y])))
    else ∃m',m'<m/\W (i+1) m' H4):=by
 refine⟨fun i m H2=>i+m=xs.length/\aQ H1 H2/\H2 D=some (.lst (((xs.take i).filter p).map g)),⟨xs.length,by lia,uF (aQ.refl _) hD,by simp[ae]⟩,?_⟩;rintro i m H2 ⟨hm,S2,e2⟩;by_cases hi:i<xs.length
 ·obtain⟨j1,j2,j3⟩:=hJ i H2 S2;refine .inr ⟨j1 hi,fun v H3 yl=>?_⟩;obtain⟨rfl,ev⟩:=j2 v H3 yl hi;have hv:=aK ev
  have tk:xs.take (i+1)=xs.take i++[v]:=by
   rw[take_add_one,ev];rfl
  have len:(((xs.take i).filter p).map g).length<=2000:=by
   rw[af];exact bh (bF _ _) (by rw[bo];lia)
  refine hc v hv H3 _ S2 fun H4 S4=>?_;cases hp:p v with
  | false=>exact fY ⟨m - 1,by lia,by lia,S2.trans S4,by rw[tk,filter_append];simp[hp,S4 _ _ e2]⟩
  | true=>
   refine gC (he v hv hp H4 _ (S2.trans S4) fun H5 S5=>⟨_,S5 _ _ (S4 _ _ e2),by have:=bp;lia,m - 1,by lia,by lia,uF ((S2.trans S4).trans S5) hD,?_⟩);rw[ae,tk,filter_append];simp[hp]
 ·refine .inl ⟨(hJ i H2 S2).2.2 (by lia),q D H2 hD S2 ?_⟩;rw[e2,take_of_length_le (by lia)]
theorem Au {r:List V->Hp->VK->Prop}{Q}(h:ta σ H fun x H1=>r [x] H1 Q):tCB r (eY ta pC) σ H Q:=h
theorem Av {tb Q}(h:ta σ H fun x H1=>∃c,x=.bl c/\if c=true then tb σ H1 Q else Q (.bl false) H1):wm ta tb σ H Q:=h
theorem x6 {D:Ends}(h:te σ H D.rt):Aw te D σ H:=h
theorem jx {Q:VK}(xs:List V)(p:V->Bool)(g:V->V)(hw:∀R:It->Hp->Prop,R J H1->wi σ H R)
  (hJ:∀i H2,aQ H1 H2->(i<xs.length->J.go i H2)/\(∀v H3,J.yld i H2 v H3->i<xs.length->H3=H2/\xs[i]?=some v)/\(xs.length<=i->J.stop i H2))
  (hc:∀x∈xs,∀H2 (R:Bool->Hp->Prop),aQ H1 H2->(∀H3,aQ H2 H3->R (p x) H3)->tc (pd js σ (some x)) H2 R)
  (he:∀x∈xs,p x=true->∀H2 (R:VK),aQ H1 H2->(∀H3,aQ H2 H3->R (g x) H3)->te (pd js σ (some x)) H2 R)
  (hz:xs.length<=2000) (q:∀d H2,H1 d=none->aQ H1 H2->H2 d=some (.lst ((xs.filter p).map g))->Q (.ref d) H2):uA js wi tc te σ H Q:=
 hw _ fun D hD=>nM xs p g hJ hc he hz q D hD
theorem j_ (h:iV tp H1 a xs):∀i H2,aQ H1 H2 ->
  (i<xs.length->(ItB K tp a).go i H2)/\(∀v H3,(ItB K tp a).yld i H2 v H3->i<xs.length->H3=H2/\xs[i]?=some v)/\(xs.length<=i->(ItB K tp a).stop i H2):=fun i H2 S=>by
 have h2:=S _ _ h;exact⟨fun hi=>zE h2 (x:=xs[i]) (by simp[hi]),fun v H3 y _=>xz h2 y,fun hi=>u8 h2 hi⟩
theorem zF:∀i H2,aQ H1 H2->(i<(upTo lo n).length->(Itr lo n).go i H2)/\(∀v H3,(Itr lo n).yld i H2 v H3->i<(upTo lo n).length->H3=H2/\(upTo lo n)[i]?=some v)/\((upTo lo n).length<=i->(Itr lo n).stop i H2):=fun i H2 S=>by
 have l:(upTo lo n).length=n:=by simp[L2.upTo]
 rw[l];refine⟨fun hi=>hi,fun v H3 y hi=>?_,fun hi=>hi⟩;obtain⟨rfl,rfl⟩:=y;exact⟨rfl,by simp[L2.upTo,hi]⟩
theorem c_ {p l}(k:KB p H H1)(h:H1 l=none)(n:l≠p):H l=none:=by
 cases c:H l with
 | none=>rfl
 | some o=>rw[k l o c n] at h;cases h
theorem xZ {t u}{D:Ends}(h:t { D with nx:=fun σ' H'=>u D σ' H' } σ H):ya t u D σ H:=h
theorem BA {t u:TS}{D:Ends}(R:St->Hp->Prop)(mk:∀N:St->Hp->Prop,(∀σ' H',R σ' H'->N σ' H')->t { D with nx:=N } σ H)(q:∀σ' H',R σ' H'->u D σ' H'):ya t u D σ H:=xZ (mk _ q)
theorem rq {Q:VK}(ps:List (Int×Int))(p:Int×Int->Bool)(g:Int×Int->V)
  (hJ:∀i H2,aQ H1 H2->(i<ps.length->J.go i H2)/\(∀v H3 x,J.yld i H2 v H3->ps[i]?=some x->∃t,v=.ref t/\aQ H2 H3/\H3 t=some (.tup [.int x.1,.int x.2]))/\(ps.length<=i->J.stop i H2))
  (hc:∀x∈ps,∀H2 (R:Bool->Hp->Prop),aQ H1 H2->(∀H3,aQ H2 H3->R (p x) H3)->tc (k_ js σ (some (.int x.1)) (some (.int x.2))) H2 R)
  (he:∀x∈ps,p x=true->∀H2 (R:VK),aQ H1 H2->(∀H3,aQ H2 H3->R (g x) H3)->te (k_ js σ (some (.int x.1)) (some (.int x.2))) H2 R)
  (hz:ps.length<=2000) (q:∀d H2,H1 d=none->aQ H1 H2->H2 d=some (.lst ((ps.filter p).map g))->Q (.ref d) H2) (D:Addr) (hD:H1 D=none) :
  ∃W:Nat->Nat->Hp->Prop,(∃m,W 0 m (upd H1 D (.lst [])))/\∀i m H2,W i m H2 ->
   (J.stop i H2/\Q (.ref D) H2)\/(J.go i H2/\∀v H3,J.yld i H2 v H3->∃t y y',v=.ref t/\SqT K H3 t [y,y']/\tc (k_ js σ (some y) (some y')) H3 fun b H4=>
    if b=true then te (k_ js σ (some y) (some y')) H4 fun y H5=>∃ys,H5 D=some (.lst ys)/\ys.length<sizeLine/\∃m',m'<m/\W (i+1) m' (upd H5 D (.lst (ys++[y])))
    else ∃m',m'<m/\W (i+1) m' H4):=by
 refine⟨fun i m H2=>i+m=ps.length/\aQ H1 H2/\H2 D=some (.lst (((ps.take i).filter p).map g)),⟨ps.length,by lia,uF (aQ.refl _) hD,by simp[ae]⟩,?_⟩;rintro i m H2 ⟨hm,S2,e2⟩;by_cases hi:i<ps.length
 ·obtain⟨j1,j2,j3⟩:=hJ i H2 S2;have ex:=aa hi;generalize ps[i]=x at ex;refine .inr ⟨j1 hi,fun v H3 yl=>?_⟩;obtain⟨t,rfl,S3,et⟩:=j2 v H3 x yl ex;have hx:=aK ex;have tk:ps.take (i+1)=ps.take i++[x]:=by rw[take_add_one,ex];rfl
  have len:(((ps.take i).filter p).map g).length<=2000:=by
   rw[af];exact bh (bF _ _) (by rw[bo];lia)
  refine⟨t,_,_,rfl,SqT.of et,hc x hx H3 _ (S2.trans S3) fun H4 S4=>?_⟩;have S34:=S3.trans S4;cases hp:p x with
  | false=>exact fY ⟨m - 1,by lia,by lia,S2.trans S34,by rw[tk,filter_append];simp[hp,S34 _ _ e2]⟩
  | true=>
   refine gC (he x hx hp H4 _ (S2.trans S34) fun H5 S5=>⟨_,S5 _ _ (S34 _ _ e2),by have:=bp;lia,m - 1,by lia,by lia,uF ((S2.trans S34).trans S5) hD,?_⟩);rw[ae,tk,filter_append];simp[hp]
 ·refine .inl ⟨(hJ i H2 S2).2.2 (by lia),q D H2 hD S2 ?_⟩;rw[e2,take_of_length_le (by lia)]
def jy (H:Hp)(ts:List Addr)(ps:List (Int×Int)):Prop:=ts.length=ps.length/\∀(j:Nat) (t:Addr) (x:Int×Int),ts[j]?=some t->ps[j]?=some x->H t=some (.tup [.int x.1,.int x.2])
theorem jy.keep {ps}(h:jy H ts ps)(S:∀b xs,H b=some (.tup xs)->H' b=some (.tup xs)):jy H' ts ps:=⟨h.1,fun j t x a b=>S _ _ (h.2 j t x a b)⟩
def kL (ps:List (Int×Int)):List (Key×V):=ps.map fun p=>(Sum.inl p.1,V.int p.2)
def kT (ns:List Int):List (Key×V):=ns.map fun n=>(Sum.inl n,V.bl true)
theorem zw {ps}{x:Int×Int}(h:ps[i]?=some x):(kL ps)[i]?=some (Sum.inl x.1,V.int x.2):=by unfold kL;rw[aB,h];rfl
theorem j9 (ps:List (Int×Int)):(kL ps).length=ps.length:=by unfold kL;rw[af]
theorem nh (ns:List Int):(kT ns).length=ns.length:=by unfold kT;rw[af]
theorem zH {o}{ps:List (Int×Int)}(hd:H1 d=some (.frz o (.dK (kL ps)))):∀i H2,aQ H1 H2 ->
  (i<ps.length->(Iti d o (kL ps)).go i H2)/\(∀v H3 x,(Iti d o (kL ps)).yld i H2 v H3->ps[i]?=some x->∃t,v=.ref t/\aQ H2 H3/\H3 t=some (.tup [.int x.1,.int x.2]))/\(ps.length<=i->(Iti d o (kL ps)).stop i H2):=fun i H2 S=>by
 refine⟨fun hi=>⟨S _ _ hd,by rw[j9];exact hi⟩,fun v H3 x yl ex=>?_,fun hi=>⟨S _ _ hd,by rw[j9];exact hi⟩⟩;obtain⟨t,k,y,rfl,ft,e,rfl⟩:=yl;rw[zw ex] at e;cases e;exact⟨t,rfl,aQ.upd ft,ae⟩
theorem xA {o}{ps:List (Int×Int)}(hd:H1 d=some (.frz o (.dK (kL ps)))):∀i H2,aQ H1 H2 ->
  (i<(ps.map fun p=>V.int p.2).length->(Itv d o (kL ps)).go i H2)/\(∀v H3,(Itv d o (kL ps)).yld i H2 v H3->i<(ps.map fun p=>V.int p.2).length->H3=H2/\(ps.map fun p=>V.int p.2)[i]?=some v)/\((ps.map fun p=>V.int p.2).length<=i->(Itv d o (kL ps)).stop i H2):=fun i H2 S=>by
 rw[af];refine⟨fun hi=>⟨S _ _ hd,by rw[j9];exact hi⟩,fun v H3 yl hi=>?_,fun hi=>⟨S _ _ hd,by rw[j9];exact hi⟩⟩;obtain⟨rfl,k,e⟩:=yl;rw[zw (aa hi)] at e;cases e;exact⟨rfl,by rw[aB,aa hi];rfl⟩
theorem tW {to:TE}{Q:VK}{ps:List (Int×Int)}(hto:∀R:VK,R (.ref d) H->to σ H R)(hd:H d=some (.dK (kL ps)))(hz:ps.length<=1000)(g:Int->V)
  (he:∀x∈ps,∀H2 (R:VK),KB d H H2->(∀H3,aQ H2 H3->R (g x.2) H3)->te (pd js σ (some (.int x.2))) H2 R)
  (q:∀l H',H l=none->aQ H H'->H' l=some (.lst (ps.map fun x=>g x.2))->Q (.ref l) H'):uz (uA js (zM to) (fun _ H Q=>Q true H) te) σ H Q:=by
 refine⟨d,_,hd,(fun _ _ z=>nomatch z),hto _ ⟨d,kL ps,rfl,hd,fun ob D hD=>?_⟩⟩;have kb:∀{H2:Hp},aQ (upd H d (.frz ob (.dK (kL ps)))) H2->KB d H H2:=fun S b o z n=>S _ _ (by rw[ak n];exact z)
 refine nM (js:=js) (tc:=fun _ H Q=>Q true H) (te:=te) (σ:=σ) (Q:=fun x H1=>∃o kvs,H1 d=some (.frz o (.dK kvs))/\Q x (upd H1 d (.dK kvs))) (ps.map fun p=>V.int p.2) (fun _=>true) (fun v=>match v with|.int z=>g z|v=>v) (xA ae) ?_ ?_ (by rw[af];lia) ?_ D hD
 ·exact fun v hv H2 R' S2 r=>r H2 (aQ.refl _)
 ·intro v hv _ H2 R' S2 r;obtain⟨c,hc,rfl⟩:=bC.mp hv;exact he c hc H2 R' (kb S2) r
 ·intro l H2 fl S2 e2;have e3:=S2 _ _ (ae (H:=H) (a:=d) (o:=.frz ob (.dK (kL ps))));refine⟨ob,kL ps,e3,q l _ ?_ (fun b o z=>?_) ?_⟩
  ·cases c:H l with
   | none=>rfl
   | some o=>
    by_cases hb:l=d
    ·subst hb;rw[ae] at fl;cases fl
    ·rw[ak hb,c] at fl;cases fl
  ·by_cases hb:b=d
   ·subst hb;rw[hd] at z;cases z;exact ae
   ·rw[ak hb];exact kb S2 b o z hb
  ·rw[ak (cJ e2 e3 (fun z=>nomatch z)),e2,filter_eq_self.mpr (fun _ _=>rfl),map_map];rfl
theorem rj {to:TE}{Q:VK}{ps:List (Int×Int)}(hto:∀R:VK,R (.ref d) H->to σ H R)(hd:H d=some (.dK (kL ps)))(hz:ps.length<=1000)(p:Int×Int->Bool)(g:Int×Int->V)
  (hc:∀x∈ps,∀H2 (R:Bool->Hp->Prop),KB d H H2->(∀H3,aQ H2 H3->R (p x) H3)->tc (k_ js σ (some (.int x.1)) (some (.int x.2))) H2 R)
  (he:∀x∈ps,p x=true->∀H2 (R:VK),KB d H H2->(∀H3,aQ H2 H3->R (g x) H3)->te (k_ js σ (some (.int x.1)) (some (.int x.2))) H2 R)
  (q:∀l H',H l=none->aQ H H'->H' l=some (.lst ((ps.filter p).map g))->Q (.ref l) H'):uz (rP K js (vV to) tc te) σ H Q:=by
 refine⟨d,_,hd,(fun _ _ z=>nomatch z),hto _ ⟨d,kL ps,rfl,hd,fun ob D hD=>?_⟩⟩;have kb:∀{H2:Hp},aQ (upd H d (.frz ob (.dK (kL ps)))) H2->KB d H H2:=fun S b o z n=>S _ _ (by rw[ak n];exact z)
 refine rq (K:=K) (js:=js) (tc:=tc) (te:=te) (σ:=σ) (Q:=fun x H1=>∃o kvs,H1 d=some (.frz o (.dK kvs))/\Q x (upd H1 d (.dK kvs))) ps p g (zH ae) (fun x hx H2 R S2 r=>hc x hx H2 R (kb S2) r) (fun x hx hp H2 R S2 r=>he x hx hp H2 R (kb S2) r) (by lia) ?_ D hD;intro l H2 fl S2 e2;have e3:=S2 _ _ (ae (H:=H) (a:=d) (o:=.frz ob (.dK (kL ps))))
 refine⟨ob,kL ps,e3,q l _ ?_ (fun b o z=>?_) ?_⟩
 ·cases c:H l with
  | none=>rfl
  | some o=>
   by_cases hb:l=d
   ·subst hb;rw[ae] at fl;cases fl
   ·rw[ak hb,c] at fl;cases fl
 ·by_cases hb:b=d
  ·subst hb;rw[hd] at z;cases z;exact ae
  ·rw[ak hb];exact kb S2 b o z hb
 ·rw[ak (cJ e2 e3 (fun z=>nomatch z)),e2]
theorem gQ:bootBuiltins "sorted" = some (.builtin "sorted"):=by decide +kernel
theorem qq (ns:List Int)(p:Int):(cf (kT ns) (Sum.inl p)).isSome=decide (p∈ns):=by
 induction ns with
 | nil=>rfl
 | cons n ns ih=>
  by_cases e:n=p
  ·subst e;rw[show kT (n::ns)=(Sum.inl n,V.bl true)::kT ns from rfl,cX rfl,av (bY ..)];rfl
  ·rw[show kT (n::ns)=(Sum.inl n,V.bl true)::kT ns from rfl,cV (fun z=>e (Sum.inl.inj z)),ih];exact decide_eq_decide.mpr ⟨fun h=>br _ h,fun h=>(bm.mp h).resolve_left fun z=>e z.symm⟩
theorem qr (ps:List (Int×Int))(p:Int):(cf (kL ps) (Sum.inl p)).isSome=decide (p∈ps.map (·.1)):=by
 induction ps with
 | nil=>rfl
 | cons n ns ih=>
  by_cases e:n.1=p
  ·subst e;rw[show kL (n::ns)=(Sum.inl n.1,V.int n.2)::kL ns from rfl,cX rfl,av (by simp)];rfl
  ·rw[show kL (n::ns)=(Sum.inl n.1,V.int n.2)::kL ns from rfl,cV (fun z=>e (Sum.inl.inj z)),ih];exact decide_eq_decide.mpr ⟨fun h=>br _ h,fun h=>(bm.mp h).resolve_left fun z=>e z.symm⟩
theorem oO {p:Int}(h:p∈ns):∃v,cf (kT ns) (Sum.inl p)=some v:=by
 have:=qq ns p;rw[av h] at this;exact isSome_iff_exists.mp this
theorem xq {ps:List (Int×Int)}{p:Int}(h:p∈ps.map (·.1)):∃v,cf (kL ps) (Sum.inl p)=some v:=by
 have:=qr ps p;rw[av h] at this;exact isSome_iff_exists.mp this
theorem xo {p:Int}(h:p∉ns):cf (kT ns) (Sum.inl p)=none:=by
 have:=qq ns p;rw[aF h] at this;cases c:cf (kT ns) (Sum.inl p) with
 | none=>rfl
 | some v=>rw[c] at this;cases this
theorem xt {ps:List (Int×Int)}{p:Int}(h:p∉ps.map (·.1)):cf (kL ps) (Sum.inl p)=none:=by
 have:=qr ps p;rw[aF h] at this;cases c:cf (kL ps) (Sum.inl p) with
 | none=>rfl
 | some v=>rw[c] at this;cases this
theorem sY {p:Int}(h:p∉ns):db (kT ns) (Sum.inl p) (V.bl true)=kT (ns++[p]):=by
 rw[iD _ (xo h)];unfold kT;rw[aW];rfl
theorem vR {ps:List (Int×Int)}{p l:Int}(h:p∉ps.map (·.1)):db (kL ps) (Sum.inl p) (V.int l)=kL (ps++[(p,l)]):=by
 rw[iD _ (xt h)];unfold kL;rw[aW];rfl
theorem oP (ns:List Int)(p:Int):gh (kT ns) (Sum.inl p)=kT (ns.filter fun n=>decide (n≠p)):=by
 unfold gh kT;rw[filter_map];congr 1;refine filter_congr fun n _=>decide_eq_decide.mpr ⟨fun h z=>h (bq Sum.inl z),fun h z=>h (Sum.inl.inj z)⟩
theorem xu (ps:List (Int×Int))(p:Int):gh (kL ps) (Sum.inl p)=kL (ps.filter fun x=>decide (x.1≠p)):=by
 unfold gh kL;rw[filter_map];congr 1;refine filter_congr fun n _=>decide_eq_decide.mpr ⟨fun h z=>h (bq Sum.inl z),fun h z=>h (Sum.inl.inj z)⟩
theorem sZ (ns:List Int):(kT ns).map (·.1)=ns.map Sum.inl:=by unfold kT;rw[map_map];rfl
def z6 (P:Program)(w:World)(K:Frag)(mg:Str->Option Value)(base:Heap)(CX:CXT)(C:Addr)(nm:Str)(ps:List Str)(k:Nat)(sp:Sp):Prop:=
 ∃f fd,Meth K C nm f/\eJ K fd ps []/\iX P w K mg base CX k f fd ps sp
structure RS where
 lap:Int
 us:List Int
 ks:List (Int×Int)
 fs:List Int
 cs:List (Int×Int)
variable {S:L2.RS}
def RS.places (S:RS):List Int:=S.us++S.ks.map (·.1)++S.fs
def iH (cs:List (Int×Int))(l:Int):Bool:=cs.all fun c=>decide (l<c.2)
def RS.rel (S:RS):RS:={ S with ks:=S.ks.filter (fun k=>!iH S.cs k.2),fs:=S.fs++(S.ks.filter fun k=>iH S.cs k.2).map (·.1) }
def RS.gone (S:RS)(p:Int):RS:={ S with us:=S.us.filter (fun n=>decide (n≠p)),ks:=S.ks++[(p,S.lap)],lap:=S.lap+1 }
def RS.come (S:RS)(n:Int):RS:={ S with cs:=S.cs++[(n,S.lap)] }
def RS.take (S:RS)(p:Int):RS:={ S with us:=S.us++[p],fs:=S.fs.filter fun n=>decide (n≠p) }
structure RS.Ok (S:RS):Prop where
 nd:S.places.Nodup
 rg:∀p∈S.places,0<=p/\p<(S.places.length:Nat)
 cn:(S.cs.map (·.1)).Nodup
 cr:∀c∈S.cs,0<=c.1/\c.1<=1000000
theorem jT {α:Type}(f:α->Bool):∀l:List α,(l.filter f++l.filter fun x=>!f x).Perm l
 | []=>.refl _
 | x::l=>by
  have ih:=jT f l;cases c:f x with
  | true=>rw[filter_cons_of_pos c,filter_cons_of_neg (by rw[c];decide)];exact ih.cons x
  | false=>
   rw[filter_cons_of_neg (by rw[c];decide),filter_cons_of_pos (by rw[c];rfl)];exact perm_middle.trans (ih.cons x)
theorem eC {p:Int}:∀{l:List Int},l.Nodup->p∈l->(p::l.filter fun n=>decide (n≠p)).Perm l
 | x::l,nd,h=>by
  obtain⟨n1,n2⟩:=bJ.mp nd;by_cases e:x=p
  ·subst e;have fs:=filter_eq_self.mpr fun y hy=>av (show y≠x from fun z=>n1 (by rw[<- z];exact hy));rw[filter_cons_of_neg (by simp),fs]
  ·rw[filter_cons_of_pos (by simpa using e)];exact(List.Perm.swap ..).trans ((eC n2 ((bm.mp h).resolve_left fun z=>e z.symm)).cons x)
theorem RS.Ok.of {S':RS}(o:S.Ok)(p:S'.places.Perm S.places)(c:S'.cs=S.cs):S'.Ok:=⟨p.nodup_iff.mpr o.nd,fun q hq=>by rw[p.length_eq];exact o.rg q (p.mem_iff.mp hq),by rw[c];exact o.cn,by rw[c];exact o.cr⟩
theorem RS.rel_perm (S:RS):S.rel.places.Perm S.places:=by
 unfold RS.places RS.rel;dsimp only
 have h1:((S.ks.filter fun k=>iH S.cs k.2).map (·.1)++(S.ks.filter fun k=>!iH S.cs k.2).map (·.1)).Perm (S.ks.map (·.1)):=by
  rw[<- aW];exact(jT (fun k:Int×Int=>iH S.cs k.2) S.ks).map _
 have h2:((S.ks.filter fun k=>!iH S.cs k.2).map (·.1)++(S.fs++(S.ks.filter fun k=>iH S.cs k.2).map (·.1))).Perm (S.ks.map (·.1)++S.fs):=by
  rw[<- aO];refine List.perm_append_comm.trans ?_;rw[<- aO];exact h1.append_right _
 rw[aO,aO];exact h2.append_left _
theorem RS.Ok.rel (o:S.Ok):S.rel.Ok:=o.of S.rel_perm rfl
theorem RS.gone_perm (o:S.Ok){p:Int}(h:p∈S.us):(S.gone p).places.Perm S.places:=by
 have nu:S.us.Nodup:=by
  have:=o.nd;unfold RS.places at this;rw[aO] at this;exact(bW.mp this).1
 unfold RS.places RS.gone;dsimp only;rw[aW];refine List.Perm.append_right _ ?_;rw[<- aO];exact List.perm_append_comm.trans ((eC nu h).append_right _)
theorem RS.Ok.gone (o:S.Ok){p:Int}(h:p∈S.us):(S.gone p).Ok:=o.of (RS.gone_perm o h) rfl
theorem RS.Ok.come (o:S.Ok){n:Int}(h0:0<=n)(h1:n<=1000000)(hn:n∉S.cs.map (·.1)):(S.come n).Ok:=by
 refine⟨o.nd,o.rg,?_,fun c hc=>?_⟩
 ·show ((S.cs++[(n,S.lap)]).map (·.1)).Nodup;rw[aW,bW];exact⟨o.cn,by simp,fun a ha b hb e=>hn (by have e2:b=n:=au.mp hb;rw[<- e2,<- e];exact ha)⟩
 ·rcases aT.mp hc with h|h
  ·exact o.cr c h
  ·rw[au.mp h];exact⟨h0,h1⟩
theorem RS.Ok.us (o:S.Ok):S.us.Nodup:=by
 have:=o.nd;unfold RS.places at this;rw[aO] at this;exact(bW.mp this).1
theorem RS.Ok.fsn (o:S.Ok):S.fs.Nodup:=(bW.mp o.nd).2.1
theorem RS.Ok.take (o:S.Ok){p:Int}(h:p∈S.fs):(S.take p).Ok:=by
 refine o.of ?_ rfl;unfold RS.places RS.take;dsimp only
 have:(S.us++[p]++S.ks.map (·.1)++(S.fs.filter fun n=>decide (n≠p))).Perm (S.us++S.ks.map (·.1)++(p::S.fs.filter fun n=>decide (n≠p))):=by
  rw[aO,aO,aO];refine List.Perm.append_left _ ?_;show (p::(S.ks.map (·.1)++_)).Perm _;exact(perm_middle (a:=p)).symm
 exact this.trans ((eC o.fsn h).append_left _)
theorem RS.Ok.new (o:S.Ok)(h:S.fs=[]):(S.take (S.places.length:Nat)).Ok:=by
 have ep:(S.take (S.places.length:Nat)).places.Perm (((S.places.length:Nat):Int)::S.places):=by
  unfold RS.places RS.take;dsimp only;rw[h,filter_nil,b_,b_,aO];exact perm_middle
 refine⟨ep.nodup_iff.mpr (bJ.mpr ⟨fun hm=>?_,o.nd⟩),fun q hq=>?_,o.cn,o.cr⟩
 ·have:=(o.rg _ hm).2
  lia
 ·rw[ep.length_eq,bf];rcases bm.mp (ep.mem_iff.mp hq) with e|e
  ·rw[e];lia
  ·have:=o.rg q e
   lia
def gB (l:List Addr)(H H':Hp):Prop:=∀b o,H b=some o->b∉l->H' b=some o
theorem gB.refl {l}:gB l H H:=fun _ _ h _=>h
theorem gB.trans {l}(a:gB l H H1)(b:gB l H1 H2):gB l H H2:=fun c o h n=>b c o (a c o h n) n
theorem gB.mono {l m}(a:gB l H H')(h:∀x∈l,x∈m):gB m H H':=fun c o e n=>a c o e fun z=>n (h c z)
theorem aQ.keep {l}(a:aQ H H'):gB l H H':=fun b o h _=>a b o h
theorem gB.upd {l}(a:gB l H H')(h:q∈l):gB l H (L2.upd H' q o):=fun b u e n=>by rw[ak (fun(z:b=q)=>n (by rw[z];exact h))];exact a b u e n
theorem gB.updN {l}(a:gB l H H')(h:H' q=none):gB l H (L2.upd H' q o):=fun b u e n=>by rw[ak (ah (a b u e n) h)];exact a b u e n
structure IsR (C x dx du dk df dc:Addr)(H:Hp)(S:RS):Prop where
 x:H x=some (.ins C dx [("in_use",.ref du),("kept_laps",.ref dk),("free_ones",.ref df),("call_laps",.ref dc),("lap_now",.int S.lap)])
 u:H du=some (.dK (kT S.us))
 k:H dk=some (.dK (kL S.ks))
 f:H df=some (.dK (kT S.fs))
 c:H dc=some (.dK (kL S.cs))
 nd:[du,dk,df,dc].Nodup
theorem IsR.same {x}(r:IsR C x dx du dk df dc H S)(s:aQ H H'):IsR C x dx du dk df dc H' S:=⟨s _ _ r.x,s _ _ r.u,s _ _ r.k,s _ _ r.f,s _ _ r.c,r.nd⟩
def RS.moved (S:RS):List Int:=(S.ks.filter fun k=>iH S.cs k.2).map (·.1)
theorem RS.Ok.ksn (o:S.Ok):(S.ks.map (·.1)).Nodup:=by
 have:=o.nd;unfold RS.places at this;rw[aO] at this;exact(bW.mp (bW.mp this).2.1).1
theorem RS.Ok.kf (o:S.Ok){p:Int}(h:p∈S.ks.map (·.1)):p∉S.fs:=fun hf=>by
 have:=(bW.mp o.nd).2.2 p (aU _ h) p hf;exact this rfl
theorem RS.Ok.uk (o:S.Ok){p:Int}(h:p∈S.us):p∉S.ks.map (·.1):=fun hk=>by
 have:=o.nd;unfold RS.places at this;rw[aO] at this;exact(bW.mp this).2.2 p h p (bE _ hk) rfl
theorem RS.Ok.uf (o:S.Ok){p:Int}(h:p∈S.us):p∉S.fs:=fun hk=>by
 have:=o.nd;unfold RS.places at this;rw[aO] at this;exact(bW.mp this).2.2 p h p (aU _ hk) rfl
theorem RS.moved_sub (S:RS){p:Int}(h:p∈S.moved):p∈S.ks.map (·.1):=by
 unfold RS.moved at h;obtain⟨k,hk,rfl⟩:=bC.mp h;exact bC.mpr ⟨k,(bZ.mp hk).1,rfl⟩
theorem RS.Ok.mvn (o:S.Ok):S.moved.Nodup:=o.ksn.sublist (List.Sublist.map _ List.filter_sublist)
theorem xD {ks:List (Int×Int)}(nd:(ks.map (·.1)).Nodup){a b:Int×Int}(ha:a∈ks)(hb:b∈ks)(e:a.1=b.1):a=b:=by
 induction ks with
 | nil=>cases ha
 | cons x xs ih=>
  rw[bH] at nd;obtain⟨n1,n2⟩:=bJ.mp nd;rcases bm.mp ha with rfl|ha'
  ·rcases bm.mp hb with rfl|hb'
   ·rfl
   ·exact aY (bC.mpr ⟨b,hb',e.symm⟩) n1
  ·rcases bm.mp hb with rfl|hb'
   ·exact aY (bC.mpr ⟨a,ha',e⟩) n1
   ·exact ih n2 ha' hb'
theorem RS.Ok.stay (o:S.Ok):(S.ks.filter fun k=>decide (k.1∉S.moved))=S.ks.filter fun k=>!iH S.cs k.2:=by
 refine filter_congr fun k hk=>?_;cases c:iH S.cs k.2 with
 | true=>
  have:k.1∈S.moved:=bC.mpr ⟨k,bZ.mpr ⟨hk,c⟩,rfl⟩;rw[aF (fun z=>z this)];rfl
 | false=>
  rw[av]
  ·rfl
  ·intro hm;obtain⟨k',hk',e⟩:=bC.mp hm;obtain⟨h1,h2⟩:=bZ.mp hk';rw[xD o.ksn h1 hk e,c] at h2;cases h2
theorem oS {ks:List (Int×Int)}{m:Int}(h:ms[i]?=some m):((ks.filter fun k=>decide (k.1∉ms.take i)).filter fun k=>decide (k.1≠m))=ks.filter fun k=>decide (k.1∉ms.take (i+1)):=by
 rw[List.filter_filter];refine filter_congr fun k _=>?_;rw[take_add_one,h];by_cases h1:k.1=m
 ·have hm:k.1∈ms.take i++[m]:=aU _ (au.mpr h1);rw[aF (fun z=>z h1),Bool.false_and];exact(aF fun z=>z hm).symm
 ·rw[av (show k.1≠m from h1),Bool.true_and];refine decide_eq_decide.mpr ⟨fun z hm=>?_,fun z hm=>z (bE _ hm)⟩;rcases aT.mp hm with q|q
  ·exact z q
  ·exact h1 (au.mp q)
theorem qf (nd:ms.Nodup){m:Int}(h:ms[i]?=some m):m∉ms.take i:=fun hm=>by
 obtain⟨hi,e⟩:=aq.mp h;obtain⟨j,hj,ej⟩:=bD hm;rw[bo] at hj;rw[List.getElem_take] at ej;have:=(List.getElem_inj nd).mp (ej.trans e.symm)
 lia
theorem uI {k}:∀{j:Nat},(kvs.map (·.1)).Nodup->(kvs.map (·.1))[j]?=some k->db kvs k v=kvs.set j (k,v):=by
 intro j nd h
 have any:(kvs.any fun kv=>decide (kv.1=k))=true:=by
  rw[any_eq_true];obtain⟨x,hx,e⟩:=bC.mp (aK h);exact⟨x,hx,av e⟩
 unfold db;rw[aH any];clear any
 induction kvs generalizing j with
 | nil=>cases h
 | cons x xs ih=>
  rw[bH] at nd h;obtain⟨n1,n2⟩:=bJ.mp nd;cases j with
  | zero=>
   have e:=aw h;rw[bH,aH e,List.set_cons_zero,e];congr 1;have:∀y∈xs,(if y.1=k then (y.1,v) else y)=y:=fun y hy=>aA fun z=>n1 (bC.mpr ⟨y,hy,by rw[z,e]⟩);exact(List.map_congr_left this).trans (map_id' xs)
  | succ j=>
   have h':=h;have ne:¬x.1=k:=fun z=>n1 (by rw[z];exact aK h');rw[bH,aA ne,List.set_cons_succ,ih n2 h']
theorem jy.snoc {ps t}{x:Int×Int}(h:jy H ts ps)(e:H t=some (.tup [.int x.1,.int x.2])):jy H (ts++[t]) (ps++[x]):=by
 refine⟨by rw[am,am,h.1];rfl,fun j u y a b=>?_⟩;by_cases hj:j<ts.length
 ·rw[aN hj] at a;rw[aN (by rw[<- h.1];exact hj)] at b;exact h.2 j u y a b
 ·rw[aM (by lia)] at a;rw[aM (by rw[<- h.1];lia),<- h.1] at b;cases c:j - ts.length with
  | zero=>
   rw[c] at a b;cases aw a;cases aw b;exact e
  | succ n=>rw[c] at a;cases a
end L2
variable {S:L2.RS}
namespace L2
open PySem PySem.Spec PyProof PyProof.Rows
def uh (CP:Addr->Prop)(m:Str)(sp:Sp)(dvs:List V)(E:XK)(Q:VK)(x:V)(H:Hp):Prop:=∃a C dx fs,x=.ref a/\CP C/\H a=some (.ins C dx fs)/\fs.lookup m=none/\sp (x::([]++dvs)) H Q E
def vB (CP:Addr->Prop)(m:Str)(sp:Sp)(dvs:List V)(E:XK)(ta:TE):TE:=fun σ H Q=>ta σ H (uh CP m sp dvs E Q)
section
variable {k:Nat}{E:XK}{pos:Pos}{o:Expr}
theorem mH (he:PE X o ta)(hm:∀C,CP C->Cls X.K C/\Meth X.K C m f)(F:iX X.prog X.w X.K X.mg X.base CX k f fd ps sp)(hr:nX k X.A)(hb:eJ X.K fd ps ds)(hd:cU dvs ds)(hx:ie CX X E)
  (ht:eval (.Call (.Attribute o m apos) [] [] pos) X.env=(do
   let ov <- eval o X.env
   standAt apos.atName
   let(f,first) <- holding [ov] (getMethod ov m pl)
   callWith pos f first (backTo pos (starEach [] X.env)) (backToKw pos (keywordEach [] X.env))):=by rfl) :
  PE X (.Call (.Attribute o m apos) [] [] pos) (vB CP m sp dvs E ta):=by
 intro pins s σ H Q I h;refine methodCall_KW (pl:=pl) (thn (he pins s σ H _ I h) fun u s1 ⟨x,H1,I1,rx,a,C,dx,fs,ex,hC,ea,l,q⟩=>?_) ht;cases ex;cases rx;exact jc I1 ea (hm C hC).1 (hm C hC).2 l (callWith_K0 (first:=[.ref a]) I1.kIn (hm C hC).2.kp (mD (us:=[.ref a]) (vs:=[.ref a]) F hr hb hd hx I1 (.cons rfl .nil) q))
end
section
variable {Q:VK}{E:XK}
theorem wz (h:ta σ H (uh CP m sp dvs E Q)):vB CP m sp dvs E ta σ H Q:=h
theorem sX {fs:List (Str×V)}(h:H a=some (.ins C dx fs))(c:CP C)(l:fs.lookup m=none)(q:sp (.ref a::([]++dvs)) H Q E):uh CP m sp dvs E Q (.ref a) H:=⟨a,C,dx,fs,rfl,c,h,l,q⟩
end
theorem Bc {A:Prop}(h:B):if (!true)=true then A else B:=fY h
theorem Bb {A:Prop}(h:A):if (!false)=true then A else B:=gC h
theorem gB.free {l}(k:gB l H H')(h:H' d=none)(n:d∉l):H d=none:=by
 cases c:H d with
 | none=>rfl
 | some o=>rw[k d o c n] at h;cases h
theorem dW {y dy o1 o2}(f1:H y=none)(f2:H dy=none)(e:H b=some o):upd (upd H dy o1) y o2 b=some o:=by
 rw[ak (ah e f1)];exact cm f2 e
def oV:Option Int->V|none=>.non|some i=>.int i
end L2
namespace L2
open PySem
theorem Chg.addS {h:Hp}{y}(s:aQ h H)(S:aQ H H1)(f:H y=none)(e:H1 y=some o):Chg h (upd h y o) H H1:=⟨fun b x z=>by
  by_cases c:b=y
  ·rw[c,ae] at z;rw[c,e];exact z
  ·rw[ak c] at z;exact S _ _ (s _ _ z),fun b x z _=>S _ _ z,fun b=>by
 by_cases c:b=y
 ·rw[c];exact .inr (.inr f)
 ·rw[ak c];exact(Chg.refl s).nw b⟩
theorem Chg.ext {h:Hp}{y}(c:Chg h h1 H H')(f:H y=none)(e:H' y=some o):Chg h (upd h1 y o) H H':=⟨fun b x z=>by
  by_cases d:b=y
  ·rw[d,ae] at z;rw[d,e];exact z
  ·rw[ak d] at z;exact c.sm _ _ z,c.fr,fun b=>by
 by_cases d:b=y
 ·rw[d];exact .inr (.inr f)
 ·rw[ak d];exact c.nw b⟩
theorem ik {p:Prop}[Decidable p]{A B:Prop}(c:p)(h:A):if decide p=true then A else B:=by rw[av c];exact gC h
theorem iW {p:Prop}[Decidable p]{A B:Prop}(c:¬p)(h:B):if decide p=true then A else B:=by rw[aF c];exact fY h
theorem u7 {p:Prop}[Decidable p]{A B:Prop}(c:¬p)(h:A):if (!decide p)=true then A else B:=by rw[aF c];exact gC h
def Aa (tv:TE)(rd:V->V->Hp->VK->Prop)(n:St->Hp->Prop)(σ:St)(x y:V)(H:Hp):Prop:=∃a v,x=.ref a/\pj H a y (some v)/\tv σ H fun y2 H3=>rd v y2 H3 fun z H4=>∃H5,rD H4 a y z H5/\n σ H5
theorem vE {n bk:St->Hp->Prop}(h:td σ H fun x H1=>ty σ H1 fun y H2=>Aa tv rd n σ x y H2):yw td ty tv rd ⟨n,rt,bk,ct⟩ σ H:=h
theorem vQ {n:St->Hp->Prop}{k}{i j:Int}(h:H a=some (.dK kvs))(e:cf kvs k=some (.int i))(l:kvs.length<sizeLine)(q:n σ (upd H a (.dK (db kvs k (.int (i+j)))))):Aa (tC (.int j)) BI n σ (.ref a) (kV k) H:=
 ⟨a,.int i,rfl,e▸pj.k (k:=k) h,i,j,rfl,rfl,_,rD.k h l,q⟩
def xP (a:Addr)(y z:V)(Q:VK)(H:Hp):Prop:=∃kvs k,H a=some (.dK kvs)/\y=kV k/\kvs.length<sizeLine/\(∀v,cf kvs k=some v->Q v H)/\(cf kvs k=none->Q z (upd H a (.dK (db kvs k z))))
def KDS (ty tx:TE)(σ:St)(Q:VK)(x:V)(H:Hp):Prop:=∃a,x=.ref a/\IsD H a/\ty σ H fun y H2=>tx σ H2 fun z H3=>xP a y z Q H3
theorem vG {Q}(h:td σ H (KDS ty tx σ Q)):yh td ty tx σ H Q:=h
theorem BR {Q}(h:H a=some (.dK kvs))(q:ty σ H fun y H2=>tx σ H2 fun z H3=>xP a y z Q H3):KDS ty tx σ Q (.ref a) H:=⟨a,rfl,.inl ⟨_,.inl h⟩,q⟩
theorem vP {Q:VK}{z k}(h:H a=some (.dK kvs))(l:kvs.length<sizeLine)(q1:∀v,cf kvs k=some v->Q v H)(q2:cf kvs k=none->Q z (upd H a (.dK (db kvs k z)))):xP a (kV k) z Q H:=⟨kvs,k,h,rfl,l,q1,q2⟩
def rsL (l:List Addr)(H:Hp):Hp:=fun b=>if b∈l then H b else none
theorem jj {l}(h:b∈l):rsL l H b=H b:=aH h
theorem uG {l}:aQ (rsL l H) H:=fun b o e=>by
 unfold rsL at e;by_cases c:b∈l
 ·rw[aH c] at e;exact e
 ·rw[aA c] at e;cases e
theorem vF {l}(h:rsL l H b≠none):b∈l:=by
 unfold rsL at h;by_cases c:b∈l
 ·exact c
 ·rw[aA c] at h;exact aY rfl h
theorem xE {h:Hp}{l}(k:gB l H H')(i:∀a∈l,h a≠none):∀b o,H b=some o->h b=none->H' b=some o:=fun b o e n=>k b o e fun z=>i b z n
theorem IsR.out {h:Hp}{r dr}(i:IsR C r dr du dk df dc h S)(n:d∉[r,du,dk,df,dc]):IsR C r dr du dk df dc (upd h d o) S:=by
 simp at n;obtain⟨n0,n1,n2,n3,n4⟩:=n;exact⟨by rw[ak (bM n0)];exact i.x,by rw[ak (bM n1)];exact i.u,by rw[ak (bM n2)];exact i.k,by rw[ak (bM n3)];exact i.f,by rw[ak (bM n4)];exact i.c,i.nd⟩
section
variable {xs:List α}{f:α->V}
end
def As (J:It)(g:TG)(tb:TS)(D:Ends)(σ:St)(H:Hp):Prop:=Ad (fun _ H R=>R J H) g tb D σ H
def KIL (K:Frag)(R:It->Hp->Prop)(x:V)(H:Hp):Prop:=∃a,x=.ref a/\(∃xs,SqL K H a xs)/\R (Itl K a) H
def KR1 (R:It->Hp->Prop)(vs:List V)(H:Hp):Prop:=∃j:Int,vs=[.int j]/\-(2 ^ 62)<=j/\j<2 ^ 62/\R (Itr 0 j.toNat) H
section
variable {D:Ends}{ta:TA}{R:It->Hp->Prop}{n bk:St->Hp->Prop}
theorem AD (h:wi σ H fun J H1=>As J g tb D σ H1):Ad wi g tb D σ H:=h
theorem Cj (h:tl σ H (KIL K R)):tH K tl σ H R:=h
theorem BQ (h:H a=some (.lst xs))(q:R (Itl K a) H):KIL K R (.ref a) H:=⟨a,rfl,⟨xs,SqL.of h⟩,q⟩
theorem yB (h:ta σ H (KR1 R)):zO ta σ H R:=h
theorem gA {j:Int}(h0:0<=j)(h1:j<=1000000)(q:R (Itr 0 j.toNat) H):KR1 R [.int j] H:=⟨j,rfl,by lia,by lia,q⟩
theorem pM (Pv:Nat->St->Hp->Prop)(h0:Pv 0 σ H)(hl:∀i σ H,i<=xs.length->Pv i σ H->H a=some (.lst xs))
  (hs:∀i x σ H,xs[i]?=some x->Pv i σ H->g x σ H fun σ2 H2=>tb ⟨Pv (i+1),rt,n,Pv (i+1)⟩ σ2 H2) (hd:∀σ H,Pv xs.length σ H->n σ H):As (Itl K a) g tb ⟨n,rt,bk,ct⟩ σ H:=
 qB (K:=K) (D:=⟨n,rt,bk,ct⟩) Pv h0 (fun i σ H a b=>SqL.of (hl i σ H a b)) hs hd
theorem iB {m:Nat}(Pv:Nat->St->Hp->Prop)(h0:Pv 0 σ H)
  (hs:∀i σ H,i<m->Pv i σ H->g (.int (lo+i)) σ H fun σ2 H2=>tb ⟨Pv (i+1),rt,n,Pv (i+1)⟩ σ2 H2) (hd:∀σ H,Pv m σ H->n σ H):As (Itr lo m) g tb ⟨n,rt,bk,ct⟩ σ H:=
 tM (D:=⟨n,rt,bk,ct⟩) Pv h0 hs hd
theorem eK {t u:TS}(R:St->Hp->Prop)(mk:∀N:St->Hp->Prop,(∀σ' H',R σ' H'->N σ' H')->t ⟨N,rt,bk,ct⟩ σ H)(q:∀σ' H',R σ' H'->u ⟨n,rt,bk,ct⟩ σ' H'):ya t u ⟨n,rt,bk,ct⟩ σ H:=mk _ q
end
theorem u_ {p:Int}:inV (.int p) (ns.map V.int)=decide (p∈ns):=by
 unfold inV;rw[Bool.eq_iff_iff,any_eq_true,decide_eq_true_iff];constructor
 ·rintro⟨v,hv,e⟩;obtain⟨z,hz,rfl⟩:=bC.mp hv;have:z=p:=by simpa[eqV] using e
  exact this▸hz
 ·intro h;exact⟨.int p,bC.mpr ⟨p,h,rfl⟩,by simp[eqV]⟩
theorem vq:(ns.map V.int).all jd=true:=by
 rw[all_eq_true];intro v hv;obtain⟨z,_,rfl⟩:=bC.mp hv;rfl
section
variable {g g' k k':Hp}
end
theorem KB.get {p}(k:KB p H H')(e:H b=some o)(n:b≠p):H' b=some o:=k _ _ e n
theorem KB.same {h:Hp}{p}(k:KB p H H')(s:aQ h H)(n:h p=none):aQ h H':=fun b o e=>k b o (s _ _ e) fun z=>by rw[z,n] at e;cases e
end L2
namespace L2
open PySem PyProof PyProof.Rows
section
variable {l:Addr}
end
section
variable {KK:Type}[DecidableEq KK]{knd:KeyKind prog w KK}{R:Result->Shared->Prop}
end
section
variable {KK:Type}[DecidableEq KK]{knd:KeyKind prog w KK}{l:Addr}{its:Array Value}{n:Nat}
end
section
end
end L2
namespace L2
open PySem PySem.Spec PyProof PyProof.Rows
def ItZ (K:Frag)(a b:Addr):It:=
 ⟨fun i H=>∃xs ys x y,SqL K H a xs/\SqL K H b ys/\xs[i]?=some x/\ys[i]?=some y,fun i H v H'=>∃t x y,v=.ref t/\H t=none/\(∀xs ys,SqL K H a xs->SqL K H b ys->xs[i]?=some x/\ys[i]?=some y)/\H'=upd H t (.tup [x,y]),
  fun i H=>∃xs ys,SqL K H a xs/\SqL K H b ys/\(xs.length=i\/ys.length=i)⟩
theorem Inv.listAt (I:Inv X pins σ H s)(h:SqL X.K H a xs):∃us:List Value,cU xs us/\s.heap.IsList a us.toArray:=by
 obtain⟨us,r,⟨o,n,e1,e2,_,e4⟩,_⟩:=I.list h;exact⟨us,r,o,e1,e2,n,e4⟩
theorem rJ (a b z TI TO i1 i2:Addr)(Z:ZipApart z TI TO i1 i2 a b) :
  Turn P w K (.Tuple elts kk tpos) (ItZ K a b) [z,TI,TO,i1,i2] z (fun i h=>IsZip h z TI TO .none/\IsPair h TI (.ref i1) (.ref i2)/\(∃u v,IsPair h TO u v)/\h.IsListIter i1 a i/\h.IsListIter i2 b i) where
 mem:=by simp
 obj:=fun i h ⟨gz,gI,⟨u,v,gO⟩,⟨o1,e1,_,d1⟩,⟨o2,e2,_,d2⟩⟩ c hc=>by
  simp at hc;rcases hc with rfl|rfl|rfl|rfl|rfl
  ·exact⟨_,gz,fun v z=>by have z':Data.fields _=Data.cell v:=z;cases z'⟩
  ·exact⟨_,gI,fun v z=>by have z':Data.seq _ _=Data.cell v:=z;cases z'⟩
  ·exact⟨_,gO,fun v z=>by have z':Data.seq _ _=Data.cell v:=z;cases z'⟩
  ·exact⟨_,e1,fun v z=>by rw[d1] at z;cases z⟩
  ·exact⟨_,e2,fun v z=>by rw[d2] at z;cases z⟩
 keep:=fun i h h' ⟨gz,gI,⟨u,v,gO⟩,⟨o1,e1,d1⟩,⟨o2,e2,d2⟩⟩ k=>⟨k z (by simp) _ gz,k TI (by simp) _ gI,⟨u,v,k TO (by simp) _ gO⟩,⟨o1,k i1 (by simp) _ e1,d1⟩,o2,k i2 (by simp) _ e2,d2⟩
 item:=by
  intro X hP hw hK hc i pins s σ H E I hf st hg;subst hP hw hK;obtain⟨gz,gI,⟨u,v,gO⟩,h1,h2⟩:=st;obtain⟨xs,ys,x,y,qx,qy,ex,ey⟩:=hg;obtain⟨us,rx,px⟩:=I.listAt qx;obtain⟨vs,ry,py⟩:=I.listAt qy;obtain⟨u1,hu1,ru1⟩:=rx.get ex;obtain⟨u2,hu2,ru2⟩:=ry.get ey;refine wpAny_pyNext_zip_item Z gz gI gO h1 h2 px py (x:=u1) (y:=u2) (by simpa using hu1) (by simpa using hu2) fun h' zo gO' t1 t2 hT sz kp=>⟨_,rfl,?_⟩
  refine wpAny_letOwnedTupleGo_zip (s:={ s with heap:=h' }) zo fun h3 gz3 sb=>?_;replace sb:Heap.SameBut z h' h3:=sb;have old:∀{c:Addr} {o:Obj},s.heap.get? c=some o->c≠s.heap.objs.size:=fun e=>aP (aZ e)
  have J:Inv X pins σ (upd H s.heap.objs.size (.tup [x,y])) { s with heap:=h3,toks:=s.toks }:=by
   refine I.turnT (xs:=[x,y]) (us:=[u1,u2]) [z,TI,TO,i1,i2] hf (fun c o hc e=>?_) (by lia) (.cons ru1 (.cons ru2 .nil)) (by show 2<=sizeLine;decide) (sb.extBut _ _ (bM (old gz)) hT);simp at hc;exact sb.extBut _ _ hc.1 (kp c o hc.1 hc.2.2.1 hc.2.2.2.1 hc.2.2.2.2 e)
  obtain⟨p1,q1,r1⟩:=t1;obtain⟨p2,q2,r2⟩:=t2;refine⟨.ref s.heap.objs.size,_,J,rfl,⟨_,x,y,rfl,I.hok.fresh (by lia),fun xs' ys' qx' qy'=>?_,rfl⟩,⟨gz3,sb.extBut _ _ Z.TIz (kp _ _ Z.TIz Z.TITO Z.TIi1 Z.TIi2 gI),⟨_,_,sb.extBut _ _ Z.TOz gO'⟩,⟨p1,sb.extBut _ _ Z.i1z q1,r1⟩,p2,sb.extBut _ _ Z.i2z q2,r2⟩,fun c hc=>?_⟩
  ·rw[I.list_inj qx' qx,I.list_inj qy' qy];exact⟨ex,ey⟩
  ·have ne:c≠s.heap.objs.size:=by
    obtain⟨o1,e1,_⟩:=h1;obtain⟨o2,e2,_⟩:=h2;simp at hc;rcases hc with rfl|rfl|rfl|rfl|rfl
    ·exact old gz
    ·exact old gI
    ·exact old gO
    ·exact old e1
    ·exact old e2
   rw[ak ne];exact(hf c hc).1
 done:=by
  intro X hP hw hK hc i pins s σ H E I hf st hg;subst hP hw hK;obtain⟨gz,gI,⟨u,v,gO⟩,h1,h2⟩:=st;obtain⟨xs,ys,qx,qy,en⟩:=hg;obtain⟨us,rx,px⟩:=I.listAt qx;obtain⟨vs,ry,py⟩:=I.listAt qy
  refine wpAny_pyNext_zip_end (I.ok.hd hc) Z gz gI gO h1 h2 px py (en.imp (fun e=>Array.getElem?_eq_none (by rw[aJ,<- rx.length];lia)) fun e=>Array.getElem?_eq_none (by rw[aJ,<- ry.length];lia)) fun h' kp=>⟨rfl,?_⟩;refine I.turnN (t':=s.toks) [z,TI,TO,i1,i2] hf fun c o hc e=>?_;simp at hc;exact kp c o hc.1 hc.2.2.1 hc.2.2.2.1 hc.2.2.2.2 e
 self:=fun _ _ _ _ _ st h=>wpAny_pyIter_zip st.1 h
section
def zL (K:Frag)(ta:TA):TI:=fun σ H R=>ta σ H fun vs H1=>∃a b,vs=[.ref a,.ref b]/\(∃xs,SqL K H1 a xs)/\(∃ys,SqL K H1 b ys)/\R (ItZ K a b) H1
theorem su {pos:Pos}{l ta}(hg:Gl X "zip")(hm:X.mg "zip" = none)(hv:bootBuiltins "zip" = some (.type "zip"))(ha:PA X [l,l'] ta)(sa:dq l=false:=by rfl)(sb:dq l'=false:=by rfl) :
  PI X (.Tuple elts kk tpos) (.Call (.Name "zip" p) [l,l'] [] pos) (zL X.K ta):=by
 intro pins s σ H R I h;refine Call_ (h_ I hg hm hv (PyProof.Rows.callWith_type1 (thn (ha pos pins s σ H _ I h) fun us s1 ⟨vs,H1,I1,r1,q1⟩=>?_) (eZ sa) (by rw[eZ sb];rfl)));obtain⟨a,b,rfl,⟨xs,qx⟩,⟨ys,qy⟩,q⟩:=q1;obtain⟨u1,u2,rfl,e1,e2⟩:=mz r1;cases e1;cases e2;obtain⟨us,rx,px⟩:=I1.listAt qx;obtain⟨ws,ry,py⟩:=I1.listAt qy;refine call_zip_2 px py fun h1 gz gI gO i1 i2 sz kp=>?_
 have a1:a<s1.heap.objs.size:=let⟨_,e,_⟩:=px;aZ e;have a2:b<s1.heap.objs.size:=let⟨_,e,_⟩:=py;aZ e
 have Z:ZipApart (s1.heap.objs.size+4) (s1.heap.objs.size+2) (s1.heap.objs.size+3) s1.heap.objs.size (s1.heap.objs.size+1) a b:=by
  constructor<;>(intro e;simp only[Addr] at *;lia)
 refine wpAny_pyIter_zip gz ⟨s1.heap.objs.size+4,[s1.heap.objs.size+4,s1.heap.objs.size+2,s1.heap.objs.size+3,s1.heap.objs.size,s1.heap.objs.size+1],_,_,H1,rfl,I1.kept (t':=s1.toks) kp,rJ a b _ _ _ _ _ Z,⟨gz,gI,⟨_,_,gO⟩,i1,i2⟩,fun c hc=>?_,q⟩
 have lc:s1.heap.objs.size<=c:=by
  simp at hc;rcases hc with rfl|rfl|rfl|rfl|rfl<;>(simp only[Addr] at *;lia)
 exact I1.fpOk lc (I1.hok.fresh lc)
end
def ItE (K:Frag)(a:Addr):It:=
 ⟨fun i H=>∃xs x,SqL K H a xs/\xs[i]?=some x,fun i H v H'=>∃t x,v=.ref t/\H t=none/\(∀xs,SqL K H a xs->xs[i]?=some x)/\H'=upd H t (.tup [.int i,x]),fun i H=>∃xs,SqL K H a xs/\xs.length=i⟩
theorem qL (a e it:Addr)(h1:e≠it)(h2:a≠e)(h3:a≠it) :
  Turn P w K (.Tuple elts kk tpos) (ItE K a) [e,it] e (fun i h=>(∃old,IsEnum h e it i old)/\h.IsListIter it a i) where
 mem:=by simp
 obj:=fun i h ⟨⟨old,he⟩,⟨o,q,_,d⟩⟩ b hb=>by
  simp at hb;rcases hb with rfl|rfl
  ·exact⟨_,he,fun v z=>by have z':Data.fields _=Data.cell v:=z;cases z'⟩
  ·exact⟨o,q,fun v z=>by rw[d] at z;cases z⟩
 keep:=fun i h h' ⟨⟨old,he⟩,⟨o,q,d⟩⟩ k=>⟨⟨old,k e (by simp) _ he⟩,o,k it (by simp) _ q,d⟩
 item:=by
  intro X hP hw hK hc i pins s σ H E I hf st hg;subst hP hw hK;obtain⟨⟨old,he⟩,hi⟩:=st;obtain⟨xs,x,hq,hx⟩:=hg;obtain⟨us,rv,p⟩:=I.listAt hq;obtain⟨u,hu,ru⟩:=rv.get hx;have hlt:i<us.toArray.size:=by rw[aJ,<- rv.length];exact(aq.mp hx).1
  have hh:X.A.in1.handled=none:=I.ok.hd hc;refine wpAny_pyNext_enum_itemD (Draws.list hh it a h3 us.toArray) he ⟨hi,p⟩ hlt h1 (by simp[h1,h2.symm]) fun x' h' tk hP hout hSt hT hsz hk=>⟨_,rfl,?_⟩;have ex:=aw ((by simpa using hP:us[i]?=some x').symm.trans hu);subst ex;refine wpAny_letOwnedTupleGo_enum (s:={ s with heap:=h',toks:=tk+1 }) hout fun h3' he3 sb=>?_
  have old:∀{c:Addr} {o:Obj},s.heap.get? c=some o->c≠s.heap.objs.size:=fun z=>aP (aZ z);obtain⟨⟨oi,qi,di⟩,_⟩:=hSt
  have J:Inv X pins σ (upd H s.heap.objs.size (.tup [.int i,x])) { s with heap:=h3',toks:=tk+1 }:=by
   refine I.turnT (xs:=[.int i,x]) (us:=[.int i tk,x']) [e,it] hf (fun c o hc z=>?_) (by lia) (.cons ⟨tk,rfl⟩ (.cons ru .nil)) (by show 2<=sizeLine;decide) (sb.extBut _ _ (bM (old he)) hT);simp at hc;exact sb.extBut _ _ hc.1 (hk c o hc.1 hc.2 z)
  refine⟨.ref s.heap.objs.size,_,J,rfl,⟨_,x,rfl,I.hok.fresh (by lia),fun ys hy=>by rw[I.list_inj hy hq];exact hx,rfl⟩,⟨⟨_,by simpa using he3⟩,oi,sb.extBut _ _ h1.symm qi,di⟩,fun b hb=>?_⟩
  have ne:b≠s.heap.objs.size:=by
   obtain⟨o,z,_⟩:=hi;simp at hb;rcases hb with rfl|rfl
   ·exact old he
   ·exact old z
  rw[ak ne];exact(hf b hb).1
 done:=by
  intro X hP hw hK hc i pins s σ H E I hf st hg;subst hP hw hK;obtain⟨⟨old,he⟩,hi⟩:=st;obtain⟨xs,hq,hx⟩:=hg;obtain⟨us,rv,p⟩:=I.listAt hq;have en:i=us.toArray.size:=by rw[aJ,<- rv.length];exact hx.symm
  subst en;have hh:X.A.in1.handled=none:=I.ok.hd hc;obtain⟨f0,f1,f2,f3,f4,f5⟩:=hf it (by simp);exact wpAny_pyNext_enum_endD (Draws.list hh it a h3 us.toArray) he ⟨hi,p⟩ fun h' eb=>⟨rfl,I.turned (t':=s.toks) (fun b o hb q=>eb b o hb q) f0 f1 f3 f4 f5⟩
 self:=fun _ _ _ _ _ ⟨⟨_,he⟩,_⟩ h=>wpAny_pyIter_enum he h
section
def vW (K:Frag)(ta:TA):TI:=fun σ H R=>ta σ H fun vs H1=>∃a,vs=[.ref a]/\(∃xs,SqL K H1 a xs)/\R (ItE K a) H1
theorem gm {pos:Pos}{l ta}(hg:Gl X "enumerate")(hm:X.mg "enumerate" = none)(hv:bootBuiltins "enumerate" = some (.type "enumerate"))(ha:PA X [l] ta)(hs:starEach [l] X.env=[(false,eval l X.env)]:=by rfl) :
  PI X (.Tuple elts kk tpos) (.Call (.Name "enumerate" p) [l] [] pos) (vW X.K ta):=by
 intro pins s σ H R I h;refine Call_ (h_ I hg hm hv (PyProof.Rows.callWith_type1 (thn (ha pos pins s σ H _ I h) fun us s1 ⟨vs,H1,I1,r1,q1⟩=>?_) hs rfl));obtain⟨a,rfl,⟨xs,hq⟩,q⟩:=q1;obtain⟨u,rfl,ru⟩:=g6 r1;cases(show u=Value.ref a from ru);obtain⟨its,rv,p⟩:=I1.listAt hq;have alt:a<s1.heap.objs.size:=let⟨_,e,_⟩:=p;aZ e
 refine call_enumerate_list p fun h' he hS _ hk=>wpAny_pyIter_enum (s:={ s1 with heap:=h' }) he ⟨s1.heap.objs.size+1,[s1.heap.objs.size+1,s1.heap.objs.size],_,_,H1,rfl,I1.kept (t':=s1.toks) hk,qL a _ _ (ne_of_gt (lt_succ_self _)) (aP (lt_succ_of_lt alt)) (aP alt),⟨⟨_,by simpa using he⟩,hS⟩,fun b hb=>?_,q⟩
 have lc:s1.heap.objs.size<=b:=by
  simp at hb;rcases hb with rfl|rfl<;>(simp only[Addr] at *;lia)
 exact I1.fpOk lc (I1.hok.fresh lc)
theorem tN {D:Ends}(Pv:Nat->St->Hp->Prop)(h0:Pv 0 σ H)(hl:∀i σ H,i<=xs.length->Pv i σ H->SqL K H a xs)
  (hs:∀i x t σ H,xs[i]?=some x->Pv i σ H->H t=none->g (.ref t) σ (upd H t (.tup [.int i,x])) fun σ2 H2=>tb { D with nx:=Pv (i+1),ct:=Pv (i+1),bk:=D.nx } σ2 H2) (hd:∀σ H,Pv xs.length σ H->D.nx σ H):Ad (fun _ H R=>R (ItE K a) H) g tb D σ H:=by
 refine⟨fun i m σ H=>m=xs.length - i/\i<=xs.length/\Pv i σ H,⟨xs.length,by simp,zero_le _,h0⟩,?_⟩;rintro i m σ H ⟨rfl,hi,p⟩;have q:=hl i σ H hi p;by_cases hlt:i<xs.length
 ·refine .inr ⟨⟨xs,xs[i],q,by simp[hlt]⟩,Pv (i+1),fun σ' H' p'=>⟨xs.length - (i+1),by lia,rfl,hlt,p'⟩,fun x H' y=>?_⟩;obtain⟨t,z,rfl,ht,hy,rfl⟩:=y;exact hs i z t σ H (hy xs q) p ht
 ·have e:i=xs.length:=by lia
  subst e;exact .inl ⟨⟨xs,q,rfl⟩,hd σ H p⟩
theorem tX (hh:X.A.handled=none):fX X (.type "set") (fun xs H Q=>∃(a:Addr) (ns:List Int),xs=[.ref a]/\H a=some (.lst (ns.map V.int))/\ns.length<=100 /\
  ∀l,H l=none->Q (.ref l) (upd H l (.set (fun k=>(fm ns ns.length).any (· == k)) (fm ns ns.length).length))):=by
 intro pins s σ H xs us Q I r h;obtain⟨a,ns,rfl,hl,hz,q⟩:=h;obtain⟨u,rfl,rx⟩:=g6 r;cases rx;obtain⟨_,its,n,rv,g⟩:=(show cE X.prog X.w H s.heap a (.lst (ns.map V.int)) from I.hok a _ hl);have e1:its.toArray.size=ns.length:=by have:=rv.length;rw[af] at this;simp[<- this]
 have sb:scanBound > 200:=by decide
 refine call_set_list (items:=its.toArray) (ns:=ns) hh ⟨_,g,rfl,n,rfl⟩ (by simpa using nr rv) (by rw[e1];lia) fun h' tk hS k=>?_;rw[e1] at hS;exact⟨.ref s.heap.objs.size,_,I.laid (a:=s.heap.objs.size) (o:=.set (fun k=>(fm ns ns.length).any (· == k)) (fm ns ns.length).length) (t':=tk) (fun b o e=>k b o (aZ e) e) (by lia) hS,rfl,q _ (I.hok.fresh (by lia))⟩
end
end L2
namespace L2
open PySem PySem.Spec PyProof.Rows
section
def wB:V->List V->Hp->VK->Prop:=fun x vs H Q=>∃l xs i y,x=.ref l/\vs=[.int i,y]/\H l=some (.lst xs)/\0<=i/\i<=xs.length/\xs.length<sizeLine/\Q .non (upd H l (.lst (xs.take i.toNat++y::xs.drop i.toNat)))
theorem sP:MtM X "list.insert" wB:=by
 intro pins s σ H x vs v us Q I rx rv h;obtain⟨l,xs,i,y,rfl,rfl,hH,h1,h2,hz,q⟩:=h;cases rx;obtain⟨u,u2,rfl,⟨t,rfl⟩,r2⟩:=rv.two;obtain⟨z,its,n,r,hl,e⟩:=I.lstM hH;have big:(sizeLine:Int)<2 ^ 63:=by decide
 refine call_meets F.slot_list_insert ⟨_,e,rfl⟩ F.entry_list_insert (F.args_list_insert_3 _ _ _)
  (AutoSeq1.list_insert_list_int_val_1 l its.toArray n i t u2 (by rw[fitsIndex_both (by lia) (by lia)];exact ay) (by rw[aJ];lia)) ⟨e,?_⟩
 refine⟨.non,_,I.lset (its':=its.take i.toNat++u2::its.drop i.toNat) hH e ?_ ((r.take _).append (.cons r2 (r.drop _))) ?_,rfl,q⟩
 ·rw[aA (by lia)]
  apply Array.toList_inj.mp
  simp;rw[show min i.toNat its.length=i.toNat by lia,take_of_length_le (l:=its.drop i.toNat) (by rw[bO];exact aE _)]
 ·rw[am,bf,bo,bO]
  lia
theorem xF:fillsInplaceSlot (.type "list") "add" (Operator.Add==.Add)=pure false:=by
 unfold fillsInplaceSlot;show (typeLookup (.type "list") (dunderI "add") >>= fun fi=>pure (fi.isSome && !isSeqSlot fi))=pure false;rw[F.slot_list_iadd.lookup,pure_bind];exact bq pure (by decide +kernel)
theorem wo:seqSlot? (.type "list") (dunderI "add")=pure (some (.builtin "list.__iadd__")):=by
 unfold seqSlot?;rw[F.slot_list_iadd.lookup,pure_bind]
 kernel_rfl
def zJ:TIp:=fun x y H Q=>∃l b xs zs,x=.ref l/\y=.ref b/\H l=some (.lst xs)/\H b=some (.lst zs)/\xs.length+zs.length<=sizeLine/\Q (.ref l) (upd H l (.lst (xs++zs)))
theorem vU:PIp X .Add zJ:=by
 intro pins s σ H x y v u Q I rx ry h;obtain⟨l,b,xs,zs,rfl,rfl,hH,hB,hz,q⟩:=h;cases rx;cases ry;obtain⟨z,its,n,r,hl,e⟩:=I.lstM hH;obtain⟨z2,its2,n2,r2,hl2,e2⟩:=I.lstM hB;have tl:s.TypeIs (.ref l) "list":=⟨_,e,rfl⟩;have tb:s.TypeIs (.ref b) "list":=⟨_,e2,rfl⟩;have hsz:its.toArray.size+its2.toArray.size<=sizeLine:=by rw[aJ,aJ];lia
 have hlong:¬(!its.toArray.isEmpty&&listTooLong (its.toArray.size+its2.toArray.size))=true:=by
  rw[qh hsz,Bool.and_false];exact ay
 unfold inplaceOp;refine bv (ac (wpAny_typeOf tl (ac (wpAny_of_eq xF ?_))));rw[aA ay];refine ac (wpAny_binaryOp1_none (nm:="add") tl tb noFill_list_add ?_);refine ac (wpAny_of_eq wo (ac (wpAny_rule ?_)))
 exact call_meets F.slot_list_iadd tl F.entry_list_iadd (F.args_list_iadd_2 _ _) (AutoSeq1.list___iadd___list_list_0 l its.toArray n b its2.toArray n2 hlong (by rw[aJ];lia) (by lia)) ⟨e,e2,⟨.ref l,_,I.lset (its':=its++its2) hH e (by simp) (r.append r2) (by rw[am];exact hz),rfl,q⟩⟩
end
section
theorem nP (hh:X.A.handled=none):fX X (.builtin "max") (fun xs H Q=>∃(a:Addr) (kvs:List (Key×V)) (ns:List Int),xs=[.ref a]/\Rd H a (.dK kvs)/\kvs.map (·.1)=ns.map Sum.inl/\ns≠[] /\
  ∀m:Int,m∈ns->(∀n∈ns,n<=m)->Q (.int m) H):=by
 intro pins s σ H xs us Q I r h;obtain⟨a,kvs,ns,rfl,hk,ek,hne,q⟩:=h;obtain⟨u,rfl,ru⟩:=g6 r;cases ru;obtain⟨hz,hS,vs,rk,m⟩:=jB I.hok hk;obtain⟨ep,hm⟩:=m.dictAt
 have e1:vs.map (·.1)=kvs.map (·.1):=by
  clear hz m hm q hk ek
  induction rk with
  | nil=>rfl
  | cons a b ih=>rw[bH,bH,ih,a.1]
 have lv:vs.length=ns.length:=by
  have:=bq List.length (e1.trans ek);simpa using this
 have lp:=length_pos_iff.mpr hne;refine call_max_walk (wpAny_pyIter_dict hS hm ?_);have alt:=hm.lt_size;have hh1:X.A.in1.handled=none:=hh
 refine⟨s.heap.objs.size,_,_,vs.length,_,_,fun i j=>decide (ns.getD i 0 > ns.getD j 0),rfl,Walks.dictKeys (knd:=bX X.prog X.w) hh1 s.heap.objs.size a (aP alt) vs ep,⟨⟨_,aV _ rfl,rfl,rfl⟩,hm.push _⟩,fun b hb=>?_,by lia,?_,fun v h' tk hP kp=>?_⟩
 ·rw[cj];rcases bm.mp hb with e|hb
  ·rw[e];exact lt_succ_self _
  ·rw[au.mp hb];exact lt_succ_of_lt alt
 ·refine CmpOf.ints_gt (fun i=>ns.getD i 0) fun i v hP=>?_;obtain⟨k,x,e2,e3⟩:=hP;have e4:(vs.map (·.1))[i]?=some k:=by rw[aB,e2];rfl
  rw[e1,ek,aB] at e4;obtain⟨n,en,rfl⟩:=bt.mp e4;rw[bP,en];rw[eU] at e3;exact isInt_shape (show Value.isInt n v=true from e3)
 ·obtain⟨b1,b2⟩:=argBest_gt (fun i=>ns.getD i 0) (vs.length - 1);obtain⟨k,x,e2,e3⟩:=hP;have e4:(vs.map (·.1))[argBest (fun i j=>decide (ns.getD i 0 > ns.getD j 0)) (vs.length - 1)]?=some k:=by rw[aB,e2];rfl
  rw[e1,ek,aB] at e4;obtain⟨n,en,rfl⟩:=bt.mp e4;rw[eU] at e3;obtain⟨t,rfl⟩:=isInt_shape (show Value.isInt n v=true from e3)
  have I1:Inv X pins σ H { s with heap:=h',toks:=tk }:=I.kept fun b o z=>kp b o (fun hb=>by
   have lt:=aZ z;rw[au.mp hb] at lt
   exact lt_irrefl _ lt) (az _ z)
  refine⟨.int n,H,I1,⟨t,rfl⟩,q n (aK en) fun n' hn'=>?_⟩;obtain⟨j,hj,rfl⟩:=bD hn';have:=b2 j (by lia);rw[bP,bP,en,aa hj] at this;exact this
theorem tZ (hh:X.A.handled=none):fX X (.builtin "max") (fun xs H Q=>∃(a:Addr) (ns:List Int),xs=[.ref a]/\SqL X.K H a (ns.map V.int)/\ns≠[]/\∀m:Int,m∈ns->(∀n∈ns,n<=m)->Q (.int m) H):=by
 intro pins s σ H xs us Q I r h;obtain⟨a,ns,rfl,hq,hne,q⟩:=h;obtain⟨u,rfl,ru⟩:=g6 r;cases ru;obtain⟨its,rv,pl,hz⟩:=I.list hq;have li:=pl.isList;have ll:=rv.length;rw[af] at ll;have lp:=length_pos_iff.mpr hne;have alt:a<s.heap.objs.size:=let⟨_,e,_⟩:=li;aZ e;have hh1:X.A.in1.handled=none:=hh
 have get:∀i v,its.toArray[i]?=some v->∃n,ns[i]?=some n/\∃t,v=Value.int n t:=fun i v e=>by
  rw[List.getElem?_toArray] at e;have li:i<ns.length:=by rw[ll];exact(aq.mp e).1
  obtain⟨w,e2,r2⟩:=rv.get (i:=i) (x:=.int ns[i]) (by rw[aB,aa li];rfl);rw[e] at e2;cases e2;exact⟨_,aa li,r2⟩
 refine call_max_walk (wpAny_pyIter_list li ?_);refine⟨s.heap.objs.size,_,_,_,_,_,fun i j=>decide (ns.getD i 0 > ns.getD j 0),rfl,Walks.list hh1 s.heap.objs.size a (aP alt) its.toArray,⟨⟨_,aV _ rfl,rfl,rfl⟩,li.push _⟩,fun b hb=>?_,by rw[aJ];lia,?_,fun v h' tk hP kp=>?_⟩
 ·rw[cj];rcases bm.mp hb with e|hb
  ·rw[e];exact lt_succ_self _
  ·rw[au.mp hb];exact lt_succ_of_lt alt
 ·refine CmpOf.ints_gt (fun i=>ns.getD i 0) fun i v hP=>?_;obtain⟨n,e,t,rfl⟩:=get i v hP;exact⟨t,by rw[bP,e];rfl⟩
 ·obtain⟨b1,b2⟩:=argBest_gt (fun i=>ns.getD i 0) (its.toArray.size - 1);obtain⟨n,en,t,rfl⟩:=get _ v hP
  have I1:Inv X pins σ H { s with heap:=h',toks:=tk }:=I.kept fun b o z=>kp b o (fun hb=>by
   have lt:=aZ z;rw[au.mp hb] at lt
   exact lt_irrefl _ lt) (az _ z)
  refine⟨.int n,H,I1,⟨t,rfl⟩,q n (aK en) fun n' hn'=>?_⟩;obtain⟨j,hj,rfl⟩:=bD hn';have:=b2 j (by rw[aJ];lia);rw[bP,bP,en,aa hj] at this;exact this
end
def Itd (lo:Int)(n:Nat):It:=⟨fun i _=>i<n,fun i H x H'=>H'=H/\x=.int (lo - i),fun i _=>n<=i⟩
theorem rL (it:Addr)(lo:Int)(n:Nat):Turn P w K tg (Itd lo n) [it] it (fun i h=>IsRangeIter h it (lo+(i:Nat) * (-1)) ((n:Int) - (i:Nat)) (-1)) where
 mem:=by simp
 obj:=fun i h st b hb=>by
  have e:b=it:=by simpa using hb
  subst e;exact⟨_,st,fun v z=>Data.noConfusion (show Data.fields _=Data.cell v from z)⟩
 keep:=fun i h h' st k=>k it (by simp) _ st
 item:=by
  intro X hP hw hK hc i pins s σ H E I hf st hg;subst hP hw hK;obtain⟨f0,f1,f2,f3,f4,f5⟩:=hf it (by simp);refine(Walks.range (prog:=X.prog) (w:=X.w) (I.ok.hd hc) it lo (-1) n).item i s _ _ hg st fun v h' tk hv st' kk=>?_;obtain⟨t,rfl⟩:=hv
  refine⟨_,rfl,tL (s:={ s with heap:=h',toks:=tk }) (n:="range_iterator") st' rfl rfl (by decide) ⟨.int (lo - i),H,I.turned (fun b o hb e=>kk b o (by simpa using hb) e) f0 f1 f3 f4 f5,⟨t,?_⟩,⟨rfl,rfl⟩,st',fun b hb=>(hf b hb).1⟩⟩;rw[Int.mul_neg,Int.mul_one];rfl
 done:=by
  intro X hP hw hK hc i pins s σ H E I hf st hg;subst hP hw hK;obtain⟨f0,f1,f2,f3,f4,f5⟩:=hf it (by simp);exact wpAny_pyNext_range_end (I.ok.hd hc) st (by have:n<=i:=hg;lia) fun h' eb=>⟨rfl,I.turned (t':=s.toks) (fun b o hb e=>eb b o hb e) f0 f1 f3 f4 f5⟩
 self:=fun _ _ _ _ _ st h=>wpAny_pyIter_rangeiter st h
section
def zN (ta:TA):TI:=fun σ H R=>ta σ H fun vs H1=>∃i j:Int,vs=[.int i,.int j,.int (-1)]/\(-(2 ^ 20)<=j/\j<=i/\i<2 ^ 20)/\R (Itd i (i - j).toNat) H1
theorem sw {a b ta}{pos:Pos}(hg:Gl X "range")(hm:X.mg "range" = none)(ha:PA X [a,b,c] ta)(hs:starEach [a,b,c] X.env=[(false,eval a X.env),(false,eval b X.env),(false,eval c X.env)]:=by rfl)
  (hs2:starEach [b,c] X.env=[(false,eval b X.env),(false,eval c X.env)]:=by rfl):PI X tg (.Call (.Name "range" p) [a,b,c] [] pos) (zN ta):=by
 intro pins s σ H R I h;refine Call_ (h_ I hg hm boot_range (PyProof.Rows.callWith_type1 (thn (ha pos pins s σ H _ I h) fun us s1 ⟨vs,H1,I1,r1,q1⟩=>?_) (by rw[hs,hs2]) (by rw[hs2];rfl)));obtain⟨i,j,e,⟨q1,q2,q3⟩,q⟩:=q1;subst e;cases r1 with
 | cons r rr=>
  cases rr with
  | cons r' rr=>
   cases rr with
   | cons r2 rr=>
    cases rr;obtain⟨t,rfl⟩:=r;obtain⟨t',rfl⟩:=r';obtain⟨t2,rfl⟩:=r2
    have sz:Builtin.Range.rangeSize i j (-1)=i - j:=by
     unfold Builtin.Range.rangeSize;rw[aA (by decide)];split
     ·rw[Int.neg_neg,Int.ediv_one];lia
     ·lia
    refine call_range_3 (by decide) ?_ (.inl (PyProof.noPylong_small (by lia)));refine wpAny_pyIter_range (IsRange.new ..) ?_ ?_
    ·unfold Builtin.Range.small;rw[sz];simp only[Builtin.Range.rangeFitsLong,and_eq_true,Bool.or_eq_true,decide_eq_true_eq,beq_iff_eq];refine⟨by lia,.inr ?_⟩;rw[aA (by decide),and_eq_true,decide_eq_true_eq,decide_eq_true_eq]
     lia
    ·have I2:Inv X pins σ H1 { s1 with heap:=s1.heap.push { cls:=.type "range",data:=.fields #[.int i t,.int j t',.int (-1) t2] } }:=I1.kept (t':=s1.toks) fun b o e=>az _ e;refine⟨_,[_],_,_,H1,rfl,I2.kept (t':=s1.toks) fun b o e=>az _ e,rL _ i (i - j).toNat,?_,fun b hb=>?_,q⟩
     ·show IsRangeIter _ _ (i+((0:Nat):Int) * (-1)) ((((i - j).toNat:Nat):Int) - ((0:Nat):Int)) (-1);rw[show i+((0:Nat):Int) * (-1)=i by simp,show (((i - j).toNat:Nat):Int) - ((0:Nat):Int)=Builtin.Range.rangeSize i j (-1) by rw[sz];lia];exact aV _ rfl
     ·rw[au.mp hb];exact I2.fpOk (by lia) (I2.hok.fresh (by lia))
end
inductive Spot (H:Hp):V->Option (Int×Int)->Prop
 | no:Spot H .non none
 | at (t:Addr) (a b:Int):H t=some (.tup [.int a,.int b])->Spot H (.ref t) (some (a,b))
section
def ou:V->List V->Hp->VK->Prop:=fun x vs H Q=>∃(l:Addr) (ys:List V) (u:Addr) (a b:Int) (os:List (Option (Int×Int))) (j:Nat),x=.ref l/\vs=[.ref u]/\H l=some (.lst ys)/\H u=some (.tup [.int a,.int b])/\ys.length=os.length/\(∀(i:Nat) y o,ys[i]?=some y->os[i]?=some o->Spot H y o)/\V.ref u∉ys /\
 os[j]?=some (some (a,b))/\(∀m,m<j->os[m]?≠some (some (a,b)))/\Q (.int (j:Nat)) H
theorem wO {a b c d:Int}:tO [.int a,.int b] [.int c,.int d]=decide ((a,b)=(c,d)):=by
 have e:∀i k:Int,eqP (.int i) (.int k)=decide (i=k):=fun i k=>by unfold eqP;simp[eqV]
 show (true&&(eqP _ _&&(eqP _ _&&true)))=_;rw[e,e,Bool.true_and,Bool.and_true];simp[Prod.mk.injEq]
open Classical in
theorem jY (hu:X.A.in1.units<cLine):MtM X "list.index" ou:=by
 intro pins s σ H x vs v us Q I rx rv h;obtain⟨l,ys,u,a,b,os,j,rfl,rfl,hH,hU,ln,sp,nu,hj,hn,q⟩:=h;cases rx;obtain⟨u',rfl,ru⟩:=g6 rv;cases ru;obtain⟨z,its,n,r,hl,e⟩:=I.lstM hH;obtain⟨us2,r2,pl2,hz2⟩:=I.tuple (SqT.of (K:=X.K) hU)
 have get:∀(i:Nat) (w:Value),its[i]?=some w->∃y o,ys[i]?=some y/\os[i]?=some o/\cW y w/\Spot H y o:=fun i w hw=>by
  have il:=(aq.mp hw).1;have iy:i<ys.length:=by lia
  have io:i<os.length:=by lia
  obtain⟨w',e1,r1⟩:=r.get (aa iy);rw[hw] at e1;cases e1;exact⟨_,_,aa iy,aa io,r1,sp i _ _ (aa iy) (aa io)⟩
 let f:Value->Bool:=fun w=>match w with|.ref t=>decide (H t=some (.tup [.int a,.int b]))|_=>false
 have fv:∀(i:Nat) (w:Value) o,its[i]?=some w->os[i]?=some o->f w=decide (o=some (a,b)):=fun i w o hw ho=>by
  obtain⟨y,o',_,e2,rw',S⟩:=get i w hw;rw[ho] at e2;cases e2;cases S with
  | no=>cases rw';show false=_;rw[aF nofun]
  | «at» t c d ht=>
   cases rw';show decide (H t=_)=_;rw[ht];by_cases z:(c,d)=(a,b)
   ·cases z;rw[av rfl,av rfl]
   ·rw[aF (fun q=>z (by injection q with q;injection q with q;injection q with q1 q2;injection q2 with q2 q3;injection q1 with q1;injection q2 with q2;rw[q1,q2])),aF (fun q=>z (aw q))]
 have jl:j<its.toArray.size:=by rw[aJ];have:=(aq.mp hj).1;lia
 have gi:∀m (hm:m<its.toArray.size),its[m]?=some its.toArray[m]:=fun m hm=>by
  rw[aJ] at hm;rw[aa hm];simp
 have sl:(sizeLine:Int)<2 ^ 63 - 1:=by decide
 refine call_meets slot_list_index ⟨_,e,rfl⟩ PySem.F.entry_list_index (PySem.F.args_list_index_2 _ _) (SeqAt.list_indexAt l its.toArray n none #[] (.ref u) f j jl (by rw[aJ] at jl;lia) ?_ ?_) ⟨e,fun y hy=>?_,?_⟩
 ·rw[fv j _ _ (gi j jl) hj,av rfl]
 ·intro m hm hmj;have mo:m<os.length:=by rw[aJ] at hm;lia
  rw[fv m _ _ (gi m hm) (aa mo)];exact aF fun z=>hn m hmj (by rw[aa mo,z])
 ·obtain⟨i,hi,rfl⟩:=Array.getElem_of_mem hy;obtain⟨y,o,ey,eo,ry,S⟩:=get i _ (gi i hi);have ff:=fv i _ _ (gi i hi) eo
  revert ff ry
  generalize its.toArray[i]=w;intro ry ff;cases S with
  | no=>
   cases ry;exact SeqAt.EqAt.none_tuple pl2 hu
  | «at» t c d ht=>
   cases ry;obtain⟨us1,r1,pl1,hz1⟩:=I.tuple (SqT.of (K:=X.K) ht);have ne:t≠u:=fun z=>nu (by rw[<- z];exact aK ey);rw[ff,show decide (some (c,d)=some (a,b))=decide ((c,d)=(a,b)) by simp,<- wO];refine xH ne pl1 pl2 r1 r2 hu fun i y1 y2 h1 h2=>.inr ?_
   have fl:∀{p q:Int} {i:Nat} {y:V},([V.int p,.int q]:List V)[i]?=some y->jd y=true:=fun {p q i y} h=>by
    rcases bm.mp (aK h) with rfl|h
    ·rfl
    ·rw[au.mp h];rfl
   exact⟨fl h1,fl h2⟩
 ·exact⟨.int (j:Nat),H,I.tok _,⟨_,rfl⟩,q⟩
end
theorem tJ {Q:Int->Shared->Prop}(h:Q 0xFCA86420 { s with toks:=s.toks+1 }):wpAny (model prog w) A (pyHash .none) Q E s:=by
 have ty:=typeIs_none s;refine ac ?_;rw[cRoomFor,aA (by decide)];refine aG (ac (wpAny_specialOf ty slot_NoneType_hash.lookup ?_));rw[aA (by decide +kernel)];refine ac (wpAny_specialOf ty slot_NoneType_hash.lookup ?_)
 refine ac (wpAny_callSpecialIfBoundUnlessNone?_slot ty slot_NoneType_hash (wpAny_call_entry slot_NoneType_hash ty PySem.F.entry_NoneType_hash ?_ (PySem.F.args_NoneType_hash_1 _)));unfold Builtin.«NoneType.__hash__»
 wp_walk
 refine⟨_,rfl,?_⟩;show wpAny _ _ (if (decide (-(2:Int) ^ 63<=4238894112)&&decide ((4238894112:Int)<2 ^ 63))=true then _ else _) Q E _;rw[aH (by decide)];exact aG h
def oIs:Option Key->Value->Bool
 | some k,v=>ja k v
 | none,v=>match v with|.none=>true|_=>false
def oH (w:World):Option Key->Int
 | some k=>BN w k
 | none=>0xFCA86420
theorem fS {v}(h:oIs none v=true):v=.none:=by cases v<;>first|rfl|cases h
theorem lY {k}:ja k .none=false:=by cases k<;>rfl
def ox (prog:Program)(w:World):PySem.KeyKind prog w (Option Key) where
 is:=oIs
 hash:=oH w
 inj:=fun v a b ha hb=>by
  cases a with
  | none=>rw[fS ha] at hb;cases b with
   | none=>rfl
   | some b=>rw[show oIs (some b) .none=ja b .none from rfl,lY] at hb;cases hb
  | some a=>cases b with
   | none=>rw[fS hb] at ha;rw[show oIs (some a) .none=ja a .none from rfl,lY] at ha;cases ha
   | some b=>exact bq some ((bX prog w).inj v a b ha hb)
 byValue:=fun k v h=>by
  cases k with
  | none=>rw[fS h];rfl
  | some k=>exact(bX prog w).byValue k v h
 pyHash:=fun {A E s k v Q} hv h=>by
  cases k with
  | none=>rw[fS hv];exact tJ h
  | some k=>exact(bX prog w).pyHash (k:=k) hv h
 eqBool:=fun {A E s a b u v Q} hu hv h=>by
  cases a with
  | none=>
   rw[fS hu];cases b with
   | none=>rw[fS hv];exact SeqAt.EqAt.same _ _ _ _ _ (by simpa using h)
   | some b=>
    have h':Q false s:=by simpa using h
    rcases cu hv with⟨i,t,rfl,rfl⟩|⟨x,t,rfl,rfl⟩
    ·exact SeqAt.EqAt.none_int i t _ _ _ _ h'
    ·exact SeqAt.EqAt.none_str x t _ _ _ _ h'
  | some a=>
   cases b with
   | none=>
    rw[fS hv];have h':Q false s:=by simpa using h
    rcases cu hu with⟨i,t,rfl,rfl⟩|⟨x,t,rfl,rfl⟩
    ·exact SeqAt.EqAt.int_none i t _ _ _ _ h'
    ·exact SeqAt.EqAt.str_none x t _ _ _ _ h'
   | some b=>exact(bX prog w).eqBool (a:=a) (b:=b) hu hv (by simpa using h)
 «strs»:=fun k x t v h=>by
  cases k with
  | none=>cases h
  | some k=>exact(bX prog w).strs k x t v h
theorem lM {vs:List (Key×Value)}(d:h.DictOf (bX prog w) a vs):h.MapOf (ox prog w) a (fun k=>k.bind (valueAt vs)):=by
 obtain⟨o,es,ep,e1,e2,e3,ks,fnd⟩:=d.mapOf;refine⟨o,es,ep,e1,e2,e3,fun e he=>let⟨k,k1,k2⟩:=ks e he;⟨some k,k1,k2⟩,fun k=>?_⟩;cases k with
 | some k=>exact fnd k
 | none=>
  unfold findBy;rw[show (es.find? fun e=>(ox prog w).is none e.key)=none from Array.find?_eq_none.mpr fun e he z=>?_]
  ·rfl
  obtain⟨k,k1,_⟩:=ks e he;rw[fS z] at k1;rw[show (bX prog w).is k .none=ja k .none from rfl,lY] at k1;cases k1
section
theorem lO {x v}{k:Option Key}(r:cW x v)(h:match k with|some k=>x=kV k|none=>x=.non):(ox X.prog X.w).is k v=true:=by
 cases k with
 | some k=>subst h;exact m_ (P:=X.prog) (w:=X.w) r
 | none=>subst h;cases r;rfl
def BF (neg:Bool):R2:=fun x y H Q=>∃a kvs,y=.ref a/\Rd H a (.dK kvs)/\((∃k,x=kV k/\Q (.bl (if neg then !(cf kvs k).isSome else (cf kvs k).isSome)) H)\/(x=.non/\Q (.bl neg) H))
theorem mO:OpR X (compareOp .In) (BF false):=by
 intro pins s σ H x y v u Q I rx ry h;obtain⟨a,kvs,rfl,hd,h⟩:=h;cases ry;obtain⟨z,hs,vs,rel,dd⟩:=jB I.hok hd;rcases h with⟨k,ex,q⟩|⟨ex,q⟩
 ·refine wpAny_in_of (lO (k:=some k) rx ex) hs (lM dd) ⟨.bl _,H,I.tok _,rfl,?_⟩;show Q (.bl (valueAt vs k).isSome) H;rw[<- (rel.val k).isSome_eq];exact q
 ·exact wpAny_in_of (lO (k:=none) rx ex) hs (lM dd) ⟨.bl false,H,I.tok _,rfl,q⟩
theorem gJ:OpR X (compareOp .NotIn) (BF true):=by
 intro pins s σ H x y v u Q I rx ry h;obtain⟨a,kvs,rfl,hd,h⟩:=h;cases ry;obtain⟨z,hs,vs,rel,dd⟩:=jB I.hok hd;rcases h with⟨k,ex,q⟩|⟨ex,q⟩
 ·refine wpAny_notIn_of (lO (k:=some k) rx ex) hs (lM dd) ⟨.bl _,H,I.tok _,rfl,?_⟩;show Q (.bl (!(valueAt vs k).isSome)) H;rw[<- (rel.val k).isSome_eq];exact q
 ·exact wpAny_notIn_of (lO (k:=none) rx ex) hs (lM dd) ⟨.bl true,H,I.tok _,rfl,q⟩
end
end L2
namespace L2
open PySem
theorem fW {tp:Addr->St->Hp->(Hp->Prop)->Prop}{Q:VK}(n:Nat)(hw:∀R:It->Hp->Prop,R J H1->wi σ H R)(Pv:Addr->Nat->Hp->Prop)
  (h0:∀D,H1 D=none->Pv D 0 (upd H1 D o0))
  (hs:∀D i H2,H1 D=none->i<n->Pv D i H2->J.go i H2/\∀v H3,J.yld i H2 v H3->∀R:Hp->Prop,(∀H5,Pv D (i+1) H5->R H5)->Z v H3 fun vs=>tc (vs++rst js σ) H3 fun b H4=>if b=true then tp D (vs++rst js σ) H4 R else R H4)
  (hd:∀D H2,H1 D=none->Pv D n H2->J.stop n H2/\Q (.ref D) H2):jh o0 Z js wi tc tp σ H Q:=by
 refine hw _ fun D fD=>⟨fun i m H2=>m=n - i/\i<=n/\Pv D i H2,⟨n,rfl,zero_le _,h0 D fD⟩,?_⟩;rintro i m H2 ⟨rfl,hi,p⟩;by_cases lt:i<n
 ·obtain⟨g,st⟩:=hs D i H2 fD lt p;exact .inr ⟨g,fun v H3 y=>st v H3 y _ fun H5 p5=>⟨n - (i+1),by lia,rfl,lt,p5⟩⟩
 ·have e:i=n:=by lia
  subst e;exact .inl (hd D H2 fD p)
theorem qu (h:H a=some (.lst xs))(lt:i<xs.length):(Itl K a).go i H:=⟨xs,xs[i],SqL.of h,aa lt⟩
theorem lZ (h:H a=some (.lst xs))(y:(Itl K a).yld i H v H'):H'=H/\xs[i]?=some v:=⟨y.1,y.2 xs (SqL.of h)⟩
theorem jG (h:H a=some (.lst xs)):(Itl K a).stop xs.length H:=⟨xs,SqL.of h,aE _⟩
theorem kQ (h:H a=some (.lst xs))(lt:i<xs.length):(ItE K a).go i H:=⟨xs,xs[i],SqL.of h,aa lt⟩
theorem jb (h:H a=some (.lst xs))(y:(ItE K a).yld i H v H'):∃t x,v=.ref t/\H t=none/\xs[i]?=some x/\H'=upd H t (.tup [.int i,x]):=let⟨t,x,e,f,g,q⟩:=y;⟨t,x,e,f,g xs (SqL.of h),q⟩
theorem gX (h:H a=some (.lst xs)):(ItE K a).stop xs.length H:=⟨xs,SqL.of h,rfl⟩
theorem kW {Q:VK}(hw:∀R:It->Hp->Prop,R (Itl K a) H1->wi σ H R)(h:H1 a=some (.lst (ns.map V.int)))(nd:ns.Nodup)(few:ns.length<sizeLine)
  (q:∀D H',H1 D=none->aQ H1 H'->H' D=some (.dK (kT ns))->Q (.ref D) H'):Ae js wi (fun _ H Q=>Q true H) (vA 0) (tC (.bl true)) σ H Q:=by
 refine fW (H1:=H1) ns.length hw (fun D i H2=>aQ H1 H2/\H2 D=some (.dK (kT (ns.take i)))) (fun D f=>⟨aQ.upd f,ae⟩) (fun D i H2 fD lt ⟨S,e⟩=>?_) (fun D H2 fD ⟨S,e⟩=>?_)
 ·have ha:=S _ _ h;refine⟨qu ha (by rw[af];exact lt),fun v H3 y R k=>?_⟩;obtain⟨rfl,ev⟩:=lZ ha y;rw[aB,aa lt] at ev;cases ev;rw[aH rfl];refine⟨_,rfl,_,.inl ns[i],e,rfl,by rw[nh,bo];lia,k _ ⟨fun b o z=>?_,?_⟩⟩
  ·rw[ak (ah z fD)];exact S _ _ z
  ·rw[ae,sY (qf nd (aa lt)),take_succ,aa lt];rfl
 ·rw[take_length] at e;exact⟨by have:=jG (K:=K) (S _ _ h);rwa[af] at this,q D H2 fD S e⟩
theorem nI {Q:VK}(hw:∀R:It->Hp->Prop,R (Itl K a) H->tH K tl σ H R)(h:H a=some (.lst (ns.map V.int)))(nd:ns.Nodup)(few:ns.length<sizeLine)
  (q:∀D H',H D=none->aQ H H'->H' D=some (.dK (ns.map fun n=>(Sum.inl n,V.bl true)))->Q (.ref D) H'):Ae js (tH K tl) (fun _ H Q=>Q true H) (vA 0) (tC (.bl true)) σ H Q:=kW hw h nd few q
theorem rB (e:X.K=K):fX X (.builtin "isinstance") (yN K):=e▸fF
end L2
namespace L2
open PySem PySem.Spec PyProof.Rows
def WB (W:Nat->St->Hp->Prop)(m:Nat)(tb:TS)(rt:VK)(n:St->Hp->Prop)(σ:St)(H:Hp):Prop:=∃N:St->Hp->Prop,(∀σ' H',N σ' H'->∃m',m'<m/\W m' σ' H')/\tb ⟨N,rt,n,N⟩ σ H
section
variable {n bk:St->Hp->Prop}{c:TT}{W:Nat->St->Hp->Prop}{m:Nat}{Q:VK}
theorem jM (W:Nat->St->Hp->Prop)(m:Nat)(h0:W m σ H)(hs:∀m σ H,W m σ H->c σ H fun b H1=>if b=true then WB W m tb rt n σ H1 else n σ H1):vz c tb ⟨n,rt,bk,ct⟩ σ H:=⟨W,⟨m,h0⟩,hs⟩
theorem wb (h:tb ⟨fun σ' H'=>∃m',m'<m/\W m' σ' H',rt,n,fun σ' H'=>∃m',m'<m/\W m' σ' H'⟩ σ H):WB W m tb rt n σ H:=⟨_,fun _ _ z=>z,h⟩
theorem ww (e:σ[i]?=some (some v))(h:te σ H fun y H1=>ti v y H1 fun z H2=>n (σ.set i (some z)) H2):By i te ti ⟨n,rt,bk,ct⟩ σ H:=⟨v,e,h⟩
theorem Cn {f:Int->Int->Int}{a b:Int}(h:Q (.int (f a b)) H):ipI f (.int a) (.int b) H Q:=⟨a,b,rfl,rfl,h⟩
theorem yP {l}(h1:H l=some (.lst xs))(h2:H b=some (.lst zs))(s:xs.length+zs.length<=sizeLine)(q:Q (.ref l) (upd H l (.lst (xs++zs)))):zJ (.ref l) (.ref b) H Q:=⟨l,b,xs,zs,rfl,rfl,h1,h2,s,q⟩
def Bt (K:Frag)(ta te:TE):TE:=fun σ H Q=>ta σ H fun x H1=>∃k,An K x H1 k/\if k=true then Q x H1 else te σ H1 Q
end
section
variable {a b:Expr}{rest:List Expr}{tb:TE}{pos:Pos}
theorem vI (ha:PE X a ta)(hb:PE X (.BoolOp .Or (b::rest) pos) tb):PE X (.BoolOp .Or (a::b::rest) pos) (Bt X.K ta tb):=by
 intro pins s σ H Q I h;refine BoolOp_or (thn (ha pins s σ H _ I h) fun v s1 zz=>?_);obtain⟨x,H1,I1,r1,k,t,q1⟩:=zz;refine thn (vy pins s1 σ H1 x v (fun k H2=>if k=true then Q x H2 else tb σ H2 Q) I1 r1 ⟨k,t,q1⟩) fun b s2 zz=>?_;obtain⟨H2,I2,q2⟩:=zz;cases b with
 | false=>exact hb pins s2 σ H2 Q I2 q2
 | true=>exact⟨x,H2,I2,r1,q2⟩
end
theorem qH:bootBuiltins "zip" = some (.type "zip"):=by decide +kernel
section
variable {D:Addr}{R:Hp->Prop}
def KPl (D:Addr)(R:Hp->Prop)(y:V)(H5:Hp):Prop:=∃ys,H5 D=some (.lst ys)/\ys.length<sizeLine/\R (upd H5 D (.lst (ys++[y])))
theorem Ch (h:te σ H (KPl D R)):pL te D σ H R:=h
theorem xU (e:H D=some (.lst ys))(l:ys.length<sizeLine)(r:R (upd H D (.lst (ys++[y])))):KPl D R y H:=⟨ys,e,l,r⟩
end
theorem uM {l}(e:X.K=K)(hl:PE X l tl):PI X tg l (tH K tl):=e▸dm hl
section
variable {Q:VK}{tl:TO}{r:V->Option Int->Option Int->Hp->VK->Prop}{R:Option Int->Hp->Prop}{z:Int}
theorem Cg (h:te σ H fun x H1=>tl σ H1 fun l H2=>th σ H2 fun u H3=>r x l u H3 Q):tSl r te tl th σ H Q:=h
theorem AL (h:R none H):rN σ H R:=h
def KPt (R:Option Int->Hp->Prop)(x:V)(H:Hp):Prop:=∃i,x=.int i/\R (some i) H
theorem yC (h:te σ H (KPt R)):yd te σ H R:=h
theorem Ct (h:R (some z) H):KPt R (.int z) H:=⟨z,rfl,h⟩
theorem Bm (h0:0<=z):vo xs (some z) none=xs.drop z.toNat:=by
 unfold vo;rw[HT.sIx_none,show z=((z.toNat:Nat):Int) by lia,HT.sIx_nat,toNat_natCast,take_of_length_le (by rw[bO];lia)];rcases Nat.le_total z.toNat xs.length with l|l
 ·rw[Nat.min_eq_left l]
 ·rw[Nat.min_eq_right l,List.drop_length,List.drop_of_length_le l]
theorem Bl (h0:0<=z):vo xs none (some z)=xs.take z.toNat:=by
 unfold vo;rw[HT.sIx_none,show z=((z.toNat:Nat):Int) by lia,HT.sIx_nat,toNat_natCast,List.drop_zero,Nat.sub_zero];rcases Nat.le_total z.toNat xs.length with l|l
 ·rw[Nat.min_eq_left l]
 ·rw[Nat.min_eq_right l,take_length,take_of_length_le l]
theorem mF (h:H a=some (.lst xs))(h0:0<=z)(q:∀p,H p=none->Q (.ref p) (upd H p (.lst (xs.drop z.toNat)))):AS K (.ref a) (some z) none H Q:=⟨a,xs,rfl,SqL.of h,fun p f=>by rw[Bm h0];exact q p f⟩
theorem rX (h:H a=some (.lst xs))(h0:0<=z)(q:∀p,H p=none->Q (.ref p) (upd H p (.lst (xs.take z.toNat)))):AS K (.ref a) none (some z) H Q:=⟨a,xs,rfl,SqL.of h,fun p f=>by rw[Bl h0];exact q p f⟩
end
def KZL (K:Frag)(R:It->Hp->Prop)(vs:List V)(H1:Hp):Prop:=∃a b,vs=[.ref a,.ref b]/\(∃xs,SqL K H1 a xs)/\(∃ys,SqL K H1 b ys)/\R (ItZ K a b) H1
section
variable {ta:TA}{R:It->Hp->Prop}
theorem Cd (h:ta σ H (KZL K R)):zL K ta σ H R:=h
theorem BO (h1:H a=some (.lst xs))(h2:H b=some (.lst ys))(q:R (ItZ K a b) H):KZL K R [.ref a,.ref b] H:=⟨a,b,rfl,⟨xs,SqL.of h1⟩,⟨ys,SqL.of h2⟩,q⟩
theorem vS (h:H a=some (.lst xs))(h':H b=some (.lst ys))(l:i<xs.length)(l':i<ys.length):(ItZ K a b).go i H:=⟨xs,ys,xs[i],ys[i],SqL.of h,SqL.of h',aa l,aa l'⟩
theorem tj (h:H a=some (.lst xs))(h':H b=some (.lst ys))(y:(ItZ K a b).yld i H v H'):∃t x y,v=.ref t/\H t=none/\xs[i]?=some x/\ys[i]?=some y/\H'=upd H t (.tup [x,y]):=let⟨t,x,z,e,f,g,q⟩:=y;⟨t,x,z,e,f,(g xs ys (SqL.of h) (SqL.of h')).1,(g xs ys (SqL.of h) (SqL.of h')).2,q⟩
theorem qw (h:H a=some (.lst xs))(h':H b=some (.lst ys))(l:xs.length=i\/ys.length=i):(ItZ K a b).stop i H:=⟨xs,ys,SqL.of h,SqL.of h',l⟩
end
theorem fE {tp:Addr->St->Hp->(Hp->Prop)->Prop}{Q}(A:It->Hp->Prop)(hw:∀R:It->Hp->Prop,(∀J H1,A J H1->R J H1)->wi σ H R)
  (h:∀J H1,A J H1->jh o0 Z js (fun _ H R=>R J H) tc tp σ H1 Q):jh o0 Z js wi tc tp σ H Q:=hw _ h
end L2
namespace L2
open PySem PyProof PyProof.Rows
theorem wc:typeLookup (.type "zip") "__len__" = pure none:=(typeLookup_type _ _).trans (by rw[builtinLookup_eq_fast];kernel_rfl)
theorem uq:typeLookup (.type "zip") "__length_hint__" = pure none:=(typeLookup_type _ _).trans (by rw[builtinLookup_eq_fast];kernel_rfl)
abbrev fA (ts:List Addr)(c:Nat):Obj:={ cls:=.type "list",data:=.seq (ts.map Value.ref).toArray c }
section
variable {TI TO S:Addr}{R:PySem.Fin->Shared->Prop}
theorem va {Q:Bool->Shared->Prop}(ty:s.TypeIs (.ref z) "zip")(q:Q true s):wpAny (model prog w) A (listLengthHint (.ref z)) Q E s:=
 ac (wpAny_specialOf ty wc (ac (wpAny_specialOf (name:=Str.ofString "__length_hint__") ty uq (aG q))))
theorem ux {c:Nat}{Q:Unit->Shared->Prop}(h:s.heap.get? S=some (fA [] c))(q:∀h' c',h'.get? S=some (fA [] c')->(∀b o,b≠S->s.heap.get? b=some o->h'.get? b=some o)->Q () { s with heap:=h' }):wpAny (model prog w) A (listTouch (.ref S)) Q E s:=by
 have g1:=bR (mapSeq (·.push Value.none)) h rfl;refine show wpAny _ _ (updateSeq S _ >>= fun _=>updateSeq S _) _ _ s from ac (wpAny_updateSeq h rfl (wpAny_updateSeq (hz:=by seq_fits) g1 rfl (q _ _ (bR (mapSeq (·.pop)) g1 rfl) fun b o nb e=>?_)));rw[get?_update_other _ _ nb.symm,get?_update_other _ _ nb.symm];exact e
theorem xG {c:Nat}(o:jg s.heap z TI TO .none (.bool false))(ne:S≠z)(h:s.heap.get? S=some (fA [] c))
  (q:∀h' c',h'.get? S=some (fA [] c')->(∀b o,b≠S->s.heap.get? b=some o->h'.get? b=some o)->R (.again (.builtin "list.extend.loop" ⟨[.ref S,.ref z,.none],[]⟩)) { s with heap:=h' }) :
  wpAny (model prog w) A (Builtin.List.listExtendWith (.ref S) (.ref z) .none) R E s:=by
 have ty:s.TypeIs (.ref z) "zip":=⟨_,o,rfl⟩;refine show wpAny _ _ (typeOf (.ref z) >>= _) _ _ s from ac (wpAny_typeOf ty ?_)
 have e1:(listSameRef (.ref S) (.ref z)||(type "zip" == type "list")||(type "zip" == type "tuple"))=false:=by
  rw[show listSameRef (.ref S) (.ref z)=false from beq_eq_false_iff_ne.mpr ne];decide
 rw[e1];refine show wpAny _ _ (pyIter (.ref z) >>= _) _ _ s from ac (wpAny_pyIter_zip o ?_);refine ac (bv (va ty ?_));exact show wpAny _ _ (rule _ >>= fun _=>listTouch (.ref S) >>= _) _ _ s from ac (wpAny_rule (ac (ux h fun h' c' g k=>aG (q h' c' g k))))
theorem tE (o:jg s.heap z TI TO .none (.bool false))(ne:S≠z)(h:s.heap.get? S=some (fA [] 0))
  (q:∀h' c',h'.get? S=some (fA [] c')->(∀b o,b≠S->s.heap.get? b=some o->h'.get? b=some o)->R (.again (.builtin "list.extend.loop" ⟨[.ref S,.ref z,.none],[]⟩)) { s with heap:=h' }) :
  wpAny (model prog w) A (Builtin.«list.__init__» ⟨[.ref S,.ref z],[]⟩) R E s:=by
 have g1:=bR (mapSeq (fun _=>(#[]:Array Value))) h rfl;have k1:∀b ob,b≠S->s.heap.get? b=some ob->(s.heap.update S (mapSeq (fun _=>(#[]:Array Value)))).get? b=some ob:=fun b ob nb e=>(get?_update_other _ _ nb.symm).trans e;refine show wpAny _ _ (listItems (.ref S) >>= _) _ _ s from ac (wpAny_listItems h rfl ?_)
 exact show wpAny _ _ (updateSeq S (fun _=>#[]) >>= _) _ _ s from ac (wpAny_updateSeq h rfl (ac (wpAny_letGo (xG (s:={ s with heap:=s.heap.update S (mapSeq (fun _=>(#[]:Array Value))) }) (k1 _ _ ne.symm o) ne g1 fun h' c' g k=>q h' c' g fun b ob nb e=>k b ob nb (k1 b ob nb e)))))
end
section
variable {TI TO:Addr}
def Prs (P1 P2:Nat->Value->Prop)(B:Nat)(h:Heap)(ts:List Addr):Prop:=ts.Pairwise (· < ·)/\∀(j:Nat) (t:Addr),ts[j]?=some t->B<=t/\∃x y,P1 j x/\P2 j y/\IsPair h t x y
theorem Prs.keep {B:Nat}(p:Prs P1 P2 B h ts)(k:∀(t:Addr) o,B<=t->h.get? t=some o->h'.get? t=some o):Prs P1 P2 B h' ts:=⟨p.1,fun j t e=>let⟨b,x,y,a,c,g⟩:=p.2 j t e;⟨b,x,y,a,c,k t _ b g⟩⟩
theorem wa (Z:ZipApart z TI TO i1 i2 l1 l2)(D1:Draws prog w A.in1.in1 i1 [i1,l1] n P1 St1)(D2:Draws prog w A.in1.in1 i2 [i2,l2] n P2 St2)(S:Addr)(dz:S∉[z,TI,TO,i1,i2,l1,l2])(res:Value)(hn:n<=sizeLine)(B:Nat)(lo:∀a∈[z,TI,TO,i1,i2,l1,l2,S],a<B) :
  ∀(k i:Nat) (s:Shared) (ts:List Addr) (c:Nat),n - i=k->i<=n->ZipS s.heap z TI TO i1 i2->St1 i s.heap->St2 i s.heap->s.heap.get? S=some (fA ts c)->ts.length=i->B<=s.heap.objs.size->Prs P1 P2 B s.heap ts ->
  (∀h' tk ts' c',h'.get? S=some (fA ts' c')->ts'.length=n->Prs P1 P2 B h' ts'->(∀c o,c≠z->c≠TO->c≠i1->c≠i2->c≠S->s.heap.get? c=some o->h'.get? c=some o)->R (.ok (.ret res)) { s with heap:=h',toks:=tk }) ->
  codeAny (model prog w) A (.builtin "list.extend.loop" ⟨[.ref S,.ref z,res],[]⟩) R s:=by
 have dn:S≠z/\S≠TI/\S≠TO/\S≠i1/\S≠i2/\S≠l1/\S≠l2:=by simpa using dz
 obtain⟨d1,d2,d3,d4,d5,d6,d7⟩:=dn;have up:∀{t a:Addr},a∈[z,TI,TO,i1,i2,l1,l2,S]->B<=t->t≠a:=fun {t a} m b e=>by have:=lo a m;rw[<- e] at this;exact aY this (Nat.not_lt.mpr b)
 intro k
 induction k with
 | zero=>
  intro i s ts c hk hi Sz s1 s2 hS lt bs pr hR;have hin:i=n:=by lia
  subst hin;refine codeAny_builtin PySem.F.entry_extend_loop ?_;rw[under_plainId plain_extend_loop _]
  exact show wpAny _ A.in1 (pyNext (.ref z) >>= _) _ _ s from ac (kB Z D1 Sz s1 fun h' kp=>aG (hR h' s.toks ts c (kp _ _ d1 d3 d4 d5 hS) lt (pr.keep fun t o b e=>kp t o (up (by simp) b) (up (by simp) b) (up (by simp) b) (up (by simp) b) e) fun a o a1 a2 a3 a4 _ e=>kp a o a1 a2 a3 a4 e))
 | succ k ih=>
  intro i s ts c hk hi Sz s1 s2 hS lt bs pr hR;have hlt:i<n:=by lia
  refine codeAny_builtin PySem.F.entry_extend_loop ?_;rw[under_plainId plain_extend_loop _];refine show wpAny _ A.in1 (pyNext (.ref z) >>= _) _ _ s from ac (rF Z D1 D2 Sz s1 s2 hlt hlt fun x y h' tk T p1 p2 S' _ t1 t2 gT lT kp=>?_);have hS':=kp _ _ d1 d3 d4 d5 hS;have TB:=bh bs lT;have ez:((ts++[T]).map Value.ref).toArray=((ts.map Value.ref).toArray).push (.ref T):=by simp
  have sz:(ts.map Value.ref).toArray.size=i:=by simp[lt]
  have g2:=bR (mapSeq (·.push (Value.ref T))) hS' rfl;have sb:∀b o,b≠S->h'.get? b=some o->(h'.update S (mapSeq (·.push (Value.ref T)))).get? b=some o:=fun b o nb e=>(get?_update_other _ _ nb.symm).trans e;have so:(h'.update S (mapSeq (·.push (Value.ref T)))).objs.size=h'.objs.size:=size_update ..
  refine show wpAny _ A.in1 (updateSeq S (·.push (.ref T)) >>= _) _ _ _ from ac (wpAny_updateSeq hS' rfl ?_ (by rw[sz];lia) (by show ((ts.map Value.ref).toArray.push (.ref T)).size<=_;rw[Array.size_push,sz];lia));refine aG ⟨plainId_quiet plain_extend_loop _,?_⟩;generalize hu:h'.update S (mapSeq (·.push (Value.ref T)))=h2 at *
  have S2:ZipS h2 z TI TO i1 i2:=by
   obtain⟨⟨f0,f1,q1,q2⟩,q3,a,b,q4⟩:=S';refine⟨⟨f0,f1,sb _ _ d1.symm q1,?_⟩,sb _ _ d2.symm q3,a,b,sb _ _ d3.symm q4⟩;rcases q2 with e|⟨T',o',e,g⟩
   ·exact .inl e
   ·by_cases ed:T'=S
    ·subst ed;exact .inr ⟨_,_,e,g2⟩
    ·exact .inr ⟨_,_,e,sb _ _ ed g⟩
  refine ih (i+1) { s with heap:=h2,toks:=tk } (ts++[T]) _ (by lia) (by lia) S2 (D1.frame _ _ _ t1 fun a ha o e=>sb _ _ (by simp at ha;rcases ha with rfl|rfl;exact d4.symm;exact d6.symm) e) (D2.frame _ _ _ t2 fun a ha o e=>sb _ _ (by simp at ha;rcases ha with rfl|rfl;exact d5.symm;exact d7.symm) e) (by unfold fA;rw[ez];exact g2) (by rw[am,lt];rfl) ?_ ?_ fun h3 tk3 ts' c' q1 q2 q3 q4=>?_
  ·show B<=h2.objs.size;rw[so];have:=aZ gT;exact bh TB (dY this)
  ·have pr':=pr.keep (h':=h') fun t o b e=>kp t o (up (by simp) b) (up (by simp) b) (up (by simp) b) (up (by simp) b) e;refine⟨pairwise_append.mpr ⟨pr.1,by simp,fun a ha b hb=>?_⟩,fun j t e=>?_⟩
   ·rw[au.mp hb];obtain⟨j,hj⟩:=List.getElem?_of_mem ha;obtain⟨_,_,_,_,_,g⟩:=pr.2 j a hj;exact ba (aZ g) lT
   ·rcases lt_or_ge j ts.length with jl|jl
    ·rw[aN jl] at e;obtain⟨b,x',y',a1,a2,g⟩:=pr'.2 j t e;exact⟨b,x',y',a1,a2,sb _ _ (up (by simp) b) g⟩
    ·rw[aM jl] at e;cases zj:j - ts.length with
     | zero=>
      rw[zj] at e;cases e;have ej:j=i:=by lia
      subst ej;exact⟨TB,x,y,p1,p2,sb _ _ (up (by simp) TB) gT⟩
     | succ m=>rw[zj] at e;cases e
  ·exact hR h3 tk3 ts' c' q1 q2 q3 fun a o a1 a2 a3 a4 a5 e=>q4 a o a1 a2 a3 a4 a5 (sb _ _ a5 (kp a o a1 a2 a3 a4 e))
end
section
theorem oN {TI TO}{xs ys:Array Value}{m:Nat}(hh:A.handled=none)(Z:ZipApart z TI TO i1 i2 l1 l2)(S:ZipS s.heap z TI TO i1 i2)(oz:jg s.heap z TI TO .none (.bool false))
  (p1:gj tp s.heap i1 l1 0) (p2:gj tp s.heap i2 l2 0) (q1:SeqAt tp s.heap l1 xs) (q2:SeqAt tp s.heap l2 ys) (dz:∀a∈[z,TI,TO,i1,i2,l1,l2],a<s.heap.objs.size) (gx:xs.size=m) (gy:ys.size=m) (hn:m<=sizeLine)
  (h:∀h' tk ts c,h'.get? s.heap.objs.size=some (fA ts c)->ts.length=m->Prs (fun i v=>xs[i]?=some v) (fun i v=>ys[i]?=some v) (s.heap.objs.size+1) h' ts->(∀c o,c≠z->c≠TO->c≠i1->c≠i2->s.heap.get? c=some o->h'.get? c=some o)->Q (.ref s.heap.objs.size) { s with heap:=h',toks:=tk }) :
  wpAny (model prog w) A (call (.type "list") [.ref z]) Q E s:=by
 refine callType_codes (Q₁:=fun obj t=>obj=.ref s.heap.objs.size/\t={ s with heap:=s.heap.push (fA [] 0) }) PySem.F.called_list (PySem.F.typeCall_list_1 _) PySem.F.entry_list_init (code_list_new _ ⟨rfl,rfl⟩) ?_;rintro _ _ ⟨rfl,rfl⟩;have gn:(s.heap.push (fA [] 0)).get? s.heap.objs.size=some (fA [] 0):=aV _ rfl
 have kn:∀c o,s.heap.get? c=some o->(s.heap.push (fA [] 0)).get? c=some o:=fun c o e=>az _ e;refine⟨⟨_,gn,rfl⟩,PySem.F.args_list_init_2 _ _,tE (s:={ s with heap:=s.heap.push (fA [] 0) }) (kn _ _ oz) (ne_of_gt (dz z (by simp))) gn fun h1 c1 g1 k1=>⟨plainId_quiet plain_extend_loop _,?_⟩⟩
 have kp:∀c o,s.heap.get? c=some o->h1.get? c=some o:=fun c o e=>k1 c o (aP (aZ e)) (kn c o e);have D1:=iP (prog:=prog) (w:=w) (A:=A.in1.in1.in1) tp hh i1 l1 Z.l1i1 xs;have D2:=iP (prog:=prog) (w:=w) (A:=A.in1.in1.in1) tp hh i2 l2 Z.l2i2 ys;rw[gx] at D1;rw[gy] at D2;obtain⟨a,b,to⟩:=S.to
 refine wa Z D1 D2 s.heap.objs.size (fun w=>lt_irrefl _ (dz _ w)) .none hn (s.heap.objs.size+1) (fun a ha=>?_) m 0 { s with heap:=h1 } [] c1 rfl (zero_le _) ⟨⟨_,_,kp _ _ oz,.inl rfl⟩,kp _ _ S.ti,a,b,kp _ _ to⟩ (D1.frame 0 s.heap h1 ⟨p1,q1⟩ fun c _ o e=>kp c o e) (D2.frame 0 s.heap h1 ⟨p2,q2⟩ fun c _ o e=>kp c o e) g1 rfl (aZ g1) ⟨.nil,nofun⟩ fun h' tk ts' c' r1 r2 r3 r4=>?_
 ·by_cases e:a=s.heap.objs.size
  ·rw[e];exact lt_succ_self _
  ·refine lt_succ_of_lt (dz a ?_);simp at ha ⊢;simpa[e] using ha
 ·exact⟨rfl,h h' tk ts' c' r1 r2 r3 fun c o a1 a2 a3 a4 e=>r4 c o a1 a2 a3 a4 (aP (aZ e)) (kp _ _ e)⟩
end
section
variable {a b:Expr}{t:TA}{pos:Pos}
def pE (K:Frag)(t:TA):TE:=fun σ H Q=>t σ H fun vs H2=>∃(l1 l2:Addr) (xs ys:List V),vs=[.ref l1,.ref l2]/\SqL K H2 l1 xs/\SqL K H2 l2 ys/\ys.length=xs.length /\
 ∀(l:Addr) (ts:List Addr) H',H2 l=none->(∀u∈ts,H2 u=none)->aQ H2 H'->H' l=some (.lst (ts.map V.ref))->ts.length=xs.length->(∀(j:Nat) u x y,ts[j]?=some u->xs[j]?=some x->ys[j]?=some y->H' u=some (.tup [x,y]))->Q (.ref l) H'
theorem qQ (hh:X.A.handled=none)(hgL:Gl X "list")(hmL:X.mg "list" = none)(hgZ:Gl X "zip")(hmZ:X.mg "zip" = none)(bl:bootBuiltins "list" = some (.type "list"))(bz:bootBuiltins "zip" = some (.type "zip"))(ha:PA X [a,b] t)(sa:dq a=false:=by rfl)(sb:dq b=false:=by rfl) :
  PE X (.Call (.Name "list" p) [.Call (.Name "zip" p') [a,b] [] pos'] [] pos) (pE X.K t):=by
 intro pins s σ H Q I h;refine wpAny_Call_Name_kw (h_ I hgL hmL bl ?_ (by decide) (by decide));refine PyProof.Rows.callWith_type1 ?_ rfl rfl;refine Calls.spliced_cons (wpAny_Call_Name_kw (h_ I hgZ hmZ bz (PyProof.Rows.callWith_type1 ?_ (eZ sa) (by rw[eZ sb];rfl)) (by decide) (by decide)));refine thn (ha pos' pins s σ H _ I h) fun us s1 zz=>?_
 obtain⟨vs,H1,I1,r1,l1,l2,xv,yv,ev,qk,qg,el,q⟩:=zz;subst ev;obtain⟨u1,u2,rfl,e1,e2⟩:=mz r1;cases e1;cases e2;obtain⟨xs,rx,q1',zx⟩:=I1.seqAt (tp:=false) qk;obtain⟨ys,ry,q2',zy⟩:=I1.seqAt (tp:=false) qg;have ly:ys.length=xv.length:=by rw[<- ry.length,el]
 refine rH q1' q2' fun h1 S oz i1 i2 sz kp=>?_;have a1:=q1'.lt;have a2:=q2'.lt
 have Z:ZipApart (s1.heap.objs.size+4) (s1.heap.objs.size+2) (s1.heap.objs.size+3) s1.heap.objs.size (s1.heap.objs.size+1) l1 l2:=by
  constructor<;>(intro e;simp only[Addr] at *;lia)
 refine Calls.spliced_nil (oN (m:=xv.length) (xs:=xs.toArray) (ys:=ys.toArray) (s:={ s1 with heap:=h1 }) hh Z S oz i1 i2 (q1'.keep kp) (q2'.keep kp) (fun c hc=>?_) (by rw[aJ,rx.length.symm]) (by rw[aJ,ly]) zx fun h' tk ts c hS lt pr kp'=>?_)
 ·simp at hc;rw[sz];rcases hc with rfl|rfl|rfl|rfl|rfl|rfl|rfl<;>(simp only[Addr] at *;lia)
 ·have kk:∀c o,s1.heap.get? c=some o->h'.get? c=some o:=fun c o e=>by
   have lt:=aZ e;refine kp' c o ?_ ?_ ?_ ?_ (kp c o e)<;>(intro z;simp only[Addr] at *;lia)
  have le:s1.heap.objs.size<=h1.objs.size:=by rw[sz];lia
  have I2:Inv X pins σ H1 { s1 with heap:=h',toks:=tk }:=I1.kept kk;have lo:=I1.sz;have f0:=I1.fpOk le (I1.hok.fresh le);have I3:Inv X pins σ (upd H1 h1.objs.size (.lst (ts.map V.ref))) { s1 with heap:=h',toks:=tk }:=I2.track f0 (bh lo le) ⟨by rw[af,lt];exact zx,ts.map Value.ref,c,my ts,hS⟩
  have fr:∀u∈ts,H1 u=none/\h1.objs.size<u:=fun u hu=>by
   obtain⟨j,hj⟩:=List.getElem?_of_mem hu;have b:=(pr.2 j u hj).1;exact⟨I1.hok.fresh (bh le (dY b)),b⟩
  obtain⟨H',I',k',t'⟩:=I3.tracks ts ((xv.zip yv).map fun p=>[p.1,p.2]) (by rw[af,length_zip,el,min_self,lt]) pr.1 (fun u hu=>by
   obtain⟨n0,b⟩:=fr u hu;have lu:=bh le (dY b);obtain⟨g0,g⟩:=I1.fpOk lu n0
   exact⟨⟨by rw[ak (ne_of_gt b)];exact g0,g⟩,bh lo lu⟩) fun j u qv e1 e2=>by
    obtain⟨_,x,y,px,py,gp⟩:=pr.2 j u e1;rw[aB] at e2;obtain⟨⟨x',y'⟩,e5,rfl⟩:=bt.mp e2;obtain⟨e6,e7⟩:=getElem?_zip_eq_some.mp e5;exact⟨by show 2<=sizeLine;decide,[x,y],.cons (i6 rx e6 (by simpa using px)) (.cons (i6 ry e7 (by simpa using py)) .nil),gp⟩
  refine⟨.ref h1.objs.size,H',I',rfl,q _ ts H' f0.1 (fun u hu=>(fr u hu).1) (fun b o z=>k' b o (by rw[ak (ah z f0.1)];exact z)) (k' _ _ ae) lt fun j u x y e1 e2 e3=>t' j u _ e1 ?_⟩;rw[aB,show (xv.zip yv)[j]?=some (x,y) from getElem?_zip_eq_some.mpr ⟨e2,e3⟩];rfl
end
end L2
namespace L2
open PySem PySem.Spec PyProof.Rows
section
variable {q:Str}{N:List Str}{k:Nat}
def Aq (b:Bool)(P:Program)(w:World)(K:Frag)(mg:Str->Option Value)(base:Heap)(x:Str)(st:Stmt)(ps:List Str)(k:Nat)(sp:Sp):Prop:=
 ∃f fd,Dn K mg x x st ps f fd/\FnOkG b P w K mg base CX0 k f fd ps sp
abbrev OkD:=Aq true
def DD (K:Frag)(mg:Str->Option Value)(x:Str)(st:Stmt)(ps:List Str):Prop:=∃f fd,Dn K mg x x st ps f fd
def MM (K:Frag)(mg:Str->Option Value)(cn nm q:Str)(st:Stmt)(ps:List Str):Prop:=∃C f fd,mg cn=some (.ref C)/\Meth K C nm f/\Fun K nm q st f fd/\eJ K fd ps []
abbrev Bod (b:Bool)(P:Program)(w:World)(K:Frag)(mg:Str->Option Value)(base:Heap)(N ps:List Str)(q:Str)(st:Stmt)(k:Nat)(sp:Sp):Prop:=
 ∀{f:Addr} {cdv:Value} {A:Around} {outer:List Env} {s:Shared} {vs:List V} {E:XK},FnScope N ps (bA st)->∀(H:Hp) (Q:VK),RoomG b k (A.deeper (envOfC q (bA st) s.heap.objs.size f cdv))->sp vs H Q E ->
  ∃t,PSs (oY b CX0 P w K mg base N q (bA st) f cdv A outer s H E).nox (eI st) t/\t { nx:=fun _ H'=>Q .non H',rt:=Q } (start N vs) H
theorem DD.ok {b}(M:DD K mg x st ps)(h:Bod b P w K mg base N ps x st k sp)
  (S:FnScope N ps (bA st):=by exact⟨rfl,rfl,rfl,by decide +kernel,rfl,by decide +kernel,by decide +kernel⟩) (len:∀vs H Q E,sp vs H Q E->vs.length=ps.length:=by (intro _ _ _ _ h;first|(cases h;subst_vars;rfl)|repeat (first|(obtain⟨h1,_⟩:=h;subst h1;rfl)|obtain⟨_,h⟩:=h))):Aq b P w K mg base x st ps (k+1) sp:=
 let⟨f,fd,D⟩:=M;⟨f,fd,D,D.fn.ok S len fun _ _ _ _ H _ Q _=>h S H Q⟩
def nOf (sc:Scope):List Str:=(sc.names.filter fun y=>y.2==.local||y.2==.cell).map (·.1)
theorem DD.go {b}(M:DD K mg x st ps)(h:Bod b P w K mg base (nOf (bA st)) ps x st k sp)(S:FnScope (nOf (bA st)) ps (bA st):=by exact⟨rfl,rfl,rfl,by decide +kernel,rfl,by decide +kernel,by decide +kernel⟩)(len:∀vs H Q E,sp vs H Q E->vs.length=ps.length:=by (intro _ _ _ _ h;first|(cases h;subst_vars;rfl)|repeat (first|(obtain⟨h1,_⟩:=h;subst h1;rfl)|obtain⟨_,h⟩:=h))):Aq b P w K mg base x st ps (k+1) sp:=M.ok h S len
theorem lW (h:mg x=some (.ref a))(h':mg x=some (.ref b)):a=b:=Value.ref.inj (aw (h.symm.trans h'))
theorem MM.ok (M:MM K mg cn nm q st ps)(hm:mg cn=some (.ref C))(h:Bod true P w K mg base N ps q st k sp)
  (S:FnScope N ps (bA st):=by exact⟨rfl,rfl,rfl,by decide +kernel,rfl,by decide +kernel,by decide +kernel⟩) (len:∀vs H Q E,sp vs H Q E->vs.length=ps.length:=by (intro _ _ _ _ h;first|(cases h;subst_vars;rfl)|repeat (first|(obtain⟨h1,_⟩:=h;subst h1;rfl)|obtain⟨_,h⟩:=h))):z6 P w K mg base CX0 C nm ps (k+1) sp:=by
 obtain⟨_,f,fd,m0,m,n,b⟩:=M;cases lW hm m0;exact⟨f,fd,m,b,n.ok S len fun _ _ _ _ H _ Q _=>h S H Q⟩
theorem MM.go (M:MM K mg cn nm q st ps)(hm:mg cn=some (.ref C))(h:Bod true P w K mg base (nOf (bA st)) ps q st k sp)(S:FnScope (nOf (bA st)) ps (bA st):=by exact⟨rfl,rfl,rfl,by decide +kernel,rfl,by decide +kernel,by decide +kernel⟩)(len:∀vs H Q E,sp vs H Q E->vs.length=ps.length:=by (intro _ _ _ _ h;first|(cases h;subst_vars;rfl)|repeat (first|(obtain⟨h1,_⟩:=h;subst h1;rfl)|obtain⟨_,h⟩:=h))):z6 P w K mg base CX0 C nm ps (k+1) sp:=M.ok hm h S len
end
section
variable {k:Nat}{pos:Pos}{o:Expr}{t:TA}
theorem cc {b}(F:Aq b X.prog X.w X.K X.mg X.base x st ps k sp)(hr:RoomG b k0 X.A)(ha:PA X (e::es) t)(hg:Gl X x:=by rfl)(hk:k<=k0:=by decide)
  (hdb:(x==("__debug__" : Str))=false:=by decide) (he:starEach (e::es) X.env=(false,eval e X.env)::starEach es X.env:=by rfl) (hpl:(backTo pos (starEach es X.env)).any (·.1)=false:=by rfl) :
  PE X (.Call (.Name x p) (e::es) [] pos) (uB sp [] E0 t):=by
 obtain⟨f,fd,D,G⟩:=F;exact wN G (hr.mono hk) hg D.m D.fn.kp D.b .nil fH ha hdb he hpl
theorem e_ (he:PE X o ta)(c:Cls X.K C)(F:z6 X.prog X.w X.K X.mg X.base CX0 C m ps k sp)(hr:nX k0 X.A)(ha:PA X (e::es) t)(hk:k<=k0:=by decide)
  (hst:starEach (e::es) X.env=(false,eval e X.env)::starEach es X.env:=by rfl) (hpl:(backTo pos (starEach es X.env)).any (·.1)=false:=by rfl)
  (ht:eval (.Call (.Attribute o m apos) (e::es) [] pos) X.env=(do
   let ov <- eval o X.env
   standAt apos.atName
   let(f,first) <- holding [ov] (getMethod ov m pl)
   callWith pos f first (backTo pos (starEach (e::es) X.env)) (backToKw pos (keywordEach [] X.env))):=by rfl) :
  PE X (.Call (.Attribute o m apos) (e::es) [] pos) (rO C m sp [] E0 ta t):=by
 obtain⟨f,fd,M,B,G⟩:=F;exact wK he c M G (hr.mono hk) B .nil fH ha hst hpl ht
theorem qP (he:PE X o ta)(c:Cls X.K C)(F:z6 X.prog X.w X.K X.mg X.base CX0 C m ps k sp)(hr:nX k0 X.A)(hk:k<=k0:=by decide)
  (ht:eval (.Call (.Attribute o m apos) [] [] pos) X.env=(do
   let ov <- eval o X.env
   standAt apos.atName
   let(f,first) <- holding [ov] (getMethod ov m pl)
   callWith pos f first (backTo pos (starEach [] X.env)) (backToKw pos (keywordEach [] X.env))):=by rfl) :
  PE X (.Call (.Attribute o m apos) [] [] pos) (rO C m sp [] E0 ta pC):=by
 obtain⟨f,fd,M,B,G⟩:=F;exact uN he c M G (hr.mono hk) B .nil fH ht
theorem cD {s'}(S:FnScope X.N ps s')(i:Nat)(he:PE X e te)(hi:X.N[i]?=some x:=by rfl)(hx:Loc X.env.scope x:=by exact Or.inl rfl)(hs:swapsWith e (some (.Name x pos')) pos.line X.env=pure false:=by rfl)
  (hf:X.fn x=true\/X.env.scope.names.lookup x=some .local:=by first|exact .inl rfl|exact .inr rfl|assumption):PS X (.Assign [.Name x pos'] e pos) (qO te (eS i)):=kF S.nd hi hx he hs hf
theorem eO {s'}(S:FnScope X.N ps s')(i:Nat)(hi:X.N[i]?=some x:=by rfl)(hx:Loc X.env.scope x:=by exact Or.inl rfl)(hf:X.fn x=true\/X.env.scope.names.lookup x=some .local:=by first|exact .inl rfl|exact .inr rfl|assumption):PG X (.Name x pos) (eS i):=gG S.nd hi hx hf
end
section
variable {t u:TS}{n bk N N':St->Hp->Prop}
theorem ji (h:∀N,N=u ⟨n,rt,bk,ct⟩->t ⟨N,rt,bk,ct⟩ σ H):ya t u ⟨n,rt,bk,ct⟩ σ H:=h _ rfl
theorem AC {D:Ends}(h:∀T U,T=t D->U=u D->tt σ H fun b H1=>if b=true then T σ H1 else U σ H1):Ax tt t u D σ H:=h _ _ rfl rfl
theorem dB (e:N=N')(h:N' σ H):N σ H:=e▸h
end
theorem sz (h:Nat.ble n 100=true:=by rfl):n<=sizeLine:=bh (Nat.le_of_ble_eq_true h) (by decide)
theorem BM {Q:VK}(h:∀l H',H l=none->aQ H H'->H' l=some (.lst xs)->Q (.ref l) H')(hz:Nat.ble xs.length 100=true:=by rfl):B9 xs Q H:=⟨sz hz,fun l f=>h l _ f (aQ.upd f) ae⟩
section
variable {e2 e3:Expr}{t1 t2 t3:TE}{pos:Pos}
theorem pa1 (a:PE X e t1)(h:dq e=false:=by rfl):PA X [e] (eY t1 pC):=yZ a cy h
theorem pa2 (a:PE X e t1)(b:PE X e2 t2)(h:dq e=false:=by rfl)(h2:dq e2=false:=by rfl):PA X [e,e2] (eY t1 (eY t2 pC)):=yZ a (pa1 b h2) h
theorem pa3 (a:PE X e t1)(b:PE X e2 t2)(c:PE X e3 t3)(h:dq e=false:=by rfl)(h2:dq e2=false:=by rfl)(h3:dq e3=false:=by rfl):PA X [e,e2,e3] (eY t1 (eY t2 (eY t3 pC))):=yZ a (pa2 b c h2 h3) h
theorem pa4 (a:PE X e t1)(b:PE X e2 t2)(c:PE X e3 t3)(d:PE X e4 t4)(h:dq e=false:=by rfl)(h2:dq e2=false:=by rfl)(h3:dq e3=false:=by rfl)(h4:dq e4=false:=by rfl):PA X [e,e2,e3,e4] (eY t1 (eY t2 (eY t3 (eY t4 pC)))):=yZ a (pa3 b c d h2 h3 h4) h
theorem pa5 {e5 t5}(a:PE X e t1)(b:PE X e2 t2)(c:PE X e3 t3)(d:PE X e4 t4)(f:PE X e5 t5)(h:dq e=false:=by rfl)(h2:dq e2=false:=by rfl)(h3:dq e3=false:=by rfl)(h4:dq e4=false:=by rfl)(h5:dq e5=false:=by rfl):PA X [e,e2,e3,e4,e5] (eY t1 (eY t2 (eY t3 (eY t4 (eY t5 pC))))):=yZ a (pa4 b c d f h2 h3 h4 h5) h
theorem pc (o:OpR X (compareOp op) r)(a:PE X e t1)(b:PE X e2 t2)(h:behindInMarks op e2=false:=by exact gw _):PT X (.Compare e [op] [e2] pos) (wj (tOp r t1 t2)):=dF o a b h
theorem pix (h:IxR X r)(a:PE X e t1)(b:PE X e2 t2)(hs:ue e2:=by exact fun _ _=>rfl):PE X (.Subscript e e2 pos) (tOp r t1 t2):=AW h a b hs
end
section
variable {q:Str}{N:List Str}{k:Nat}
end
section
variable {E:XK}{k:Nat}{pos:Pos}{o:Expr}{t:TA}
end
end L2
variable {fK gl kl lb p pg tg tk u:Addr}{up:Bool}{lap lv most x y z:Int}{H0 g g' h h':L2.Hp}{R:L2.It->L2.Hp->Prop}{Q:L2.VK}{rows:List (List Int)}{gs gs' hs ks ls ps r seen zs:List Int}{ch:List Nat}{B B' m nb nb' s:Nat}{okg:Nat->List Int->Prop}{hi st:Option Int}{x0 x1 x2 x3 x4 x5:Str}
namespace K31
open PySem L2
theorem sG {l}(g:upd H l o=H')(f:H l=none):aQ H H':=g▸aQ.upd f
theorem eG {l}(g:upd H l o=H'):H' l=some o:=g▸ae
theorem nG {l u}(g:upd H l o=H')(f:H l=none)(e:H b=some u):H' b=some u:=g▸cm f e
def top (i:Nat):Stmt:=PySem.Challenge.pw_nolocktree_k34_levels_and_pairs.main.body.getD i (.Pass ⟨0,0,0,0⟩)
structure Txt (K:Frag)(mg:Str->Option Value):Prop where
 n_len:mg "len" = none
 n_max:mg "max" = none
 n_min:mg "min" = none
 n_isinstance:mg "isinstance" = none
 n_list:mg "list" = none
 n_tuple:mg "tuple" = none
 n_int:mg "int" = none
 n_bool:mg "bool" = none
 n_enumerate:mg "enumerate" = none
 n_range:mg "range" = none
 n_repr:mg "repr" = none
 n_all:mg "all" = none
 n_set:mg "set" = none
 n_sorted:mg "sorted" = none
 n_dict:mg "dict" = none
 c_lo:∃t,mg "LEAST_KEY" = some (.int (-999999999) t)
 c_hi:∃t,mg "GREATEST_KEY" = some (.int 999999999 t)
 c_lm:∃t,mg "LEAST_MOST" = some (.int 2 t)
 c_gm:∃t,mg "GREATEST_MOST" = some (.int 5 t)
 c_lv:∃t,mg "GREATEST_LEVEL" = some (.int 60 t)
 c_cnt:∃t,mg "GREATEST_COUNT" = some (.int 1000000 t)
 c_most:∃t,mg "MOST_KEYS" = some (.int 6 t)
 c_mt:∃t,mg "MANY_TOLD" = some (.int 5 t)
structure Cp where
 cL:Addr
 cI:Addr
variable {cp:K31.Cp}
def Cp.is (c:Cp)(C:Addr):Prop:=C=c.cL\/C=c.cI
structure Cs where
 pg:Cp
 R:Addr
 N:Addr
 T:Addr
structure PgN (K:Frag)(mg:Str->Option Value)(cP fP:Addr)(fdP:FuncData):Prop where
 fn:Fun K "__init__" "Page.__init__" (bU (top 50) 0) fP fdP
 bi:eJ K fdP ["self","keys","goods"] []
 b:BaseFn K cP "__init__" fP
 m:mg "Page" = some (.ref cP)
structure KdN (K:Frag)(mg:Str->Option Value)(nm q:Str)(st:Stmt)(C f:Addr)(fd:FuncData):Prop where
 mak:Mk K C f
 fn:Fun K "__init__" q st f fd
 bi:eJ K fd ["self","keys","goods"] []
 m:mg nm=some (.ref C)
 ins:InsC K C
 n1:cC K C "key_row"
 n2:cC K C "good_row"
structure RdN (K:Frag)(mg:Str->Option Value)(C f:Addr)(fd:FuncData):Prop where
 mak:Mk K C f
 fn:Fun K "__init__" "Rounds.__init__" (bU (top 54) 0) f fd
 bi:eJ K fd ["self"] []
 m:mg "Rounds" = some (.ref C)
 cl:Cls K C
 n1:cC K C "in_use"
 n2:cC K C "kept_laps"
 n3:cC K C "free_ones"
 n4:cC K C "call_laps"
 n5:cC K C "lap_now"
structure NdN (K:Frag)(mg:Str->Option Value)(C f:Addr)(fd:FuncData):Prop where
 mak:Mk K C f
 fn:Fun K "__init__" "Node.__init__" (bU (top 62) 0) f fd
 bi:eJ K fd ["self","level","bears","high","right"] []
 m:mg "Node" = some (.ref C)
 cl:Cls K C
 n1:cC K C "level"
 n2:cC K C "bears"
 n3:cC K C "high"
 n4:cC K C "right"
 n5:cC K C "holder"
 n6:cC K C "written"
structure TrN (K:Frag)(mg:Str->Option Value)(C f:Addr)(fd:FuncData):Prop where
 mak:Mk K C f
 fn:Fun K "__init__" "Tree.__init__" (bU (top 63) 0) f fd
 bi:eJ K fd ["self","most"] []
 m:mg "Tree" = some (.ref C)
 cl:Cls K C
 n1:cC K C "most_keys"
 n2:cC K C "own_rounds"
 n3:cC K C "nodes"
 n4:cC K C "versions"
 n5:cC K C "top_place"
structure KdF (K:Frag)(mg:Str->Option Value)(c:Cp):Prop where
 iL:InsC K c.cL
 iI:InsC K c.cI
 mL:mg "Leaf" = some (.ref c.cL)
 mI:mg "Inner" = some (.ref c.cI)
 LL:kitOne K (.ref c.cL) (.ref c.cL)=some true
 LI:kitOne K (.ref c.cL) (.ref c.cI)=some false
 IL:kitOne K (.ref c.cI) (.ref c.cL)=some false
 II:kitOne K (.ref c.cI) (.ref c.cI)=some true
def psD (s:Stmt):List Str:=(fC s).args.map (·.arg)
abbrev D (K:Frag)(mg:Str->Option Value)(x:Str)(i:Nat):=DD K mg x (top i) (psD (top i))
abbrev M' (K:Frag)(mg:Str->Option Value)(cn nm q:Str)(i j:Nat):=MM K mg cn nm q (bU (top i) j) (psD (bU (top i) j))
structure Rst (K:Frag)(mg:Str->Option Value):Prop where
 T:Txt K mg
 nz:mg "zip" = none
 R_given:M' K mg "Rounds" "given" "Rounds.given" 54 1
 R_went:M' K mg "Rounds" "went" "Rounds.went" 54 2
 R_enter:M' K mg "Rounds" "enter" "Rounds.enter" 54 3
 R_release:M' K mg "Rounds" "release" "Rounds.release" 54 5
 R_is_past:M' K mg "Rounds" "is_past" "Rounds.is_past" 54 6
 R_is_used:M' K mg "Rounds" "is_used" "Rounds.is_used" 54 8
 R_is_kept:M' K mg "Rounds" "is_kept" "Rounds.is_kept" 54 9
 R_many_places:M' K mg "Rounds" "many_places" "Rounds.many_places" 54 10
 R_lap:M' K mg "Rounds" "lap" "Rounds.lap" 54 11
 R_used:M' K mg "Rounds" "used" "Rounds.used" 54 12
 R_kept:M' K mg "Rounds" "kept" "Rounds.kept" 54 13
 R_free:M' K mg "Rounds" "free" "Rounds.free" 54 14
 L_part:M' K mg "Leaf" "part" "Leaf.part" 51 4
 N_held_by:M' K mg "Node" "held_by" "Node.held_by" 62 1
 T_most:M' K mg "Tree" "most" "Tree.most" 63 1
 T_top:M' K mg "Tree" "top" "Tree.top" 63 2
 T_places:M' K mg "Tree" "places" "Tree.places" 63 3
 T_node_in:M' K mg "Tree" "node_in" "Tree.node_in" 63 7
 T_page:M' K mg "Tree" "page" "Tree.page" 63 9
 T_level_of:M' K mg "Tree" "level_of" "Tree.level_of" 63 10
 T_edge_of:M' K mg "Tree" "edge_of" "Tree.edge_of" 63 11
 T_need_used:M' K mg "Tree" "need_used" "Tree.need_used" 63 16
 T_need_edge:M' K mg "Tree" "need_edge" "Tree.need_edge" 63 17
 T_held_node:M' K mg "Tree" "held_node" "Tree.held_node" 63 18
 T_made:M' K mg "Tree" "made" "Tree.made" 63 19
 T_hold:M' K mg "Tree" "hold" "Tree.hold" 63 20
 T_write:M' K mg "Tree" "write" "Tree.write" 63 21
 T_free:M' K mg "Tree" "free" "Tree.free" 63 22
 T_go:M' K mg "Tree" "go" "Tree.go" 63 23
 T_lead:M' K mg "Tree" "lead" "Tree.lead" 63 24
 T_enter:M' K mg "Tree" "enter" "Tree.enter" 63 25
 d_is_number:D K mg "is_number" 8
 d_is_whole:D K mg "is_whole" 9
 d_is_key:D K mg "is_key" 10
 d_is_good:D K mg "is_good" 11
 d_is_place:D K mg "is_place" 12
 d_is_most:D K mg "is_most" 13
 d_is_level:D K mg "is_level" 14
 d_is_count:D K mg "is_count" 15
 d_is_doer:D K mg "is_doer" 16
 d_is_row:D K mg "is_row" 17
 d_is_rising:D K mg "is_rising" 18
 d_in_stretch:D K mg "in_stretch" 19
 d_are_page_keys:D K mg "are_page_keys" 46
 d_are_goods:D K mg "are_goods" 47
 d_are_places:D K mg "are_places" 48
 d_need_most:D K mg "need_most" 58
 d_need_level:D K mg "need_level" 59
 d_need_page:D K mg "need_page" 60
 d_need_doer:D K mg "need_doer" 61
 d_rounds_of:D K mg "rounds_of" 55
 d_need_told_node:D K mg "need_told_node" 64
 d_need_told_edge:D K mg "need_told_edge" 65
 d_need_told_nodes:D K mg "need_told_nodes" 66
 d_told_nodes:D K mg "told_nodes" 67
 d_put_told:D K mg "put_told" 68
 d_tree_of:D K mg "tree_of" 69
 d_chain_from:D K mg "chain_from" 21
 d_levels_of:D K mg "levels_of" 22
 d_pairs_of:D K mg "pairs_of" 23
 d_children_of:D K mg "children_of" 24
 d_unposted:D K mg "unposted" 25
 d__law_cell:D K mg "_law_cell" 71
 d__law_box:D K mg "_law_box" 72
 d__law_take:D K mg "_law_take" 73
 d__law_leaves:D K mg "_law_leaves" 74
 d__law_over:D K mg "_law_over" 75
 d__law_order:D K mg "_law_order" 76
 d__law_model:D K mg "_law_model" 77
 d__law_old:D K mg "_law_old" 78
 d__law_free:D K mg "_law_free" 79
 d__law_tree:D K mg "_law_tree" 80
 d__law_levels:D K mg "_law_levels" 81
 d__law_bent_keys:D K mg "_law_bent_keys" 82
 d__law_bent_goods:D K mg "_law_bent_goods" 83
 d__law_other_top:D K mg "_law_other_top" 84
 d__law_bent:D K mg "_law_bent" 85
 d__law_unposted:D K mg "_law_unposted" 86
 d__law_right:D K mg "_law_right" 87
 d_law:D K mg "law" 88
structure Fx (P:Program)(w:World)(K:Frag)(mg:Str->Option Value)(base:Heap)(c:Cs):Prop where
 r:Rst K mg
 PX:∃cP fP fdP,PgN K mg cP fP fdP
 LX:∃f fd,KdN K mg "Leaf" "Leaf.__init__" (bU (top 51) 0) c.pg.cL f fd
 IX:∃f fd,KdN K mg "Inner" "Inner.__init__" (bU (top 52) 0) c.pg.cI f fd
 KF:KdF K mg c.pg
 BK:∃f fd,(∀C,c.pg.is C->Cls K C/\Meth K C "all_keys" f)/\Fun K "all_keys" "Page.all_keys" (bU (top 50) 1) f fd/\eJ K fd ["self"] []
 BG:∃f fd,(∀C,c.pg.is C->Cls K C/\Meth K C "goods" f)/\Fun K "goods" "Page.goods" (bU (top 50) 2) f fd/\eJ K fd ["self"] []
 RX:∃f fd,RdN K mg c.R f fd
 NX:∃f fd,NdN K mg c.N f fd
 TX:∃f fd,TrN K mg c.T f fd
section
variable {c:Cs}
abbrev Ok (_:Fx P w K mg base c){x:Str}{st:Stmt}{ps:List Str}(_:DD K mg x st ps):=OkD P w K mg base x st ps
abbrev Mt (_:Fx P w K mg base c)(C:Addr){n m q:Str}{st:Stmt}{ps:List Str}(_:MM K mg n m q st ps):=z6 P w K mg base CX0 C m ps
end
theorem Fx.cR {c:Cs}(F:Fx P w K mg base c):Cls K c.R:=let⟨_,_,x⟩:=F.RX;x.cl
theorem Fx.cT {c:Cs}(F:Fx P w K mg base c):Cls K c.T:=let⟨_,_,x⟩:=F.TX;x.cl
def Box (H:Hp)(p:Addr)(n:Nat):Prop:=∃a b c:Int,H p=some (.lst [.int a,.int b,.int c])/\0<=a/\0<=b/\b<2147483647/\0<=c/\c<=n
theorem Box.lst (x:Box H p n):∃xs,H p=some (.lst xs):=let⟨_,_,_,h,_⟩:=x;⟨_,h⟩
theorem Box.mono (x:Box H p n)(h:n<=m):Box H p m:=let⟨a,b,c,h1,h2,h3,h4,h5,h6⟩:=x;⟨a,b,c,h1,h2,h3,h4,h5,by lia⟩
theorem Box.same (x:Box H p n)(s:aQ H H'):Box H' p n:=let⟨a,b,c,h1,r⟩:=x;⟨a,b,c,s _ _ h1,r⟩
theorem Box.to (x:Box H p n)(s:∀o,H p=some o->H' p=some o):Box H' p n:=let⟨a,b,c,h1,r⟩:=x;⟨a,b,c,s _ h1,r⟩
theorem Box.ne (x:Box H p n)(h:H q=none):q≠p:=by
 obtain⟨xs,e⟩:=x.lst;exact(ah e h).symm
inductive spTake (vs:List V)(H:Hp)(Q:VK)(E:XK):Prop
 | mk (p:Addr)(m:Int)(n:Nat):vs=[.ref p,.int m]->Box H p n->n<=1000000->0<m->m<=1000000000->(∀(r:Int) (H':Hp),0<=r->r<m->Box H' p (n+1)->KB p H H'->Q (.int r) H')->spTake vs H Q E
theorem xM {r:Int}(h0:0<=r)(h1:r<xs.length):∃v,v∈xs/\atI xs r=some v:=by
 have hj:r.toNat<xs.length:=by lia
 refine⟨xs[r.toNat],getElem_mem hj,?_⟩;have e:xs[r.toNat]?=some xs[r.toNat]:=by simp[hj]
 have:=dN e
 rwa[show ((r.toNat:Nat):Int)=r by lia] at this
theorem eE {r:Int}(h0:0<=r)(h1:r<ns.length):∃z,z∈ns/\atI (ns.map V.int) r=some (.int z):=by
 obtain⟨v,hv,e⟩:=xM (xs:=ns.map V.int) h0 (by simpa using h1);obtain⟨z,hz,rfl⟩:=bC.mp hv;exact⟨z,hz,e⟩
local macro_rules | `(tactic| walk_at "c") => `(tactic| first | assumption | exact (by decide) | exact Or.inl ⟨by decide, by decide⟩ | exact Or.inr ⟨by decide, by decide⟩ | exact ⟨by decide, by decide +kernel⟩)
local macro_rules | `(tactic| walk_at "s") => `(tactic| exact ⟨rfl, rfl, rfl, by decide +kernel, rfl, by decide +kernel, by decide +kernel⟩)
local macro_rules | `(tactic| walk_at "h") => `(tactic| first | assumption | exact ae | exact sg (by assumption) (by assumption) | (refine cm ?_ ?_ <;> first | assumption | exact ae))
local macro_rules | `(tactic| walk_at "r1") => `(tactic| first
 | with_reducible (first | refine ji fun _ _ => ?_ | refine rR ?_ | refine AA ?_ | refine ym ?_ | refine yo ?_ | refine AC fun _ _ _ _ => ?_ | refine pI ?_ | refine AF ?_ | refine AE ?_ | refine yq ?_ | refine AB ?_ | refine A9 ?_ | refine vX ?_ | refine zS ?_ | refine Bf ?_ | refine Be ?_ | refine qb ?_ | refine yz ?_ | refine Cf ?_ | refine yK ?_ | refine AJ ?_ | refine yE ?_ | refine AR ?_ | refine Ci ?_ | refine AK ?_ | refine AO ?_ | refine r_c ?_ | refine BD ?_ | refine Ce ?_ | refine Co ?_ | refine q_u ?_ | refine wA ?_ | refine xm ?_ | refine AQ ?_ | refine yH ?_ | refine AN ?_ | refine AI ?_ | refine yI ?_ | refine AM ?_ | refine yJ ?_ | refine yF ?_ | refine wz ?_ | refine yG ?_ | refine Ck ?_ | refine Cl ?_ | refine AD ?_ | refine Cj ?_ | refine yB ?_ | refine r_rng2 ?_ | refine r_pcons ?_ | refine r_pnil ?_ | refine r_cbk ?_ | refine Cd ?_ | refine Cg ?_ | refine AL ?_ | refine yC ?_ | refine Ct ?_ | refine Ch ?_ | refine Cn ?_ | refine gC ?_ | refine fY ?_ | refine Bc ?_ | refine Bb ?_)
 | ((with_reducible refine' AH ?e ?q); (case e => rfl))
 | ((with_reducible refine' Cq ?e ?q); (case e => rfl)) | ((with_reducible refine' Cm ?e ?q); (case e => rfl))
 | ((with_reducible refine' A_ ?h ?c ?n ?l ?q); (case h => walk_at "h"); (case c => assumption); (case n => assumption); (case l => rfl))
 | ((with_reducible refine' zu ?h ?c ?n ?l ?q); (case h => walk_at "h"); (case c => assumption); (case n => assumption); (case l => exact Nat.le_of_ble_eq_true rfl))
 | ((with_reducible refine' vO ?h ?l ?q); (case h => walk_at "h"); (case l => first | rfl | walk_at "tf"))
 | ((with_reducible refine' cG ?h ?e ?q); (case h => walk_at "h"); (case e => rfl))
 | ((with_reducible refine' AU ?h ?e ?q); (case h => walk_at "h"); (case e => rfl))
 | ((with_reducible refine' pK ?h ?e ?q); (case h => walk_at "h"); (case e => rfl))
 | ((with_reducible refine' q_i ?c ?q); (case c => walk_at "c"))
 | ((with_reducible refine' k_dgetS ?h ?e ?q); (case h => walk_at "h"); (case e => walk_at "st"))
 | ((with_reducible refine' zR ?h ?l ?q); (case h => walk_at "h"); (case l => rfl))
 | ((with_reducible refine' Ba ?h ?q); (case h => walk_at "h")) | ((with_reducible refine' BQ ?h ?q); (case h => walk_at "h"))
 | (with_reducible refine dB (by assumption) ?_))
local macro_rules | `(tactic| walk_at "r") => `(tactic| ((try dsimp only [cxK]); repeat walk_at "r1"))
local macro_rules | `(tactic| walk) => `(tactic| walk_at "r")
local macro_rules | `(tactic| walk_at "o") => `(tactic| (with_reducible refine dB (by assumption) ?_))
section
variable {c:Cs}(F:Fx P w K mg base c)
theorem sT {m:Int}(h:0<m)(h2:m<=1000000000):m.natAbs.log2<9000:=by
 have e:m.natAbs<2 ^ 30:=by lia
 have:=(Nat.log2_lt (by lia)).mpr e
 lia
theorem sm1:(x % 2147483647).natAbs<2 ^ 64:=by lia
theorem sm2:0<=x % 2147483629/\x % 2147483629<2147483629:=by lia
theorem A7 {c:Int}(h:0<=z/\z<2147483629)(h0:0<=c):-(2 ^ 64:Int)<z+104729 * (c+1):=by lia
theorem Bd {c:Int}(h:0<=z/\z<2147483629)(h0:0<=c)(h1:c<=1000000):z+104729 * (c+1)<(2 ^ 64:Int):=by lia
theorem bS:Ok F F.r.d__law_take 1 spTake:=by
 refine F.r.d__law_take.go fun sc H Q hr h=>?_;obtain⟨p,m,n,rfl,⟨a,b,c,hb,ha,hb0,hb1,hc0,hc1⟩,hn,hm,hm2,k⟩:=h
 refine⟨_,(ad (bT (pc i8 (pix aS (pv 0) ap) ap)
   (ad (cD sc 2 (bN jp (pix aS (pv 0) ap) (pv 1)))
  (ad (iF (bN p8 (pix aS (pv 0) ap) (pv 1)) (pV (pv 0) ap jC))
  (ao (bc (pv 2)))))
   bd)
  (ad (iF (bN cH (pix aS (pv 0) ap) ap) (pV (pv 0) ap jC))
  (ad (cD sc 3 (bN jp (bN mM (bN cH (pix aS (pv 0) ap) ap) (bN cH (bN mM ap (pix aS (pv 0) ap)) ap)) ap))
  (ad (cD sc 4 (bN jp (bN vL (pv 3) ap) ap))
  (ad (cD sc 4 (bN jp (bN mM (bN cH (pv 4) (bN mM ap (pix aS (pv 0) ap))) (bN cH (pv 4) ap)) ap))
  (ao (bc (bN jp (bN p8 (pv 4) ap) (pv 1))))))))),?_⟩
 walk;refine zD (fun h0=>?_) (fun h0=>?_)
 ·walk;refine q_i ⟨hm,sT hm hm2⟩ ?_;walk;exact k _ _ (Int.emod_nonneg _ (by lia)) (Int.emod_lt_of_pos _ hm) ⟨a / m,b,c,ae,Int.ediv_nonneg ha (by lia),hb0,hb1,hc0,by lia⟩ (KB.refl.updP)
 ·walk;refine q_i (.inl ⟨by lia,by lia⟩) ?_;walk;refine q_i ⟨by decide,by decide,sm1⟩ ?_;walk;refine q_i (.inl ⟨?_,?_⟩) ?_
  ·exact A7 sm2 hc0
  ·exact Bd sm2 hc0 (by lia)
  walk;exact k _ _ (Int.emod_nonneg _ (by lia)) (Int.emod_lt_of_pos _ hm) ⟨a,b,c+1,ae,ha,hb0,hb1,by lia,by lia⟩ (KB.refl.updP)
inductive spCell (K:Frag)(vs:List V)(H:Hp)(Q:VK)(E:XK):Prop
 | mk (a:Addr)(k:Nat)(ns:List Int):vs=[.ref a,.int k]->SqL K H a (ns.map V.int)->(∀i:Int,Q (.int i) H)->spCell K vs H Q E
theorem w_:Ok F F.r.d__law_cell 1 (spCell K):=by
 refine F.r.d__law_cell.go fun sc H Q hr h=>?_;obtain⟨a,j,ns,rfl,hS,k⟩:=h
 refine⟨_,(ad (bT (pc qS (pv 1) (aR bj rfl F.r.T.n_len cS (pa1 (pv 0))))
   (ao (bc (pix aS (pv 0) (pv 1))))
   bd)
  (ao (bc (bN cH (bN mM ap (pv 1)) ap)))),?_⟩
 refine⟨_,rfl,_,rfl,_,_,rfl,.inl hS,_,_,rfl,rfl,_,rfl,?_⟩;refine zD (fun h0=>?_) (fun h0=>?_)
 ·have h1:=bB h0;obtain⟨z,_,e⟩:=eE (ns:=ns) (r:=(j:Int)) (by lia) (by simpa using h1);exact⟨_,rfl,_,rfl,_,_,_,_,rfl,rfl,hS,e,k z⟩
 ·exact⟨_,rfl,_,_,rfl,rfl,.inl ⟨by decide,by decide⟩,_,_,rfl,rfl,k _⟩
inductive spBox (vs:List V)(H:Hp)(Q:VK)(E:XK):Prop
 | mk (c:Int):vs=[.int c]->(∀(p:Addr) (H':Hp),H p=none->Box H' p 0->aQ H H'->Q (.ref p) H')->spBox vs H Q E
theorem ze:Ok F F.r.d__law_box 1 spBox:=by
 refine F.r.d__law_box.go fun sc H Q hr h=>?_;obtain⟨c,rfl,k⟩:=h;refine⟨_,(ao (bc (bw (pa3 (aR (iS rfl) rfl F.r.T.n_max ko (pa2 ap (bN g_ (pv 0) (bN vL ap ap)))) (bN jp (pv 0) ap) ap)))),?_⟩;walk;refine⟨_,_,rfl,?_⟩;walk;refine⟨sz,fun p hp=>?_⟩
 refine k p _ hp ⟨_,_,_,ae,?_,Int.emod_nonneg _ (by decide),Int.emod_lt_of_pos _ (by decide),Int.le_refl _,Int.le_refl _⟩ (aQ.upd hp);generalize c - 10 ^ (18:Int).toNat=z;by_cases hz:z > 0
 ·rw[aH hz];lia
 ·rw[aA hz];lia
end
variable {c:K31.Cs}
inductive spB (p:Int->Bool)(vs:List V)(H:Hp)(Q:VK)(E:XK):Prop
 | mk (i:Int):vs=[.int i]->Q (.bl (p i)) H->spB p vs H Q E
def inR (lo hi:Int)(i:Int):Bool:=decide (lo<=i)&&decide (i<=hi)
theorem kA {hi i:Int}(h1:lo<=i)(h2:i<=hi):inR lo hi i=true:=by unfold inR;rw[av h1,av h2];rfl
inductive spW (vs:List V)(H:Hp)(Q:VK)(E:XK):Prop
 | mk (i lo hi:Int):vs=[.int i,.int lo,.int hi]->Q (.bl (inR lo hi i)) H->spW vs H Q E
theorem int_int:kitOne K (.type "int") (.type "int")=some true:=by kernel_rfl
theorem int_bool:kitOne K (.type "int") (.type "bool")=some false:=by kernel_rfl
variable (F:Fx P w K mg base c)
theorem vM:Ok F F.r.d_is_number 1 (spB fun _=>true):=by
 refine F.r.d_is_number.go fun sc H Q hr h=>?_;obtain⟨i,rfl,k⟩:=h;refine⟨_,(ao (bc (gf (aR fF rfl F.r.T.n_isinstance cx (pa2 (pv 0) (gH (v:=.ty "int") rfl F.r.T.n_int v6 rfl))) (eP (vJ (aR fF rfl F.r.T.n_isinstance cx (pa2 (pv 0) (gH (v:=.ty "bool") rfl F.r.T.n_bool uc rfl)))))))),?_⟩;walk
 refine⟨_,_,_,_,rfl,.int i,.inl ⟨"int",rfl,int_int⟩,?_⟩;walk;refine⟨_,_,_,_,rfl,.int i,.inl ⟨"bool",rfl,int_bool⟩,?_⟩;walk;exact k
theorem mQ:Ok F F.r.d_is_whole 2 spW:=by
 refine F.r.d_is_whole.go fun sc H Q hr h=>?_;obtain⟨i,lo,hi,rfl,k⟩:=h;refine⟨_,(ao (bc (gf (cc (vM F) hr (pa1 (pv 0))) (eP (pZ oy oy (pv 1) (pv 0) (pv 2)))))),?_⟩;walk;refine⟨i,rfl,?_⟩;walk;unfold inR at k;refine zD (fun c=>?_) (fun c=>?_)
 ·walk;rw[c,Bool.true_and] at k;exact k
 ·rw[Bool.eq_false_iff.mpr c,Bool.false_and] at k;exact k
theorem jV:Ok F F.r.d_is_key 3 (spB (inR (-999999999) 999999999)):=by
 obtain⟨t_LEAST_KEY,c_LEAST_KEY⟩:=F.r.T.c_lo;obtain⟨t_GREATEST_KEY,c_GREATEST_KEY⟩:=F.r.T.c_hi;refine F.r.d_is_key.go fun sc H Q hr h=>?_;obtain⟨i,rfl,k⟩:=h;refine⟨_,(ao (bc (cc (mQ F) hr (pa3 (pv 0) (eA (v:=.int (-999999999)) rfl c_LEAST_KEY ⟨t_LEAST_KEY,rfl⟩) (eA (v:=.int (999999999)) rfl c_GREATEST_KEY ⟨t_GREATEST_KEY,rfl⟩))))),?_⟩;exact⟨_,rfl,i,_,_,rfl,k⟩
theorem qV:Ok F F.r.d_is_good 3 (spB (inR (-999999999) 999999999)):=by
 obtain⟨t_LEAST_KEY,c_LEAST_KEY⟩:=F.r.T.c_lo;obtain⟨t_GREATEST_KEY,c_GREATEST_KEY⟩:=F.r.T.c_hi;refine F.r.d_is_good.go fun sc H Q hr h=>?_;obtain⟨i,rfl,k⟩:=h;refine⟨_,(ao (bc (cc (mQ F) hr (pa3 (pv 0) (eA (v:=.int (-999999999)) rfl c_LEAST_KEY ⟨t_LEAST_KEY,rfl⟩) (eA (v:=.int (999999999)) rfl c_GREATEST_KEY ⟨t_GREATEST_KEY,rfl⟩))))),?_⟩;exact⟨_,rfl,i,_,_,rfl,k⟩
theorem qU:Ok F F.r.d_is_most 3 (spB (inR 2 5)):=by
 obtain⟨t_LEAST_MOST,c_LEAST_MOST⟩:=F.r.T.c_lm;obtain⟨t_GREATEST_MOST,c_GREATEST_MOST⟩:=F.r.T.c_gm;refine F.r.d_is_most.go fun sc H Q hr h=>?_;obtain⟨i,rfl,k⟩:=h;refine⟨_,(ao (bc (cc (mQ F) hr (pa3 (pv 0) (eA (v:=.int (2)) rfl c_LEAST_MOST ⟨t_LEAST_MOST,rfl⟩) (eA (v:=.int (5)) rfl c_GREATEST_MOST ⟨t_GREATEST_MOST,rfl⟩))))),?_⟩;exact⟨_,rfl,i,_,_,rfl,k⟩
theorem oE:Ok F F.r.d_is_level 3 (spB (inR 0 60)):=by
 obtain⟨t_GREATEST_LEVEL,c_GREATEST_LEVEL⟩:=F.r.T.c_lv;refine F.r.d_is_level.go fun sc H Q hr h=>?_;obtain⟨i,rfl,k⟩:=h;refine⟨_,(ao (bc (cc (mQ F) hr (pa3 (pv 0) ap (eA (v:=.int (60)) rfl c_GREATEST_LEVEL ⟨t_GREATEST_LEVEL,rfl⟩))))),?_⟩;exact⟨_,rfl,i,_,_,rfl,k⟩
theorem oF:Ok F F.r.d_is_count 3 (spB (inR 0 1000000)):=by
 obtain⟨t_GREATEST_COUNT,c_GREATEST_COUNT⟩:=F.r.T.c_cnt;refine F.r.d_is_count.go fun sc H Q hr h=>?_;obtain⟨i,rfl,k⟩:=h;refine⟨_,(ao (bc (cc (mQ F) hr (pa3 (pv 0) ap (eA (v:=.int (1000000)) rfl c_GREATEST_COUNT ⟨t_GREATEST_COUNT,rfl⟩))))),?_⟩;exact⟨_,rfl,i,_,_,rfl,k⟩
theorem kM:Ok F F.r.d_is_doer 4 (spB (inR 0 1000000)):=by
 refine F.r.d_is_doer.go fun sc H Q hr h=>?_;obtain⟨i,rfl,k⟩:=h;refine⟨_,(ao (bc (cc (oF F) hr (pa1 (pv 0))))),?_⟩;exact⟨_,rfl,i,rfl,k⟩
theorem ij:Ok F F.r.d_is_place 2 (spB (fun i=>decide (0<=i))):=by
 refine F.r.d_is_place.go fun sc H Q hr h=>?_;obtain⟨i,rfl,k⟩:=h;refine⟨_,(ao (bc (gf (cc (vM F) hr (pa1 (pv 0))) (eP (eB wQ (pv 0) ap (gw _)))))),?_⟩;walk;refine⟨i,rfl,?_⟩;walk;exact k
theorem vw (e:σ[i]?=some (some (.ref a)))(h:iV false H a xs)(R:It->Hp->Prop)(r:R (ItB K false a) H):BT K false (vA i) σ H R:=⟨_,e,a,rfl,⟨xs,h.sq⟩,r⟩
theorem jI {α:Type}{xs:List α}:xs.filter (fun _=>true)=xs:=filter_eq_self.mpr fun _ _=>rfl
def lh (i:Int):Prop:=-999999999<=i/\i<=999999999
structure KeysOk (ks:List Int):Prop where
 r:∀i∈ks,lh i
 p:ks.Pairwise (· < ·)
 l:ks.length<=6
theorem u6 {i:Int}(h:lh i):inR (-999999999) 999999999 i=true:=kA h.1 h.2
theorem u3:kitAny K (.type "list") [.type "list",.type "tuple"]=some true:=by kernel_rfl
theorem Cb:∀c∈([V.ty "list",V.ty "tuple"]:List V),(∃n,c=.ty n)\/∃a,c=.ref a:=by
 intro c hc;simp at hc;rcases hc with rfl|rfl<;>exact .inl ⟨_,rfl⟩
inductive spRowT (vs:List V)(H:Hp)(Q:VK)(E:XK):Prop
 | mk (a:Addr)(xs:List V):vs=[.ref a]->iV false H a xs->(∀H',aQ H H'->Q (.bl true) H')->spRowT vs H Q E
inductive spRise (vs:List V)(H:Hp)(Q:VK)(E:XK):Prop
 | mk (a:Addr)(ks:List Int):vs=[.ref a]->iV false H a (ks.map V.int)->KeysOk ks->(∀H',aQ H H'->Q (.bl true) H')->spRise vs H Q E
theorem p_:Ok F F.r.d_is_row 1 spRowT:=by
 refine F.r.d_is_row.go fun sc H Q hr h=>?_;obtain⟨a,xs,rfl,r,k⟩:=h;refine⟨_,(ao (bc (aR fF rfl F.r.T.n_isinstance cx (pa2 (pv 0) (dU (pa2 (gH (v:=.ty "list") rfl F.r.T.n_list dX rfl) (gH (v:=.ty "tuple") rfl F.r.T.n_tuple iU rfl))))))),?_⟩
 exact⟨_,rfl,sz,fun p hp=>⟨.ref a,_,_,_,rfl,Thg.keep (.lst r) (aQ.upd hp),.inr (.inr ⟨p,_,rfl,ae,Cb,u3⟩),k _ (aQ.upd hp)⟩⟩
theorem wU:Ok F F.r.d_is_rising 4 spRise:=by
 refine F.r.d_is_rising.go fun sc H Q hr h=>?_;obtain⟨a,ks,rfl,hR,ok,k⟩:=h
 refine⟨_,(ad (bT (cO (cv (cc (p_ F) hr (pa1 (pv 0)))))
   (ao (bc fh))
   bd)
  (ad (dC PassesOwn.never rfl (gm rfl F.r.T.n_enumerate dw (pa1 (pv 0))) (gc rfl (bn (eO sc 1) (bn (eO sc 2) dS)))
   (ad (bT (cO (cv (cc (jV F) hr (pa1 (pv 2)))))
   (ao (bc fh))
   bd)
  (ao (bT (PW.pt (fM (pc i8 (pv 1) ap) (d0 (pc oy (pv 2) (pix zB (pv 0) (bN g_ (pv 1) ap))))))
   (ao (bc fh))
   bd))))
  (ao (bc fh)))),?_⟩
 refine⟨_,rfl,a,_,rfl,hR,fun H1 S1=>⟨_,rfl,fY ?_⟩⟩;have hR1:∀{H2:Hp},aQ H H2->iV false H2 a (ks.map V.int):=fun S=>S _ _ hR;refine⟨_,rfl,a,rfl,⟨_,(hR1 S1).sq⟩,tN (fun i σ H2=>aQ H H2/\(∃o1 o2,σ=[some (.ref a),o1,o2])) ⟨S1,⟨none,none,rfl⟩⟩ (fun i σ H2 _ ⟨S2,_⟩=>(hR1 S2).sq) ?_ ?_⟩
 ·rintro i y t0 σ H2 hi ⟨S2,⟨o1,o2,rfl⟩⟩ ht0;have S3:aQ H (upd H2 t0 (.tup [.int i,y])):=S2.trans (aQ.upd ht0);rw[aB] at hi;obtain⟨z,hz,rfl⟩:=bt.mp hi;obtain⟨hil,ez⟩:=aq.mp hz;refine⟨_,_,rfl,SqT.of ae,rfl,_,_,rfl,_,_,rfl,rfl,?_⟩;refine⟨_,rfl,z,rfl,_,rfl,?_⟩;rw[u6 (ok.r z (aK hz))];refine fY ?_
  refine⟨_,rfl,_,_,rfl,rfl,_,rfl,zD (fun hp=>?_) (fun hp=>?_)⟩
  ·have hp':=bB hp;have hj:i - 1<ks.length:=by lia
   have eix:atI (ks.map V.int) ((i:Int) - 1)=some (.int ks[i - 1]):=by
    have:=dN (xs:=ks.map V.int) (j:=i - 1) (v:=V.int ks[i - 1]) (by rw[aB,aa hj];rfl)
    rwa[show ((i - 1:Nat):Int)=(i:Int) - 1 by lia] at this
   have lt:ks[i - 1]<z:=by
    have:=List.pairwise_iff_getElem.mp ok.p (i - 1) i hj hil (by lia);rw[ez] at this;exact this
   refine⟨_,rfl,_,rfl,_,rfl,_,_,rfl,rfl,yx (hR1 S3) eix ⟨_,_,rfl,rfl,_,rfl,?_⟩⟩;rw[aF (by lia)];exact fY ⟨S3,⟨_,_,rfl⟩⟩
  ·exact fY ⟨S3,⟨_,_,rfl⟩⟩
 ·rintro σ H2 ⟨S2,⟨o1,o2,rfl⟩⟩;exact k H2 S2
theorem vN:Ok F F.r.d_are_page_keys 5 spRise:=by
 obtain⟨t_MOST_KEYS,c_MOST_KEYS⟩:=F.r.T.c_most;refine F.r.d_are_page_keys.go fun sc H Q hr h=>?_;obtain⟨a,ks,rfl,r,ok,k⟩:=h;refine⟨_,(ao (bc (gf (cc (wU F) hr (pa1 (pv 0))) (eP (eB oy (aR bj rfl F.r.T.n_len cS (pa1 (pv 0))) (eA (v:=.int (6)) rfl c_MOST_KEYS ⟨t_MOST_KEYS,rfl⟩) (gw _)))))),?_⟩
 refine⟨_,rfl,a,ks,rfl,r,ok,fun H1 S1=>⟨_,rfl,?_⟩⟩;refine gC ⟨_,rfl,a,_,rfl,ot (S1 _ _ r),_,_,rfl,rfl,?_⟩;have l:=ok.l;have e:decide (((ks.map V.int).length:Int)<=6)=true:=av (by rw[af];lia);show Q (.bl (decide (((ks.map V.int).length:Int)<=6))) H1;rw[e];exact k H1 S1
inductive spGoods (ok:Int->Prop)(vs:List V)(H:Hp)(Q:VK)(E:XK):Prop
 | mk (a:Addr)(gs:List Int):vs=[.ref a,.int gs.length]->iV false H a (gs.map V.int)->(∀i∈gs,ok i)->gs.length<=100->gs.Nodup->(∀H',aQ H H'->Q (.bl true) H')->spGoods ok vs H Q E
inductive spGoods' (vs:List V)(H:Hp)(Q:VK)(E:XK):Prop
 | mk (a:Addr)(gs:List Int):vs=[.ref a,.int gs.length]->iV false H a (gs.map V.int)->(∀i∈gs,lh i)->gs.length<=100->(∀H',aQ H H'->Q (.bl true) H')->spGoods' vs H Q E
theorem v8 {α:Type}{f:α->Bool}{xs:List α}(h:∀x∈xs,f x=true):(xs.map f).all id=true:=by
 rw[all_eq_true];intro b hb;obtain⟨x,hx,rfl⟩:=bC.mp hb;exact h x hx
theorem A4:Ok F F.r.d_are_goods 6 spGoods':=by
 refine F.r.d_are_goods.go fun sc H Q hr h=>?_;obtain⟨a,gs,rfl,ra,ok,hz,k⟩:=h
 refine⟨_,(ao (bc (gf (cc (p_ F) hr (pa1 (pv 0))) (gf (eB fJ (aR bj rfl F.r.T.n_len cS (pa1 (pv 0))) (pv 1) (gw _)) (eP (aR (km (hr.hd rfl)) rfl F.r.T.n_all ud (pa1 (i5 (dE [] []) rfl (vH false (pv 0)) (fun _ _ _ _ _=>PTs.nil) (fun _ _ _ _ _=>(cc (qV F) hr (pa1 (pv 0)))))))))))),?_⟩
 refine⟨_,rfl,a,_,rfl,ra,fun H1 S1=>⟨_,rfl,gC ?_⟩⟩;have ra1:=S1 _ _ ra;refine⟨_,rfl,a,_,rfl,ot ra1,_,rfl,rfl,_,rfl,?_⟩;rw[af,av rfl];refine gC ?_;refine Au (jx (gs.map V.int) (fun _=>true) (fun _=>.bl true) (vw rfl ra1) (j_ ra1) ?_ ?_ (by rw[af];lia) ?_)
 ·exact fun _ _ H2 R _ r=>r H2 (aQ.refl _)
 ·intro y hy _ H2 R S2 r;obtain⟨z,hz,rfl⟩:=bC.mp hy;refine⟨_,rfl,z,rfl,?_⟩;rw[u6 (ok z hz)];exact r H2 (aQ.refl _)
 ·intro dd H2 f2 S2 e2;refine⟨dd,gs.map fun _=>true,rfl,by rw[e2,jI,map_map,map_map];rfl,?_⟩;rw[v8 (fun _ _=>rfl)];exact k H2 (S1.trans S2)
theorem p9:∀(ns:List Int) (k:Nat),k<=ns.length->(fm ns k).length<=k/\((fm ns k).length=k ↔ (ns.take k).Nodup)/\∀z,(fm ns k).any (· == z)=true ↔ z∈ns.take k
 | ns,0,_=>by
  refine⟨aE _,?_,?_⟩
  ·simp[fm,PyProof.Rows.firstMet]
  ·simp[fm,PyProof.Rows.firstMet]
 | ns,k+1,h=>by
  obtain⟨h1,h2,h3⟩:=p9 ns k (by lia);have tk:ns.take (k+1)=ns.take k++[ns[k]]:=by rw[take_add_one];simp[show k<ns.length by lia]
  have gd:ns.getD k 0=ns[k]:=by simp[List.getD,show k<ns.length by lia]
  have st:fm ns (k+1)=step_dedup (fm ns k) (ns[k]):=by
   show PyProof.Rows.firstMet _ _=_;rw[PyProof.Rows.firstMet_succ,gd]
  rw[st,(PyProof.Rows.step_length (fm ns k) ns[k]),tk]
  have mem:∀z,(step_dedup (fm ns k) ns[k]).any (· == z)=true ↔ z∈ns.take k++[ns[k]]:=fun z=>by
   rw[(step_any (fm ns k) ns[k]) z,Bool.or_eq_true,h3 z,aT,au,decide_eq_true_eq]
  by_cases c:(fm ns k).any (· == ns[k])=true
  ·rw[aH c];refine⟨by lia,⟨fun z=>by lia,fun z=>?_⟩,mem⟩;rw[bW] at z;exact aY rfl (z.2.2 _ ((h3 _).mp c) _ (by simp))
  ·rw[aA c];refine⟨by lia,⟨fun z=>?_,fun z=>?_⟩,mem⟩
   ·rw[bW];exact⟨h2.mp (by lia),by simp,fun u hu v hv e=>c ((h3 _).mpr (by rw[<- au.mp hv,<- e];exact hu))⟩
   ·rw[bW] at z;have:=h2.mpr z.1
    lia
theorem A3:Ok F F.r.d_are_places 6 (spGoods fun i=>0<=i):=by
 refine F.r.d_are_places.go fun sc H Q hr h=>?_;obtain⟨a,gs,rfl,ra,ok,hz,nd,k⟩:=h
 refine⟨_,(ad (bT (PW.pt (jP (cO (cv (cc (p_ F) hr (pa1 (pv 0))))) (iC (pc qR (aR bj rfl F.r.T.n_len cS (pa1 (pv 0))) (pv 1)))))
   (ao (bc fh))
   bd)
  (ao (bc (gf (aR (km (hr.hd rfl)) rfl F.r.T.n_all ud (pa1 (i5 (dE [] []) rfl (vH false (pv 0)) (fun _ _ _ _ _=>PTs.nil) (fun _ _ _ _ _=>(cc (ij F) hr (pa1 (pv 0))))))) (eP (eB fJ (aR t6 rfl F.r.T.n_len cS (pa1 (cF (tX (hr.hd rfl)) rfl F.r.T.n_set zZ (pa1 (pv 0))))) (pv 1) (gw _))))))),?_⟩
 refine⟨_,rfl,a,_,rfl,ra,fun H1 S1=>⟨_,rfl,fY ?_⟩⟩;have ra1:=S1 _ _ ra;refine⟨_,rfl,a,_,rfl,ot ra1,_,rfl,rfl,_,rfl,?_⟩;rw[af,av rfl];refine fY ?_;dsimp only[wk];refine x6 (Av (Au (jx (gs.map V.int) (fun _=>true) (fun _=>.bl true) (vw rfl ra1) (j_ ra1) ?_ ?_ (by rw[af];lia) ?_)))
 ·exact fun _ _ H2 R _ r=>r H2 (aQ.refl _)
 ·intro y hy _ H2 R S2 r;obtain⟨z,hz,rfl⟩:=bC.mp hy;refine⟨_,rfl,z,rfl,?_⟩;show R (.bl (decide (0<=z))) H2;rw[(av (ok z hz))];exact r H2 (aQ.refl _)
 ·intro dd H2 f2 S2 e2;refine⟨dd,gs.map fun _=>true,rfl,by rw[e2,jI,map_map,map_map];rfl,_,rfl,?_⟩;rw[v8 (fun _ _=>rfl)];obtain⟨o1,o2,_⟩:=p9 gs gs.length (by lia);rw[take_length] at o2;refine gC ⟨_,rfl,a,gs,rfl,(S2 _ _ ra1),by lia,fun l hl=>⟨l,_,_,rfl,ae,by lia,_,rfl,rfl,?_⟩⟩;rw[o2.mpr nd,av rfl];exact k _ ((S1.trans S2).trans (aQ.upd hl))
def But (x:Addr)(H H':Hp):Prop:=∀b o,H b=some o->b≠x->H' b=some o
def PgF (tk tg:Addr):List (Str×V):=[("key_row",.ref tk),("good_row",.ref tg)]
section
theorem wu:FnScope ["self","keys","goods"] ["self","keys","goods"] (bA (bU (top 50) 0)):=by walk_at "s"
inductive spPage (C:Addr)(vs:List V)(H:Hp)(Q:VK)(E:XK):Prop
 | mk (x dx a b:Addr)(xs ys:List V):vs=[.ref x,.ref a,.ref b]->H x=some (.ins C dx [])->H a=some (.lst xs)->H b=some (.lst ys)->(∀H' tk tg,But x H H'->H tk=none->H tg=none->H' x=some (.ins C dx (PgF tk tg))->H' tk=some (.tup xs)->H' tg=some (.tup ys)->Q .non H')->spPage C vs H Q E
theorem sH {fP}(hf:Fun K "__init__" "Page.__init__" (bU (top 50) 0) fP fd)(T:Txt K mg)(c:Cls K C)(n1:cC K C "key_row")(n2:cC K C "good_row"):iX P w K mg base CX0 1 fP fd ["self","keys","goods"] (spPage C):=by
 refine hf.ok wu (fun vs H Q E h=>?_) (fun cdv A outer s H vs Q E hr h=>?_)
 ·obtain⟨_,_,_,_,_,_,rfl,_⟩:=h;rfl
 ·obtain⟨x,dx,a,b,xs,ys,rfl,hx,ra,rb,k⟩:=h
  refine⟨_,(ad (cQ (pv 0) (cF iQ rfl T.n_tuple iU (pa1 (pv 1))) rfl)
  (ao (cQ (pv 0) (cF iQ rfl T.n_tuple iU (pa1 (pv 2))) rfl))),?_⟩
  walk;refine⟨a,xs,rfl,.inl ⟨SqL.of ra,fun tk hk=>?_⟩⟩;have nk:=(ah hx hk).symm;walk
  have rb1:upd (upd H tk (.tup xs)) x (.ins C dx (gW "key_row" (.ref tk) [])) b=some (.lst ys):=by
   rw[ak (cJ rb hx (by intro z;cases z))];exact cm hk rb
  refine⟨b,ys,rfl,.inl ⟨SqL.of rb1,fun tg hg=>?_⟩⟩;have ng:=(ah ae hg).symm;have hg1:=hg;rw[ak ng] at hg1;have ngk:=(ah ae hg1).symm;rw[ak ngk] at hg1;walk;refine k _ tk tg (fun c' o z n=>?_) hk hg1 ae ?_ ?_
  ·rw[ak n,ak (ah z hg1),ak n];exact cm hk z
  ·rw[ak nk,ak ngk.symm,ak nk,ae]
  ·rw[ak ng,ae]
inductive spMake (C:Addr)(okg:Nat->List Int->Prop)(vs:List V)(H:Hp)(Q:VK)(E:XK):Prop
 | mk (x dx a b:Addr)(ks gs:List Int):vs=[.ref x,.ref a,.ref b]->H x=some (.ins C dx [])->H a=some (.lst (ks.map V.int))->H b=some (.lst (gs.map V.int))->KeysOk ks->okg ks.length gs->(∀H' tk tg,But x H H'->H tk=none->H tg=none->H' x=some (.ins C dx (PgF tk tg))->H' tk=some (.tup (ks.map V.int))->H' tg=some (.tup (gs.map V.int))->Q .non H')->spMake C okg vs H Q E
def okL (n:Nat)(gs:List Int):Prop:=gs.length=n/\∀i∈gs,lh i
def okI (n:Nat)(gs:List Int):Prop:=gs.length=n+1/\(∀i∈gs,0<=i)/\gs.Nodup
theorem wv:FnScope ["self","keys","goods"] ["self","keys","goods"] (bA (bU (top 51) 0)):=by walk_at "s"
theorem uE:FnScope ["self","keys","goods"] ["self","keys","goods"] (bA (bU (top 52) 0)):=by walk_at "s"
theorem oC (F:Fx P w K mg base c)(X:KdN K mg "Leaf" "Leaf.__init__" (bU (top 51) 0) C f fd):iX P w K mg base CX0 8 f fd ["self","keys","goods"] (spMake C okL):=by
 obtain⟨cP,fP,fdP,y⟩:=F.PX;have T:=F.r.T;have GP:iX P w K mg base CX0 1 fP fdP ["self","keys","goods"] (spPage C):=sH y.fn T X.ins.cl X.n1 X.n2;refine X.fn.ok wv (fun vs H Q E h=>?_) (fun cdv A outer s H vs Q E hr h=>?_)
 ·obtain⟨_,_,_,_,_,_,rfl,_⟩:=h;rfl
 ·obtain⟨x,dx,a,b,ks,gs,rfl,hx,ha,hb,ok,og,k⟩:=h
  refine⟨_,(ad (bT (cO (cv (cc (vN F) hr (pa1 (pv 1)))))
   (ao bQ)
   bd)
  (ad (bT (cO (cv (cc (A4 F) hr (pa2 (pv 2) (aR bj rfl T.n_len cS (pa1 (pv 1)))))))
   (ao bQ)
   bd)
  (ao (a_ (sA y.b GP (hr.mono (by decide)) rfl y.m y.bi fH (pa3 (pv 0) (pv 1) (pv 2))))))),?_⟩
  walk;refine⟨a,ks,rfl,ha,ok,fun H1 S1=>?_⟩;walk;refine⟨a,_,rfl,.inl (SqL.of (S1 _ _ ha)),?_⟩;walk;refine⟨b,gs,by rw[af,og.1];rfl,S1 _ _ hb,og.2,by have:=ok.l;have:=og.1;lia,fun H2 S2=>?_⟩;have S:=S1.trans S2;walk;exact⟨x,dx,a,b,_,_,rfl,S _ _ hx,S _ _ ha,S _ _ hb,fun H3 tk tg B3 f1 f2 e1 e2 e3=>k H3 tk tg (fun c o z n=>B3 c o (S _ _ z) n) (S.free f1) (S.free f2) e1 e2 e3⟩
theorem lQ (F:Fx P w K mg base c)(X:KdN K mg "Inner" "Inner.__init__" (bU (top 52) 0) C f fd):iX P w K mg base CX0 8 f fd ["self","keys","goods"] (spMake C okI):=by
 obtain⟨cP,fP,fdP,y⟩:=F.PX;have T:=F.r.T;have GP:iX P w K mg base CX0 1 fP fdP ["self","keys","goods"] (spPage C):=sH y.fn T X.ins.cl X.n1 X.n2;refine X.fn.ok uE (fun vs H Q E h=>?_) (fun cdv A outer s H vs Q E hr h=>?_)
 ·obtain⟨_,_,_,_,_,_,rfl,_⟩:=h;rfl
 ·obtain⟨x,dx,a,b,ks,gs,rfl,hx,ha,hb,ok,og,k⟩:=h
  refine⟨_,(ad (bT (cO (cv (cc (vN F) hr (pa1 (pv 1)))))
   (ao bQ)
   bd)
  (ad (bT (cO (cv (cc (A3 F) hr (pa2 (pv 2) (bN cH (aR bj rfl T.n_len cS (pa1 (pv 1))) ap)))))
   (ao bQ)
   bd)
  (ao (a_ (sA y.b GP (hr.mono (by decide)) rfl y.m y.bi fH (pa3 (pv 0) (pv 1) (pv 2))))))),?_⟩
  walk;refine⟨a,ks,rfl,ha,ok,fun H1 S1=>?_⟩;walk;refine⟨a,_,rfl,.inl (SqL.of (S1 _ _ ha)),?_⟩;walk;refine⟨b,gs,by rw[af,og.1];rfl,S1 _ _ hb,og.2.1,by have:=ok.l;have:=og.1;lia,og.2.2,fun H2 S2=>?_⟩;have S:=S1.trans S2;walk;exact⟨x,dx,a,b,_,_,rfl,S _ _ hx,S _ _ ha,S _ _ hb,fun H3 tk tg B3 f1 f2 e1 e2 e3=>k H3 tk tg (fun c o z n=>B3 c o (S _ _ z) n) (S.free f1) (S.free f2) e1 e2 e3⟩
def Cp.of (c:Cp)(lv:Int):Addr:=if lv=0 then c.cL else c.cI
theorem Cp.of_is (c:Cp)(lv:Int):c.is (c.of lv):=by
 unfold Cp.of;by_cases h:lv=0
 ·rw[aH h];exact .inl rfl
 ·rw[aA h];exact .inr rfl
def Pg (c:Cp)(H:Hp)(x:Addr)(lv:Int)(ks gs:List Int):Prop:=∃dx tk tg,H x=some (.ins (c.of lv) dx (PgF tk tg))/\H tk=some (.tup (ks.map V.int))/\H tg=some (.tup (gs.map V.int))
theorem Pg.same {c:Cp}{x}(h:Pg c H x lv ks gs)(S:aQ H H'):Pg c H' x lv ks gs:=let⟨dx,tk,tg,a,b,d⟩:=h;⟨dx,tk,tg,S _ _ a,S _ _ b,S _ _ d⟩
inductive spGs (c:Cp)(vs:List V)(H:Hp)(Q:VK)(E:XK):Prop
 | mk (x:Addr)(lv:Int)(ks gs:List Int):vs=[.ref x]->Pg c H x lv ks gs->(∀l,H l=none->Q (.ref l) (upd H l (.lst (gs.map V.int))))->spGs c vs H Q E
theorem Az:FnScope ["self"] ["self"] (bA (bU (top 50) 2)):=by walk_at "s"
theorem A0 {c:Cp}(hf:Fun K "goods" "Page.goods" (bU (top 50) 2) fK fd)(T:Txt K mg)(hc:∀C,c.is C->Cls K C/\cC K C "good_row"):iX P w K mg base CX0 1 fK fd ["self"] (spGs c):=by
 refine hf.ok Az (fun vs H Q E h=>?_) (fun cdv A outer s H vs Q E hr h=>?_)
 ·obtain⟨_,_,_,_,rfl,_⟩:=h;rfl
 ·obtain⟨x,lv,ks,gs,rfl,⟨dx,tk,tg,h1,h2,h3⟩,k⟩:=h;obtain⟨c1,c2⟩:=hc _ (c.of_is lv);refine⟨_,(ao (bc (cF cM rfl T.n_list dX (pa1 (bu (pv 0) rfl))))),?_⟩;walk;exact⟨tg,_,rfl,.inr (SqT.of h3),k⟩
theorem bg (F:Fx P w K mg base c):∃f fd,(∀C,c.pg.is C->Cls K C/\Meth K C "goods" f)/\iX P w K mg base CX0 1 f fd ["self"] (spGs c.pg)/\eJ K fd ["self"] []:=by
 obtain⟨f,fd,m,n,b⟩:=F.BG;obtain⟨_,_,XL⟩:=F.LX;obtain⟨_,_,XI⟩:=F.IX;exact⟨f,fd,m,A0 n F.r.T fun C z=>by rcases z with rfl|rfl<;>first|exact⟨XL.ins.cl,XL.n2⟩|exact⟨XI.ins.cl,XI.n2⟩,b⟩
end
theorem iA:FnScope ["self"] ["self"] (bA (bU (top 54) 0)):=by walk_at "s"
inductive spInit (C:Addr)(vs:List V)(H:Hp)(Q:VK)(E:XK):Prop
 | mk x dx:vs=[.ref x]->H x=some (.ins C dx [])->(∀du dk df dc H',H du=none->H dk=none->H df=none->H dc=none->IsR C x dx du dk df dc H' ⟨0,[],[],[],[]⟩->gB [x] H H'->Q .non H')->spInit C vs H Q E
theorem sJ (R:RdN K mg C f fd)(T:Txt K mg):iX P w K mg base CX0 1 f fd ["self"] (spInit C):=by
 refine R.fn.ok iA (fun vs H Q E h=>?_) (fun cdv A outer s H vs Q E hr h=>?_)
 ·obtain⟨_,_,rfl,_⟩:=h;rfl
 ·obtain⟨x,dx,rfl,hx,q⟩:=h
  refine⟨_,(ad (cQ (pv 0) fO rfl)
  (ad (cQ (pv 0) fO rfl)
  (ad (cQ (pv 0) fO rfl)
  (ad (cQ (pv 0) fO rfl)
  (ao (cQ (pv 0) ap rfl)))))),?_⟩
  have one:∀{H1:Hp} {d:Addr} {fs fs':List (Str×V)},gB [x] H H1->H1 x=some (.ins C dx fs)->H1 d=none->H d=none/\d≠x/\gB [x] H (upd (upd H1 d (.dK [])) x (.ins C dx fs'))/\upd (upd H1 d (.dK [])) x (.ins C dx fs') x=some (.ins C dx fs')/\upd (upd H1 d (.dK [])) x (.ins C dx fs') d=some (.dK [])/\(∀b,b≠x->b≠d->upd (upd H1 d (.dK [])) x (.ins C dx fs') b=H1 b):=fun {H1 d fs fs'} k hx1 f1=>by
   have n1:=(ah hx1 f1).symm;exact⟨k.free f1 (by simp[n1]),n1,(k.updN f1).upd (by simp),ae,by rw[ak n1,ae],fun b h1 h2=>by rw[ak h1,ak h2]⟩
  intro d1 f1;refine⟨_,rfl,x,C,dx,_,rfl,(by rw[ak (ah hx f1)];exact hx),R.cl,R.n1,by decide,?_⟩;obtain⟨z1,n1,k1,x1,e1,o1⟩:=one (fs':=gW "in_use" (.ref d1) []) gB.refl hx f1;generalize upd (upd H d1 (.dK [])) x _=H1 at *;intro d2 f2;have m21:=ah e1 f2;refine⟨_,rfl,x,C,dx,_,rfl,(by rw[ak (ah x1 f2)];exact x1),R.cl,R.n2,(by show 1<1000;decide),?_⟩
  obtain⟨z2,n2,k2,x2,e2,o2⟩:=one (fs':=gW "kept_laps" (.ref d2) (gW "in_use" (.ref d1) [])) k1 x1 f2;generalize upd (upd H1 d2 (.dK [])) x _=H2 at *;replace e1:=(o2 d1 n1 m21).trans e1;intro d3 f3;have m31:=ah e1 f3;have m32:=ah e2 f3;refine⟨_,rfl,x,C,dx,_,rfl,(by rw[ak (ah x2 f3)];exact x2),R.cl,R.n3,(by show 2<1000;decide),?_⟩
  obtain⟨z3,n3,k3,x3,e3,o3⟩:=one (fs':=gW "free_ones" (.ref d3) (gW "kept_laps" (.ref d2) (gW "in_use" (.ref d1) []))) k2 x2 f3;generalize upd (upd H2 d3 (.dK [])) x _=H3 at *;replace e1:=(o3 d1 n1 m31).trans e1;replace e2:=(o3 d2 n2 m32).trans e2;intro d4 f4;have m41:=ah e1 f4;have m42:=ah e2 f4;have m43:=ah e3 f4
  refine⟨_,rfl,x,C,dx,_,rfl,(by rw[ak (ah x3 f4)];exact x3),R.cl,R.n4,(by show 3<1000;decide),?_⟩;obtain⟨z4,n4,k4,x4,e4,o4⟩:=one (fs':=gW "call_laps" (.ref d4) (gW "free_ones" (.ref d3) (gW "kept_laps" (.ref d2) (gW "in_use" (.ref d1) [])))) k3 x3 f4;generalize upd (upd H3 d4 (.dK [])) x _=H4 at *;replace e1:=(o4 d1 n1 m41).trans e1;replace e2:=(o4 d2 n2 m42).trans e2
  replace e3:=(o4 d3 n3 m43).trans e3;refine⟨_,rfl,x,C,dx,_,rfl,x4,R.cl,R.n5,(by show 4<1000;decide),?_⟩;refine q d1 d2 d3 d4 _ z1 z2 z3 z4 ⟨ae,by rw[ak n1];exact e1,by rw[ak n2];exact e2,by rw[ak n3];exact e3,by rw[ak n4];exact e4,?_⟩ (k4.upd (by simp));simp[m21,m31,m32,m41,m42,m43]
inductive spMany (C:Addr)(vs:List V)(H:Hp)(Q:VK)(E:XK):Prop
 | mk (x dx du dk df dc:Addr)(S:RS):vs=[.ref x]->IsR C x dx du dk df dc H S->Q (.int (S.places.length:Nat)) H->spMany C vs H Q E
theorem wY:Mt F c.R F.r.R_many_places 1 (spMany c.R):=by
 obtain⟨f,fd,R⟩:=F.RX;refine F.r.R_many_places.go R.m fun sc H Q hr h=>?_;obtain⟨x,dx,du,dk,df,dc,S,rfl,r,q⟩:=h;refine⟨_,(ao (bc (bN cH (bN cH (aR iT rfl F.r.T.n_len cS (pa1 (bu (pv 0) rfl))) (aR iT rfl F.r.T.n_len cS (pa1 (bu (pv 0) rfl)))) (aR iT rfl F.r.T.n_len cS (pa1 (bu (pv 0) rfl)))))),?_⟩
 refine⟨_,rfl,x,c.R,dx,_,_,rfl,r.x,R.cl,R.n1,rfl,du,_,rfl,r.u,_,rfl,x,c.R,dx,_,_,rfl,r.x,R.cl,R.n2,rfl,dk,_,rfl,r.k,_,_,rfl,rfl,_,rfl,x,c.R,dx,_,_,rfl,r.x,R.cl,R.n3,rfl,df,_,rfl,r.f,_,_,rfl,rfl,?_⟩;rw[nh,j9,nh]
 have e:((S.places.length:Nat):Int)=(S.us.length:Int)+(S.ks.length:Int)+(S.fs.length:Int):=by
  unfold RS.places;simp
  lia
 rw[e] at q;exact q
inductive spSorted (C:Addr)(fr:Bool)(vs:List V)(H:Hp)(Q:VK)(E:XK):Prop
 | mk (x dx du dk df dc:Addr)(S:RS):vs=[.ref x]->IsR C x dx du dk df dc H S->(if fr then S.fs else S.us).length<64->(∀ns:List Int,ns.Perm (if fr then S.fs else S.us)->ns.Pairwise (· <= ·)->∀l,H l=none->Q (.ref l) (upd H l (.lst (ns.map V.int))))->spSorted C fr vs H Q E
theorem wS:Mt F c.R F.r.R_used 1 (spSorted c.R false):=by
 obtain⟨f,fd,R⟩:=F.RX;refine F.r.R_used.go R.m fun sc H Q hr h=>?_;obtain⟨x,dx,du,dk,df,dc,S,rfl,r,hl,q⟩:=h;exact⟨_,(ao (bc (aR (gY (hr.hd rfl)) rfl F.r.T.n_sorted gQ (pa1 (bu (pv 0) rfl))))),_,rfl,x,c.R,dx,_,_,rfl,r.x,R.cl,R.n1,rfl,du,_,S.us,rfl,.inl r.u,sZ _,hl,q⟩
inductive spIsU (C:Addr)(vs:List V)(H:Hp)(Q:VK)(E:XK):Prop
 | mk (x dx du dk df dc:Addr)(S:RS)(p:Int):vs=[.ref x,.int p]->IsR C x dx du dk df dc H S->S.Ok->Q (.bl (decide (p∈S.us))) H->spIsU C vs H Q E
theorem qd:Mt F c.R F.r.R_is_used 3 (spIsU c.R):=by
 obtain⟨f,fd,R⟩:=F.RX;refine F.r.R_is_used.go R.m fun sc H Q hr h=>?_;obtain⟨x,dx,du,dk,df,dc,S,p,rfl,r,ok,q⟩:=h;refine⟨_,(ao (bc (gf (cc (ij F) hr (pa1 (pv 1))) (eP (eB (sF (dt hr)) (pv 1) (bu (pv 0) rfl) (by with_unfolding_all rfl)))))),?_⟩;refine⟨_,rfl,p,rfl,_,rfl,?_⟩;by_cases h0:0<=p
 ·refine kR (c:=true) (av h0) (gC ⟨_,rfl,_,rfl,x,c.R,dx,_,_,rfl,r.x,R.cl,R.n1,rfl,du,_,rfl,pj.k (k:=Sum.inl p) r.u,?_⟩);rw[qq];exact q
 ·refine kR (c:=false) (aF h0) (fY ?_);have n:p∉S.us:=fun hm=>h0 (ok.rg p (by unfold RS.places;rw[aO];exact bE _ hm)).1;rw[aF n] at q;exact q
inductive spIsK (C:Addr)(vs:List V)(H:Hp)(Q:VK)(E:XK):Prop
 | mk (x dx du dk df dc:Addr)(S:RS)(p:Int):vs=[.ref x,.int p]->IsR C x dx du dk df dc H S->S.Ok->Q (.bl (decide (p∈S.ks.map (·.1)))) H->spIsK C vs H Q E
theorem w9:Mt F c.R F.r.R_is_kept 3 (spIsK c.R):=by
 obtain⟨f,fd,R⟩:=F.RX;refine F.r.R_is_kept.go R.m fun sc H Q hr h=>?_;obtain⟨x,dx,du,dk,df,dc,S,p,rfl,r,ok,q⟩:=h;refine⟨_,(ao (bc (gf (cc (ij F) hr (pa1 (pv 1))) (eP (eB (sF (dt hr)) (pv 1) (bu (pv 0) rfl) (by with_unfolding_all rfl)))))),?_⟩;refine⟨_,rfl,p,rfl,_,rfl,?_⟩;by_cases h0:0<=p
 ·refine kR (c:=true) (av h0) (gC ⟨_,rfl,_,rfl,x,c.R,dx,_,_,rfl,r.x,R.cl,R.n2,rfl,dk,_,rfl,pj.k (k:=Sum.inl p) r.k,?_⟩);rw[qr];exact q
 ·refine kR (c:=false) (aF h0) (fY ?_);have n:p∉S.ks.map (·.1):=fun hm=>h0 (ok.rg p (by unfold RS.places;exact bE _ (aU _ hm))).1;rw[aF n] at q;exact q
inductive spPast (C:Addr)(vs:List V)(H:Hp)(Q:VK)(E:XK):Prop
 | mk (x dx du dk df dc:Addr)(lp l:Int)(cs:List (Int×Int)):vs=[.ref x,.int l]->H x=some (.ins C dx [("in_use",.ref du),("kept_laps",.ref dk),("free_ones",.ref df),("call_laps",.ref dc),("lap_now",.int lp)])->H dc=some (.dK (kL cs))->cs.length<=1000->(∀H',aQ H H'->Q (.bl (iH cs l)) H')->spPast C vs H Q E
theorem wV:Mt F c.R F.r.R_is_past 1 (spPast c.R):=by
 obtain⟨f,fd,R⟩:=F.RX;refine F.r.R_is_past.go R.m fun sc H Q hr h=>?_;obtain⟨x,dx,du,dk,df,dc,lp,l,cs,rfl,hx,hc,few,q⟩:=h;refine'⟨_,(ao (bc (aR (km (hr.hd rfl)) rfl F.r.T.n_all ud (pa1 (wJ (i5 (dE ["lap"] [1]) rfl (sv (bu (pv 0) rfl)) (fun _ _ _ _ _=>PTs.nil) (fun _ _ _ _ _=>(eB i8 (pv 0) (pv 1) (gw _))))))))),?_⟩
 refine x6 (Au (tW (fun R' r=>⟨_,rfl,x,c.R,dx,_,_,rfl,hx,R.cl,R.n4,rfl,r⟩) hc few (fun z=>.bl (decide (l<z))) (fun c _ H2 R' _ r=>⟨_,rfl,_,rfl,_,_,rfl,rfl,r H2 (aQ.refl _)⟩) fun d H2 fl S2 e2=>?_));refine⟨d,cs.map (fun c=>decide (l<c.2)),rfl,by rw[e2,map_map];rfl,?_⟩;have e:(cs.map fun c=>decide (l<c.2)).all id=iH cs l:=by unfold iH;rw[List.all_map];rfl
 rw[e];exact q _ S2
inductive spRel (C:Addr)(vs:List V)(H:Hp)(Q:VK)(E:XK):Prop
 | mk (x dx du dk df dc:Addr)(S:RS):vs=[.ref x]->IsR C x dx du dk df dc H S->S.Ok->S.places.length<=500->S.cs.length<=500->(∀H',IsR C x dx du dk df dc H' S.rel->gB [dk,df] H H'->Q .non H')->spRel C vs H Q E
theorem za:Mt F c.R F.r.R_release 3 (spRel c.R):=by
 obtain⟨f,fd,R⟩:=F.RX;have C_Rounds:=R.cl;refine F.r.R_release.ok (N:=["self","past","place"]) R.m fun sc H Q hr h=>?_;obtain⟨x,dx,du,dk,df,dc,S,rfl,r,ok,few,fewc,q⟩:=h;have big:=bp;have nd:=r.nd;simp only[bJ,bm,mw,or_false,not_or] at nd;obtain⟨⟨n1,n2,n3⟩,⟨n4,n5⟩,n6,_⟩:=nd
 have lk:S.ks.length<=500:=by
  unfold RS.places at few;simp at few
  lia
 have lf:S.fs.length+S.ks.length<=500:=by
  unfold RS.places at few;simp at few
  lia
 refine'⟨_,(ad (wH (jn (i:=1) (dE ["self"] [0]) rfl (pU (bu (pv 0) rfl)) (fun _ _ _ _ _=>(PTs.one (cv (e_ (pv 2) C_Rounds (wV F) hr (pa1 (pv 1)))))) (fun _ _ _ _ _=>(pv 0)) sc.nd rfl rfl))
  (ao (dC PassesOwn.never rfl (dm (pv 1)) (eO sc 2)
   (ad (a_ (iG (bu (pv 0) rfl) (pv 2) ⟨rfl,rfl,rfl,rfl⟩))
  (ao (dH (dt hr) (bu (pv 0) rfl) (pv 2) fh rfl)))))),?_⟩
 refine xZ (At (rj (fun R' z=>⟨_,rfl,x,c.R,dx,_,_,rfl,r.x,R.cl,R.n2,rfl,z⟩) r.k (by lia) (fun k=>iH S.cs k.2) (fun k=>.int k.1) ?hc ?he fun D H1 fD S1 eD=>?_))
 case hc=>
  intro k hk H2 R' kb z;have hx2:=kb _ _ r.x (cJ r.x r.k nofun);refine⟨_,rfl,x,dx,_,rfl,hx2,rfl,_,rfl,?_⟩
  dsimp
  exact⟨x,dx,du,dk,df,dc,S.lap,k.2,S.cs,rfl,hx2,kb _ _ r.c (bM n5),by lia,fun H3 S3=>⟨_,rfl,z H3 S3⟩⟩
 case he=>exact fun k hk _ H2 R' kb z=>⟨_,rfl,z H2 (aQ.refl _)⟩
 have eD':H1 D=some (.lst (S.moved.map V.int)):=by rw[eD];unfold RS.moved;rw[map_map];rfl
 have r1:=r.same S1
 dsimp
 refine⟨_,rfl,D,rfl,⟨_,SqL.of eD'⟩,qB (xs:=S.moved.map V.int) (fun i σ H2=>(∃o2,σ=[some (.ref x),some (.ref D),o2])/\IsR c.R x dx du dk df dc H2 { S with ks:=S.ks.filter (fun k=>decide (k.1∉S.moved.take i)),fs:=S.fs++S.moved.take i }/\gB [dk,df] H H2/\H2 D=some (.lst (S.moved.map V.int))) ⟨⟨_,rfl⟩,⟨r1.x,r1.u,?_,?_,r1.c,r1.nd⟩,aQ.keep S1,eD'⟩ (fun i σ H2 _ ⟨_,_,_,e⟩=>SqL.of e) ?_ ?_⟩
 ·rw[take_zero,filter_eq_self.mpr (fun k _=>av (by simp))];exact r1.k
 ·rw[take_zero,b_];exact r1.f
 ·rintro i v σ H2 hi ⟨⟨o2,rfl⟩,r2,k2,e2⟩;rw[aB] at hi;obtain⟨m,hm,rfl⟩:=bt.mp hi;have mk:=S.moved_sub (aK hm);have nt:=qf ok.mvn hm
  have mi:m∈(S.ks.filter fun k=>decide (k.1∉S.moved.take i)).map (·.1):=by
   obtain⟨k,hk,rfl⟩:=bC.mp mk;exact bC.mpr ⟨k,bZ.mpr ⟨hk,av nt⟩,rfl⟩
  obtain⟨v,ev⟩:=xq mi;refine⟨_,rfl,x,c.R,dx,_,_,rfl,r2.x,R.cl,R.n2,rfl,dk,rfl,.inl ⟨_,.inl r2.k⟩,_,rfl,_,Sum.inl m,v,r2.k,rfl,ev,?_⟩;rw[xu,oS hm];have nxf:=cJ r2.x r2.f nofun
  have hf3:upd H2 dk (.dK (kL (S.ks.filter fun k=>decide (k.1∉S.moved.take (i+1))))) df=some (.dK (kT (S.fs++S.moved.take i))):=by rw[ak (bM n4)];exact r2.f
  have hx3:upd H2 dk (.dK (kL (S.ks.filter fun k=>decide (k.1∉S.moved.take (i+1))))) x=some (.ins c.R dx [("in_use",.ref du),("kept_laps",.ref dk),("free_ones",.ref df),("call_laps",.ref dc),("lap_now",.int S.lap)]):=by rw[ak (cJ r2.x r2.k nofun)];exact r2.x
  have ml:S.moved.length<=S.ks.length:=by unfold RS.moved;rw[af];exact bF _ _
  refine⟨_,rfl,x,c.R,dx,_,_,rfl,hx3,R.cl,R.n3,rfl,_,rfl,df,_,rfl,rD.k (k:=Sum.inl m) hf3 (by rw[nh,am,bo];lia),?_⟩
  have nf:m∉S.fs++S.moved.take i:=fun z=>by
   rcases aT.mp z with z|z
   ·exact ok.kf mk z
   ·exact nt z
  rw[sY nf];have ta:S.fs++S.moved.take i++[m]=S.fs++S.moved.take (i+1):=by rw[aO,take_add_one,hm];rfl
  rw[ta];refine⟨⟨_,rfl⟩,⟨by rw[ak nxf];exact hx3,by rw[ak n2,ak n1];exact r2.u,by rw[ak n4,ae],ae,by rw[ak (bM n6),ak (bM n5)];exact r2.c,r2.nd⟩,(k2.upd (by simp)).upd (by simp),by rw[ak ((ah r.f fD).symm),ak ((ah r.k fD).symm)];exact e2⟩
 ·rintro σ H2 ⟨⟨o2,rfl⟩,r2,k2,e2⟩;refine q H2 ?_ k2;rw[af,take_length,ok.stay] at r2;exact r2
inductive spGiven (C:Addr)(vs:List V)(H:Hp)(Q:VK)(E:XK):Prop
 | mk (x dx du dk df dc:Addr)(S:RS):vs=[.ref x]->IsR C x dx du dk df dc H S->S.Ok->S.places.length<=500->(∀(p:Int) H',(S.fs=[]/\p=(S.places.length:Nat)\/p∈S.fs/\∀n∈S.fs,p<=n)->IsR C x dx du dk df dc H' (S.take p)->gB [du,df] H H'->Q (.int p) H')->spGiven C vs H Q E
theorem uU:Mt F c.R F.r.R_given 3 (spGiven c.R):=by
 obtain⟨f,fd,R⟩:=F.RX;have C_Rounds:=R.cl;refine F.r.R_given.go R.m fun sc H Q hr h=>?_;obtain⟨x,dx,du,dk,df,dc,S,rfl,r,ok,few,q⟩:=h;have big:=bp;have nd:=r.nd;simp only[bJ,bm,mw,or_false,not_or] at nd;obtain⟨⟨n1,n2,n3⟩,⟨n4,n5⟩,n6,_⟩:=nd
 have lu:S.us.length<=500:=by
  unfold RS.places at few;simp at few
  lia
 refine'⟨_,(ad (cD sc 1 (qP (pv 0) C_Rounds (wY F) hr))
  (ad (bT (pQ (bu (pv 0) rfl) (fun _=>rfl))
   (ad (cD sc 1 (aR (tY (hr.hd rfl)) rfl F.r.T.n_min nQ (pa1 (bu (pv 0) rfl))))
  (ao (a_ (iG (bu (pv 0) rfl) (pv 1) ⟨rfl,rfl,rfl,rfl⟩))))
   bd)
  (ad (dH (dt hr) (bu (pv 0) rfl) (pv 1) fh rfl)
  (ao (bc (pv 1)))))),?_⟩
 refine⟨_,rfl,x,dx,_,rfl,r.x,rfl,x,dx,du,dk,df,dc,S,rfl,r,?_⟩
 dsimp
 refine BA (fun σ H1=>∃p:Int,σ=[some (.ref x),some (.int p)]/\(S.fs=[]/\p=(S.places.length:Nat)\/p∈S.fs/\∀n∈S.fs,p<=n)/\IsR c.R x dx du dk df dc H1 { S with fs:=S.fs.filter fun n=>decide (n≠p) }/\gB [du,df] H H1) ?s1 ?r1
 case s1=>
  intro N z;refine⟨_,rfl,x,c.R,dx,_,_,rfl,r.x,R.cl,R.n3,rfl,_,.inr (.inr ⟨_,r.f,rfl⟩),?_⟩;by_cases he:S.fs=[]
  ·refine kR (c:=false) (by rw[he];rfl) (fY (z _ _ ⟨_,rfl,.inl ⟨he,rfl⟩,?_,gB.refl⟩));have e2:(S.fs.filter fun n=>decide (n≠((S.places.length:Nat):Int)))=S.fs:=by rw[he];rfl
   rw[e2];exact r
  ·refine kR (c:=true) ?_ (gC ?_)
   ·cases hc:S.fs with
    | nil=>exact aY hc he
    | cons a as=>rfl
   refine⟨_,rfl,x,c.R,dx,_,_,rfl,r.x,R.cl,R.n3,rfl,df,_,S.fs,rfl,.inl r.f,sZ _,he,fun m hm mn=>?_⟩
   dsimp
   obtain⟨v,ev⟩:=oO hm;refine⟨_,rfl,x,c.R,dx,_,_,rfl,r.x,R.cl,R.n3,rfl,df,rfl,.inl ⟨_,.inl r.f⟩,_,rfl,_,Sum.inl m,v,r.f,rfl,ev,?_⟩;rw[oP];exact z _ _ ⟨m,rfl,.inr ⟨hm,mn⟩,⟨by rw[ak (cJ r.x r.f (fun z=>nomatch z))];exact r.x,by rw[ak n2];exact r.u,by rw[ak n4];exact r.k,ae,by rw[ak (bM n6)];exact r.c,r.nd⟩,gB.refl.upd (by simp)⟩
 case r1=>
 rintro _ H1 ⟨p,rfl,hp,r1,k1⟩
 have np:p∉S.us:=fun hu=>by
  rcases hp with⟨_,rfl⟩|⟨h1,_⟩
  ·have:=(ok.rg _ (by unfold RS.places;rw[aO];exact bE _ hu)).2
   lia
  ·exact ok.uf hu h1
 refine⟨_,rfl,x,c.R,dx,_,_,rfl,r1.x,R.cl,R.n1,rfl,_,rfl,du,_,rfl,rD.k (k:=Sum.inl p) r1.u (by rw[nh];show S.us.length<_;lia),?_⟩
 refine⟨_,rfl,q p _ hp ⟨by rw[ak (cJ r.x r.u (fun z=>nomatch z))];exact r1.x,by rw[ae];exact bq (fun z=>some (HO.dK z)) (sY np),by rw[ak (bM n1)];exact r1.k,by rw[ak (bM n2)];exact r1.f,by rw[ak (bM n3)];exact r1.c,r1.nd⟩ (k1.upd (by simp))⟩
theorem RS.gone_len (o:S.Ok){p:Int}(h:p∈S.us):(S.gone p).places.length=S.places.length:=(RS.gone_perm o h).length_eq
inductive spWent (C:Addr)(vs:List V)(H:Hp)(Q:VK)(E:XK):Prop
 | mk (x dx du dk df dc:Addr)(S:RS)(p:Int):vs=[.ref x,.int p]->IsR C x dx du dk df dc H S->S.Ok->S.places.length<=500->S.cs.length<=500->p∈S.us->(∀H',IsR C x dx du dk df dc H' (S.gone p).rel->gB [x,du,dk,df] H H'->Q .non H')->spWent C vs H Q E
theorem wR:Mt F c.R F.r.R_went 5 (spWent c.R):=by
 obtain⟨f,fd,R⟩:=F.RX;have C_Rounds:=R.cl;refine F.r.R_went.go R.m fun sc H Q hr h=>?_;obtain⟨x,dx,du,dk,df,dc,S,p,rfl,r,ok,few,fewc,hp,q1⟩:=h;have big:=bp;have nd:=r.nd;simp only[bJ,bm,mw,or_false,not_or] at nd;obtain⟨⟨n1,n2,n3⟩,⟨n4,n5⟩,n6,_⟩:=nd
 have lk:S.ks.length<=500:=by
  unfold RS.places at few;simp only[am,af] at few
  lia
 refine'⟨_,(ad (bT (cO (cv (e_ (pv 0) C_Rounds (qd F) hr (pa1 (pv 1)))))
   (ao bQ)
   bd)
  (ad (a_ (iG (bu (pv 0) rfl) (pv 1) ⟨rfl,rfl,rfl,rfl⟩))
  (ad (dH (dt hr) (bu (pv 0) rfl) (pv 1) (bu (pv 0) rfl) rfl)
  (ad (sf (pv 0) ap tG)
  (ao (a_ (qP (pv 0) C_Rounds (za F) hr))))))),?_⟩
 refine⟨_,rfl,x,dx,_,rfl,r.x,rfl,_,rfl,?_⟩;dsimp only[pC,b_];refine⟨x,dx,du,dk,df,dc,S,p,rfl,r,ok,_,rfl,?_⟩
 ·rw[av hp];refine fY ?_;obtain⟨v,ev⟩:=oO hp;refine⟨_,rfl,x,c.R,dx,_,_,rfl,r.x,R.cl,R.n1,rfl,du,rfl,.inl ⟨_,.inl r.u⟩,_,rfl,_,Sum.inl p,v,r.u,rfl,ev,?_⟩;rw[oP];have nxu:=cJ r.x r.u (fun z=>nomatch z);have nxk:=cJ r.x r.k (fun z=>nomatch z);have hu1:=ae (H:=H) (a:=du) (o:=.dK (kT (S.us.filter fun n=>decide (n≠p))));generalize hG:upd H du _=H1 at *
  have hx1:H1 x=some (.ins c.R dx [("in_use",.ref du),("kept_laps",.ref dk),("free_ones",.ref df),("call_laps",.ref dc),("lap_now",.int S.lap)]):=by rw[<- hG,ak nxu];exact r.x
  have hk1:H1 dk=some (.dK (kL S.ks)):=by rw[<- hG,ak (bM n1)];exact r.k
  have hf1:H1 df=some (.dK (kT S.fs)):=by rw[<- hG,ak (bM n2)];exact r.f
  have hc1:H1 dc=some (.dK (kL S.cs)):=by rw[<- hG,ak (bM n3)];exact r.c
  have k1:gB [x,du,dk,df] H H1:=hG▸gB.refl.upd (by simp);refine⟨_,rfl,x,c.R,dx,_,_,rfl,hx1,R.cl,R.n5,rfl,_,rfl,x,c.R,dx,_,_,rfl,hx1,R.cl,R.n2,rfl,_,rfl,dk,_,rfl,rD.k (k:=Sum.inl p) hk1 (by rw[j9];lia),?_⟩;rw[vR (ok.uk hp)];have hk2:=ae (H:=H1) (a:=dk) (o:=.dK (kL (S.ks++[(p,S.lap)])));generalize hG:upd H1 dk _=H2 at *
  have hx2:H2 x=some (.ins c.R dx [("in_use",.ref du),("kept_laps",.ref dk),("free_ones",.ref df),("call_laps",.ref dc),("lap_now",.int S.lap)]):=by rw[<- hG,ak nxk];exact hx1
  have hu2:H2 du=some (.dK (kT (S.us.filter fun n=>decide (n≠p)))):=by rw[<- hG,ak n1];exact hu1
  have hf2:H2 df=some (.dK (kT S.fs)):=by rw[<- hG,ak (bM n4)];exact hf1
  have hc2:H2 dc=some (.dK (kL S.cs)):=by rw[<- hG,ak (bM n5)];exact hc1
  have k2:gB [x,du,dk,df] H H2:=hG▸k1.upd (by simp);refine⟨_,rfl,x,c.R,dx,_,_,rfl,hx2,R.cl,R.n5,rfl,_,_,rfl,rfl,dx,_,hx2,(by show 5<1000;decide),?_⟩;have nfx:=(cJ hx2 hf2 (fun z=>nomatch z)).symm;have ncx:=(cJ hx2 hc2 (fun z=>nomatch z)).symm
  have r3:IsR c.R x dx du dk df dc (upd H2 x (.ins c.R dx (gW "lap_now" (.int (S.lap+1)) [("in_use",.ref du),("kept_laps",.ref dk),("free_ones",.ref df),("call_laps",.ref dc),("lap_now",.int S.lap)]))) (S.gone p):=
   ⟨ae,by rw[ak (bM nxu)];exact hu2,by rw[ak (bM nxk)];exact hk2,by rw[ak nfx];exact hf2,by rw[ak ncx];exact hc2,r.nd⟩
  generalize hG:upd H2 x _=H3 at *;have k3:gB [x,du,dk,df] H H3:=hG▸k2.upd (by simp);exact⟨_,rfl,x,dx,_,rfl,r3.x,rfl,x,dx,du,dk,df,dc,S.gone p,rfl,r3,ok.gone hp,by rw[RS.gone_len ok hp];exact few,fewc,fun H4 r4 k4=>q1 H4 r4 (k3.trans (k4.mono (by simp)))⟩
inductive spEnter (C:Addr)(vs:List V)(H:Hp)(Q:VK)(E:XK):Prop
 | mk (x dx du dk df dc:Addr)(S:RS)(n:Int):vs=[.ref x,.int n]->IsR C x dx du dk df dc H S->S.cs.length<=500->0<=n->n<=1000000->n∉S.cs.map (·.1)->(∀H',IsR C x dx du dk df dc H' (S.come n)->gB [dc] H H'->Q .non H')->spEnter C vs H Q E
theorem uV:Mt F c.R F.r.R_enter 6 (spEnter c.R):=by
 obtain⟨f,fd,R⟩:=F.RX;refine F.r.R_enter.go R.m fun sc H Q hr h=>?_;obtain⟨x,dx,du,dk,df,dc,S,n,rfl,r,few,b1,b2,hm,q⟩:=h;have big:=bp;have nd:=r.nd;simp only[bJ,bm,mw,or_false,not_or] at nd;obtain⟨⟨n1,n2,n3⟩,⟨n4,n5⟩,n6,_⟩:=nd
 refine'⟨_,(ad (bT (cO (cv (cc (kM F) hr (pa1 (pv 1)))))
   (ao bQ)
   bd)
  (ad (bT (dF (sF (dt hr)) (pv 1) (bu (pv 0) rfl) (by with_unfolding_all rfl))
   (ao bQ)
   bd)
  (ao (dH (dt hr) (bu (pv 0) rfl) (pv 1) (bu (pv 0) rfl) rfl)))),?_⟩
 refine⟨_,rfl,n,rfl,_,rfl,?_⟩;rw[kA b1 b2];refine fY ⟨_,rfl,_,rfl,x,c.R,dx,_,_,rfl,r.x,R.cl,R.n4,rfl,dc,_,rfl,pj.k (k:=Sum.inl n) r.c,_,rfl,?_⟩;rw[qr,aF hm];refine fY ⟨_,rfl,x,c.R,dx,_,_,rfl,r.x,R.cl,R.n5,rfl,_,rfl,x,c.R,dx,_,_,rfl,r.x,R.cl,R.n4,rfl,_,rfl,dc,_,rfl,rD.k (k:=Sum.inl n) r.c (by rw[j9];lia),?_⟩;rw[vR hm]
 exact q _ ⟨by rw[ak (cJ r.x r.c (fun z=>nomatch z))];exact r.x,by rw[ak n3];exact r.u,by rw[ak n5];exact r.k,by rw[ak n6];exact r.f,ae,r.nd⟩ (gB.refl.upd (by simp))
structure ND where
 lv:Int
 ks:List Int
 gs:List Int
 hi:Option Int
 rt:Option Int
 ho:Option Int
 wr:Bool
variable {n':K31.ND}{os:List (Option K31.ND)}
structure MS where
 most:Int
 top:Option Int
 nd:Int->Option ND
 R:RS
 b:Nat
def nF (lv:Int)(pg:Addr)(hi rt ho:Option Int)(wr:Bool):List (Str×V):=[("level",.int lv),("bears",.ref pg),("high",oV hi),("right",oV rt),("holder",oV ho),("written",.bl wr)]
def tF (most:Int)(r dn dv:Addr)(top:Option Int):List (Str×V):=("most_keys",.int most)::("own_rounds",.ref r)::("nodes",.ref dn)::("versions",.ref dv)::(match top with|some p=>[("top_place",.int p)]|none=>[])
theorem Ay {r dn dv}{top:Option Int}{m}(h:(["most_keys","own_rounds","nodes","versions","top_place"]:List Str).contains m=false):(tF most r dn dv top).lookup m=none:=by
 simp only[List.contains_cons,List.contains_nil,Bool.or_false,Bool.or_eq_false_iff] at h;obtain⟨h1,h2,h3,h4,h5⟩:=h;cases top<;>simp[tF,List.lookup,h1,h2,h3,h4,h5]
structure TA where
 dx:Addr
 r:Addr
 dr:Addr
 du:Addr
 dk:Addr
 df:Addr
 dc:Addr
 dn:Addr
 dv:Addr
 kn:List (Key×V)
 kv:List (Key×V)
variable {a':K31.TA}
def IsN (c:Cs)(h:Hp)(p:Addr)(n:ND):Prop:=∃dp pg,h p=some (.ins c.N dp (nF n.lv pg n.hi n.rt n.ho n.wr))/\Pg c.pg h pg n.lv n.ks n.gs
structure IsT (c:Cs)(a:TA)(h:Hp)(z:Addr)(M:MS):Prop where
 x:h z=some (.ins c.T a.dx (tF M.most a.r a.dn a.dv M.top))
 r:IsR c.R a.r a.dr a.du a.dk a.df a.dc h M.R
 n:h a.dn=some (.dK a.kn)
 v:h a.dv=some (.dK a.kv)
 l:a.kn.length<=M.b/\a.kv.length<=M.b
 e:∀p n,M.nd p=some n->∃q,cf a.kn (Sum.inl p)=some (.ref q)/\IsN c h q n
 ve:∀p n,M.nd p=some n->∃i:Int,cf a.kv (Sum.inl p)=some (.int i)
 d:a.dn∉[a.du,a.dk,a.df,a.dc]/\a.dv∉[a.du,a.dk,a.df,a.dc]/\a.dn≠a.dv
 xr:z≠a.r
def MS.put (M:MS)(p:Int)(n:ND):MS:={ M with nd:=fun q=>if q=p then some n else M.nd q,b:=M.b+1 }
section
variable {a:TA}{x:Addr}{M:MS}
theorem IsN.same {n:ND}(i:IsN c h p n)(S:aQ h h'):IsN c h' p n:=let⟨dp,pg,e,g⟩:=i;⟨dp,pg,S _ _ e,g.same S⟩
theorem IsT.nodes (t:IsT c a h x M)(k:∀q n,IsN c h q n->IsN c h1 q n):∀p n,M.nd p=some n->∃q,cf a.kn (Sum.inl p)=some (.ref q)/\IsN c h1 q n:=fun p n e=>let⟨q,e1,i⟩:=t.e p n e;⟨q,e1,k q n i⟩
theorem IsT.same (t:IsT c a h x M)(S:aQ h h'):IsT c a h' x M:=⟨S _ _ t.x,t.r.same S,S _ _ t.n,S _ _ t.v,t.l,t.nodes fun _ _ i=>i.same S,t.ve,t.d,t.xr⟩
theorem IsN.dict {n:ND}{k k'}(i:IsN c h p n)(e:h d=some (.dK k)):IsN c (upd h d (.dK k')) p n:=by
 obtain⟨dp,pg,e1,dg,tk,tg,e2,e3,e4⟩:=i;exact⟨dp,pg,by rw[ak (cJ e1 e nofun)];exact e1,dg,tk,tg,by rw[ak (cJ e2 e nofun)];exact e2,by rw[ak (cJ e3 e nofun)];exact e3,by rw[ak (cJ e4 e nofun)];exact e4⟩
theorem IsT.rn (t:IsT c a h x M):a.dn∉[a.r,a.du,a.dk,a.df,a.dc]:=fun z=>by
 rcases bm.mp z with e|e
 ·exact cJ t.n t.r.x nofun e
 ·exact t.d.1 e
theorem IsT.rv (t:IsT c a h x M):a.dv∉[a.r,a.du,a.dk,a.df,a.dc]:=fun z=>by
 rcases bm.mp z with e|e
 ·exact cJ t.v t.r.x nofun e
 ·exact t.d.2.1 e
theorem IsT.setN (t:IsT c a h x M){y}{p:Int}(f:h y=none)(i:IsN c (upd h y o) y n')(hv:∃j:Int,cf a.kv (Sum.inl p)=some (.int j)) :
  IsT c { a with kn:=db a.kn (Sum.inl p) (.ref y) } (upd (upd h y o) a.dn (.dK (db a.kn (Sum.inl p) (.ref y)))) x (M.put p n'):=by
 have S:aQ h (upd h y o):=aQ.upd f;have t1:=t.same S;refine⟨?_,t1.r.out t.rn,ae,?_,⟨bh (cZ ..) (succ_le_succ t.l.1),Nat.le_succ_of_le t.l.2⟩,fun q m e=>?_,fun q m e=>?_,t.d,t.xr⟩
 ·rw[ak (cJ t.x t.n nofun)];exact t1.x
 ·rw[ak (bM t.d.2.2)];exact t1.v
 ·have e':(if q=p then some n' else M.nd q)=some m:=e;by_cases c0:q=p
  ·rw[aH c0] at e';cases e';exact⟨y,by rw[c0,cw,aH rfl],i.dict t1.n⟩
  ·rw[aA c0] at e';obtain⟨z,e1,i1⟩:=t1.e q m e';exact⟨z,by rw[cw,aA (fun w=>c0 (Sum.inl.inj w))];exact e1,i1.dict t1.n⟩
 ·have e':(if q=p then some n' else M.nd q)=some m:=e;by_cases c0:q=p
  ·rw[c0];exact hv
  ·rw[aA c0] at e';exact t.ve q m e'
theorem IsT.setV (t:IsT c a h x M)(p v:Int):IsT c { a with kv:=db a.kv (Sum.inl p) (.int v) } (upd h a.dv (.dK (db a.kv (Sum.inl p) (.int v)))) x { M with b:=M.b+1 }:=by
 refine⟨?_,t.r.out t.rv,?_,ae,⟨Nat.le_succ_of_le t.l.1,bh (cZ ..) (succ_le_succ t.l.2)⟩,t.nodes fun _ _ i=>i.dict t.v,fun q m e=>?_,t.d,t.xr⟩
 ·rw[ak (cJ t.x t.v nofun)];exact t.x
 ·rw[ak t.d.2.2];exact t.n
 ·obtain⟨i,e1⟩:=t.ve q m e;by_cases c0:q=p
  ·exact⟨v,by rw[c0,cw,aH rfl]⟩
  ·exact⟨i,by rw[cw,aA (fun w=>c0 (Sum.inl.inj w))];exact e1⟩
theorem IsT.more (t:IsT c a h x M){b':Nat}(l:M.b<=b'):IsT c a h x { M with b:=b' }:=⟨t.x,t.r,t.n,t.v,⟨bh t.l.1 l,bh t.l.2 l⟩,t.e,t.ve,t.d,t.xr⟩
theorem lA {u v}(n:p≠q):upd (upd g p u) q v=upd (upd g q v) p u:=by
 funext b
 by_cases e1:b=q
 ·subst e1;rw[ae,ak n.symm,ae]
 ·rw[ak e1];by_cases e2:b=p
  ·subst e2;rw[ae,ae]
  ·rw[ak e2,ak e2,ak e1]
theorem IsT.addN (t:IsT c a h x M){y}{p:Int}(f:h y=none)(i:IsN c (upd h y o) y n') :
  IsT c { a with kn:=db a.kn (Sum.inl p) (.ref y),kv:=db a.kv (Sum.inl p) (.int 0) } (upd (upd (upd h y o) a.dn (.dK (db a.kn (Sum.inl p) (.ref y)))) a.dv (.dK (db a.kv (Sum.inl p) (.int 0)))) x { (M.put p n') with b:=M.b+2 }:=by
 have nd:=ah t.v f
 have i1:IsN c (upd (upd h a.dv (.dK (db a.kv (Sum.inl p) (.int 0)))) y o) y n':=by
  rw[lA nd];exact i.dict (cm f t.v)
 have t2:=(t.setV p 0).setN (o:=o) (p:=p) (by rw[ak nd.symm];exact f) i1 ⟨0,by show cf (db _ _ _) _=_;rw[cw,aH rfl]⟩;dsimp only at t2;rw[lA nd,lA (bM t.d.2.2)] at t2;exact t2
theorem IsT.setTop (t:IsT c a h x M)(p:Int):IsT c a (upd h x (.ins c.T a.dx (tF M.most a.r a.dn a.dv (some p)))) x { M with top:=some p }:=by
 have nx:∀{b:Addr} {o:HO},h b=some o->(∀C d f,o≠.ins C d f)->b≠x:=fun e n z=>by rw[z,t.x] at e;cases e;exact n _ _ _ rfl
 refine⟨ae,t.r.out ?_,?_,?_,t.l,t.nodes fun p' n i=>?_,t.ve,t.d,t.xr⟩
 ·intro z;simp at z;rcases z with e|e|e|e|e
  ·exact t.xr e
  ·exact nx t.r.u nofun e.symm
  ·exact nx t.r.k nofun e.symm
  ·exact nx t.r.f nofun e.symm
  ·exact nx t.r.c nofun e.symm
 ·rw[ak (nx t.n nofun)];exact t.n
 ·rw[ak (nx t.v nofun)];exact t.v
 ·obtain⟨dp,pg,q1,dg,tk,tg,q2,q3,q4⟩:=i
  have n1:p'≠x:=fun z=>by
   rw[z,t.x] at q1;have:=(HO.ins.inj (aw q1)).2.2;simp[nF,tF] at this;exact aY this.1.1 (by decide)
  have n2:pg≠x:=fun z=>by
   rw[z,t.x] at q2;have:=(HO.ins.inj (aw q2)).2.2;simp[PgF,tF] at this
  exact⟨dp,pg,by rw[ak n1];exact q1,dg,tk,tg,by rw[ak n2];exact q2,by rw[ak (nx q3 nofun)];exact q3,by rw[ak (nx q4 nofun)];exact q4⟩
theorem IsT.setR (t:IsT c a h x M)(s:aQ h H){S':RS}{l}(k:gB l H H')(hl:∀b∈l,b∈[a.r,a.du,a.dk,a.df,a.dc])(r':IsR c.R a.r a.dr a.du a.dk a.df a.dc H' S') :
  IsT c a (rsH h H') x { M with R:=S' }/\Chg h (rsH h H') H H':=by
 have dom:∀b∈[a.r,a.du,a.dk,a.df,a.dc],h b≠none:=fun b hb=>by
  simp at hb;rcases hb with rfl|rfl|rfl|rfl|rfl
  ·rw[t.r.x];exact nofun
  ·rw[t.r.u];exact nofun
  ·rw[t.r.k];exact nofun
  ·rw[t.r.f];exact nofun
  ·rw[t.r.c];exact nofun
 have old:∀{b:Addr} {o:HO},h b=some o->b∉[a.r,a.du,a.dk,a.df,a.dc]->rsH h H' b=some o:=fun {b o} e n=>(oq e).trans (k b o (s _ _ e) fun z=>n (hl b z))
 have nin:∀{b:Addr} {o:HO},h b=some o->(∀C d f,o≠.ins C d f)->(∀q,o≠.dK q)->b∉[a.r,a.du,a.dk,a.df,a.dc]:=fun {b o} e n1 n2 hb=>by
  simp at hb;rcases hb with rfl|rfl|rfl|rfl|rfl
  ·rw[t.r.x] at e;cases e;exact n1 _ _ _ rfl
  ·rw[t.r.u] at e;cases e;exact n2 _ rfl
  ·rw[t.r.k] at e;cases e;exact n2 _ rfl
  ·rw[t.r.f] at e;cases e;exact n2 _ rfl
  ·rw[t.r.c] at e;cases e;exact n2 _ rfl
 have nins:∀{b C d:Addr} {f:List (Str×V)},h b=some (.ins C d f)->b≠a.r->b∉[a.r,a.du,a.dk,a.df,a.dc]:=fun {b C d f} e n hb=>by
  simp at hb;rcases hb with rfl|rfl|rfl|rfl|rfl
  ·exact n rfl
  ·rw[t.r.u] at e;cases e
  ·rw[t.r.k] at e;cases e
  ·rw[t.r.f] at e;cases e
  ·rw[t.r.c] at e;cases e
 refine⟨⟨old t.x (nins t.x t.xr),⟨(oq t.r.x).trans r'.x,(oq t.r.u).trans r'.u,(oq t.r.k).trans r'.k,(oq t.r.f).trans r'.f,(oq t.r.c).trans r'.c,r'.nd⟩,old t.n t.rn,old t.v t.rv,t.l,t.nodes fun p n i=>?_,t.ve,t.d,t.xr⟩,(Chg.rs (xE k fun b hb=>dom b (hl b hb)))⟩;obtain⟨dp,pg,q1,dg,tk,tg,q2,q3,q4⟩:=i
 have n1:p≠a.r:=fun z=>by
  rw[z,t.r.x] at q1;have:=(HO.ins.inj (aw q1)).2.2;simp[nF] at this
 have n2:pg≠a.r:=fun z=>by
  rw[z,t.r.x] at q2;have:=(HO.ins.inj (aw q2)).2.2;simp[PgF] at this
 exact⟨dp,pg,old q1 (nins q1 n1),dg,tk,tg,old q2 (nins q2 n2),old q3 (nin q3 nofun nofun),old q4 (nin q4 nofun nofun)⟩
theorem IsT.put (t:IsT c a h x M)(s:aQ h H){y}{p:Int}(S1:aQ H H1)(f:H y=none)(e:H1 y=some o)(i:IsN c (upd h y o) y n')(hv:∃j:Int,cf a.kv (Sum.inl p)=some (.int j)) :
  IsT c { a with kn:=db a.kn (Sum.inl p) (.ref y) } (upd (upd h y o) a.dn (.dK (db a.kn (Sum.inl p) (.ref y)))) x (M.put p n')/\Chg h (upd (upd h y o) a.dn (.dK (db a.kn (Sum.inl p) (.ref y)))) H (upd H1 a.dn (.dK (db a.kn (Sum.inl p) (.ref y)))):=by
 have c1:Chg h (upd h y o) H H1:=.addS s S1 f e;exact⟨t.setN (s.free f) i hv,c1.trans (.mut c1.sm (cm (s.free f) t.n))⟩
theorem IsT.putV (t:IsT c a h x M)(s:aQ h H)(p v:Int) :
  IsT c { a with kv:=db a.kv (Sum.inl p) (.int v) } (upd h a.dv (.dK (db a.kv (Sum.inl p) (.int v)))) x { M with b:=M.b+1 }/\Chg h (upd h a.dv (.dK (db a.kv (Sum.inl p) (.int v)))) H (upd H a.dv (.dK (db a.kv (Sum.inl p) (.int v)))):=⟨t.setV p v,.mut s t.v⟩
theorem Pg.rs {l}(i:Pg cp h pg lv ks gs)(s:aQ h H)(k:gB l H H')(hl:∀b∈l,∃q,h b=some (.dK q)):Pg cp (rsH h H') pg lv ks gs:=by
 obtain⟨dx,tk,tg,e1,e2,e3⟩:=i
 have old:∀{b:Addr} {o:HO},h b=some o->(∀q,o≠.dK q)->rsH h H' b=some o:=fun {b o} e n=>(oq e).trans (k b o (s _ _ e) fun z=>by
  obtain⟨q,hq⟩:=hl b z;rw[hq] at e;cases e
  exact n _ rfl)
 exact⟨dx,tk,tg,old e1 nofun,old e2 nofun,old e3 nofun⟩
theorem Pg.add (cg:Chg h h1 H H')(f1:H pg=none)(f2:H tk=none)(f3:H tg=none)(e1:H' pg=some (.ins (cp.of lv) dx (PgF tk tg)))(e2:H' tk=some (.tup (ks.map V.int)))(e3:H' tg=some (.tup (gs.map V.int))) :
  ∃h2,Chg h h2 H H'/\Pg cp h2 pg lv ks gs/\∀b o,h1 b=some o->h2 b=some o:=by
 refine⟨_,((cg.ext f1 e1).ext f2 e2).ext f3 e3,⟨dx,tk,tg,?_,?_,ae⟩,fun b o z=>?_⟩
 ·rw[ak (cJ e1 e3 nofun),ak (cJ e1 e2 nofun),ae]
 ·by_cases q:tk=tg
  ·rw[q,ae];rw[q,e3] at e2;exact e2
  ·rw[ak q,ae]
 ·have z':=cg.sm _ _ z
  have go:∀{g:Hp} {y:Addr} {u:HO},g b=some o->H' y=some u->upd g y u b=some o:=fun {g y u} q1 q2=>by
   by_cases d:b=y
   ·rw[d,ae];rw[d,q2] at z';exact z'
   ·rw[ak d];exact q1
  exact go (go (go z e1) e2) e3
end
variable {f:Int->Option K31.ND}{M:K31.MS}{a:K31.TA}
local macro_rules | `(tactic| walk_at "tf") => `(tactic| exact Ay rfl)
theorem jA:FnScope ["self","level","bears","high","right"] ["self","level","bears","high","right"] (bA (bU (top 62) 0)):=by walk_at "s"
inductive spNode (C:Addr)(vs:List V)(H:Hp)(Q:VK)(E:XK):Prop
 | mk (x dx pg:Addr)(lv:Int)(hi rt:Option Int):vs=[.ref x,.int lv,.ref pg,oV hi,oV rt]->H x=some (.ins C dx [])->(∀H',H' x=some (.ins C dx (nF lv pg hi rt none false))->But x H H'->Q .non H')->spNode C vs H Q E
theorem lP {f}(R:NdN K mg C f fd)(T:Txt K mg):iX P w K mg base CX0 1 f fd ["self","level","bears","high","right"] (spNode C):=by
 refine R.fn.ok jA (fun vs H Q E h=>?_) (fun cdv A outer s H vs Q E hr h=>?_)
 ·obtain⟨_,_,_,_,_,_,rfl,_⟩:=h;rfl
 ·obtain⟨x,dx,pg,lv,hi,rt,rfl,hx,q⟩:=h;obtain⟨_,_,_,_,cl,n1,n2,n3,n4,n5,n6⟩:=R
  refine'⟨_,(ad (cQ (pv 0) (pv 1) rfl)
  (ad (cQ (pv 0) (pv 2) rfl)
  (ad (cQ (pv 0) (pv 3) rfl)
  (ad (cQ (pv 0) (pv 4) rfl)
  (ad (cQ (pv 0) bV rfl)
  (ao (cQ (pv 0) fh rfl))))))),?_⟩
  walk;refine q _ ae (fun b o z n=>?_);rw[ak n,ak n,ak n,ak n,ak n,ak n];exact z
inductive spHeld (C:Addr)(vs:List V)(H:Hp)(Q:VK)(E:XK):Prop
 | mk (x dx pg:Addr)(lv:Int)(hi rt ho ho':Option Int)(wr wr':Bool):vs=[.ref x,oV ho',.bl wr']->H x=some (.ins C dx (nF lv pg hi rt ho wr))->(∀y dy H',H y=none->aQ H H'->H' y=some (.ins C dy (nF lv pg hi rt ho' wr'))->Q (.ref y) H')->spHeld C vs H Q E
theorem lS:Mt F c.N F.r.N_held_by 3 (spHeld c.N):=by
 obtain⟨f,fd,XNode⟩:=F.NX;have GNode:iX P w K mg base CX0 1 f fd ["self","level","bears","high","right"] (spNode c.N):=lP XNode F.r.T;refine F.r.N_held_by.go XNode.m fun sc H Q hr h=>?_;obtain⟨x,dx,pg,lv,hi,rt,ho,ho',wr,wr',rfl,hx,q⟩:=h;have X:=XNode;obtain⟨_,_,_,_,cl,n1,n2,n3,n4,n5,n6⟩:=X
 refine'⟨_,(ad (cD sc 3 (d_ XNode.mak GNode (hr.mono (by decide)) rfl XNode.m XNode.bi .nil fH (pa4 (bu (pv 0) rfl) (bu (pv 0) rfl) (bu (pv 0) rfl) (bu (pv 0) rfl))))
  (ad (cQ (pv 3) (pv 1) rfl)
  (ad (cQ (pv 3) (pv 2) rfl)
  (ao (bc (pv 3)))))),?_⟩
 walk;intro y dy fy fdy nd;refine⟨y,dy,pg,lv,hi,rt,rfl,ae,fun H1 e1 k1=>⟨rfl,?_⟩⟩;walk;refine q y dy _ fy (fun b o z=>?_) ae;have ny:=ah z fy;rw[ak ny,ak ny];exact k1 b o (dW fy fdy z) ny
theorem jr:Ok F F.r.d_need_most 4 (fun vs H Q _=>∃i:Int,vs=[.int i]/\(inR 2 5) i=true/\Q .non H):=by
 refine F.r.d_need_most.go fun sc H Q hr h=>?_;obtain⟨i,rfl,hi,k⟩:=h
 refine⟨_,(ao (bT (cO (cv (cc (qU F) hr (pa1 (pv 0)))))
   (ao bQ)
   bd)),?_⟩
 walk;refine⟨i,rfl,?_⟩;rw[hi];walk;exact k
theorem iK:Ok F F.r.d_need_level 4 (fun vs H Q _=>∃i:Int,vs=[.int i]/\(inR 0 60) i=true/\Q .non H):=by
 refine F.r.d_need_level.go fun sc H Q hr h=>?_;obtain⟨i,rfl,hi,k⟩:=h
 refine⟨_,(ao (bT (cO (cv (cc (oE F) hr (pa1 (pv 0)))))
   (ao bQ)
   bd)),?_⟩
 walk;refine⟨i,rfl,?_⟩;rw[hi];walk;exact k
theorem ju:Ok F F.r.d_need_doer 5 (fun vs H Q _=>∃i:Int,vs=[.int i]/\(inR 0 1000000) i=true/\Q .non H):=by
 refine F.r.d_need_doer.go fun sc H Q hr h=>?_;obtain⟨i,rfl,hi,k⟩:=h
 refine⟨_,(ao (bT (cO (cv (cc (kM F) hr (pa1 (pv 0)))))
   (ao bQ)
   bd)),?_⟩
 walk;refine⟨i,rfl,?_⟩;rw[hi];walk;exact k
inductive spNP (c:Cs)(vs:List V)(H:Hp)(Q:VK)(E:XK):Prop
 | mk (lv:Int)(pg:Addr)(ks gs:List Int):vs=[.int lv,.ref pg]->Pg c.pg H pg lv ks gs->Q .non H->spNP c vs H Q E
theorem gK:Ok F F.r.d_need_page 1 (spNP c):=by
 have KF:=F.KF;have MLeaf:=KF.mL;have MInner:=KF.mI;refine F.r.d_need_page.go fun sc H Q hr h=>?_;obtain⟨lv,pg,ks,gs,rfl,⟨dx,tk,tg,h1,h2,h3⟩,k⟩:=h
 refine⟨_,(ad (cD sc 2 (dG (pc fJ (pv 0) ap) (aR kZ rfl F.r.T.n_isinstance cx (pa2 (pv 1) (eA (v:=.ref c.pg.cL) rfl MLeaf rfl))) (aR kZ rfl F.r.T.n_isinstance cx (pa2 (pv 1) (eA (v:=.ref c.pg.cI) rfl MInner rfl)))))
  (ao (bT (cO (cv (pv 2)))
   (ao bQ)
   bd))),?_⟩
 refine BA (fun σ H1=>σ=[some (.int lv),some (.ref pg),some (.bl true)]/\H=H1) ?s1 ?r1
 case s1=>
  intro N z;refine rR ?_;walk;by_cases c0:lv=0
  ·subst c0;rw[av rfl];walk;exact⟨pg,c.pg.cL,c.pg.cL,dx,_,true,rfl,h1,KF.iL,KF.LL,z _ _ ⟨rfl,rfl⟩⟩
  ·rw[aF (fun z=>c0 (V.int.inj z))];walk;have h1':H pg=some (.ins c.pg.cI dx (PgF tk tg)):=by rw[h1];unfold Cp.of;rw[aA c0]
   exact⟨pg,c.pg.cI,c.pg.cI,dx,_,true,rfl,h1',KF.iI,KF.II,z _ _ ⟨rfl,rfl⟩⟩
 case r1=>
  rintro σ H1 ⟨rfl,rfl⟩;walk;exact k
inductive spTop (c:Cs)(vs:List V)(H:Hp)(Q:VK)(E:XK):Prop
 | mk (a:TA)(h:Hp)(x:Addr)(M:MS):vs=[.ref x]->IsT c a h x M->aQ h H->(∃p:Int,M.top=some p/\Q (.int p) H)->spTop c vs H Q E
theorem uW:Mt F c.T F.r.T_top 1 (spTop c):=by
 obtain⟨f,fd,X⟩:=F.TX;refine F.r.T_top.go X.m fun sc H Q hr h=>?_;obtain⟨a,h,x,M,rfl,t,s,p,tp,k⟩:=h;obtain⟨_,_,_,_,cl,n1,n2,n3,n4,n5⟩:=X;have hx:=s _ _ t.x;have hR:=t.r.same s;refine'⟨_,(ao (bc (bu (pv 0) rfl))),?_⟩;rw[tp] at hx;walk;exact k
inductive spPlaces (c:Cs)(vs:List V)(H:Hp)(Q:VK)(E:XK):Prop
 | mk (a:TA)(h:Hp)(x:Addr)(M:MS):vs=[.ref x]->IsT c a h x M->aQ h H->M.R.us.length<64->(∀ns:List Int,ns.Perm M.R.us->ns.Pairwise (· <= ·)->∀l,H l=none->Q (.ref l) (upd H l (.lst (ns.map V.int))))->spPlaces c vs H Q E
theorem oG:Mt F c.T F.r.T_places 2 (spPlaces c):=by
 obtain⟨f,fd,X⟩:=F.TX;have C_Rounds:=F.cR;refine F.r.T_places.go X.m fun sc H Q hr h=>?_;obtain⟨a,h,x,M,rfl,t,s,few,k⟩:=h;obtain⟨_,_,_,_,cl,n1,n2,n3,n4,n5⟩:=X;have hx:=s _ _ t.x;have hR:=t.r.same s;have hr0:=hR.x;refine'⟨_,(ao (bc (qP (bu (pv 0) rfl) C_Rounds (wS F) hr))),?_⟩;walk;exact⟨a.r,a.dr,a.du,a.dk,a.df,a.dc,M.R,rfl,hR,few,k⟩
inductive spNU (c:Cs)(vs:List V)(H:Hp)(Q:VK)(E:XK):Prop
 | mk (a:TA)(h:Hp)(x:Addr)(M:MS)(p:Int):vs=[.ref x,.int p]->IsT c a h x M->aQ h H->M.R.Ok->p∈M.R.us->Q .non H->spNU c vs H Q E
theorem de:Mt F c.T F.r.T_need_used 4 (spNU c):=by
 obtain⟨f,fd,X⟩:=F.TX;have C_Rounds:=F.cR;have C_Tree:=X.cl;refine F.r.T_need_used.go X.m fun sc H Q hr h=>?_;obtain⟨a,h,x,M,p,rfl,t,s,ok,hp,k⟩:=h;obtain⟨_,_,_,_,cl,n1,n2,n3,n4,n5⟩:=X;have hx:=s _ _ t.x;have hR:=t.r.same s;have hr0:=hR.x
 refine'⟨_,(ao (bT (cO (cv (e_ (bu (pv 0) rfl) C_Rounds (qd F) hr (pa1 (pv 1)))))
   (ao bQ)
   bd)),?_⟩
 walk;refine⟨a.r,a.dr,a.du,a.dk,a.df,a.dc,M.R,p,rfl,hR,ok,?_⟩;rw[av hp];walk;exact k
inductive spNodeIn (c:Cs)(vs:List V)(H:Hp)(Q:VK)(E:XK):Prop
 | mk (a:TA)(h:Hp)(x:Addr)(M:MS)(p:Int)(n:ND):vs=[.ref x,.int p]->IsT c a h x M->aQ h H->M.R.Ok->p∈M.R.us->M.nd p=some n->(∀y,IsN c h y n->Q (.ref y) H)->spNodeIn c vs H Q E
theorem gM:Mt F c.T F.r.T_node_in 4 (spNodeIn c):=by
 obtain⟨f,fd,X⟩:=F.TX;have C_Rounds:=F.cR;have C_Tree:=X.cl;refine F.r.T_node_in.go X.m fun sc H Q hr h=>?_;obtain⟨a,h,x,M,p,n,rfl,t,s,ok,hu,hn,k⟩:=h;obtain⟨_,_,_,_,cl,n1,n2,n3,n4,n5⟩:=X;have hx:=s _ _ t.x;have hR:=t.r.same s;have hr0:=hR.x;obtain⟨y,ey,iy⟩:=t.e p n hn
 refine'⟨_,(ad (bT (PW.pt (fM (cO (cv (e_ (bu (pv 0) rfl) C_Rounds (qd F) hr (pa1 (pv 1))))) (d0 (cO (cv (e_ (bu (pv 0) rfl) C_Rounds (w9 F) hr (pa1 (pv 1))))))))
   (ao bQ)
   bd)
  (ao (bc (dL (dt hr) (bu (pv 0) rfl) (pv 1) (fun _ _=>rfl))))),?_⟩
 walk;refine⟨a.r,a.dr,a.du,a.dk,a.df,a.dc,M.R,_,rfl,hR,ok,?_⟩;rw[av hu];walk;exact dM (k:=Sum.inl p) (s _ _ t.n) ey (k y iy)
inductive spTPage (c:Cs)(vs:List V)(H:Hp)(Q:VK)(E:XK):Prop
 | mk (a:TA)(h:Hp)(x:Addr)(M:MS)(p:Int)(n:ND):vs=[.ref x,.int p]->IsT c a h x M->aQ h H->M.R.Ok->p∈M.R.us->M.nd p=some n->(∀pg,Pg c.pg h pg n.lv n.ks n.gs->Q (.ref pg) H)->spTPage c vs H Q E
theorem iM:Mt F c.T F.r.T_page 5 (spTPage c):=by
 obtain⟨fN,fdN,XN⟩:=F.NX;obtain⟨f,fd,X⟩:=F.TX;have C_Rounds:=F.cR;obtain⟨_,_,_,_,clN,m1,m2,m3,m4,m5,m6⟩:=XN;have C_Tree:=X.cl;refine F.r.T_page.go X.m fun sc H Q hr h=>?_;obtain⟨a,h,x,M,p,n,rfl,t,s,ok,hp,hn,k⟩:=h;obtain⟨_,_,_,_,cl,n1,n2,n3,n4,n5⟩:=X;have hx:=s _ _ t.x;refine'⟨_,(ao (bc (bu (e_ (pv 0) C_Tree (gM F) hr (pa1 (pv 1))) rfl))),?_⟩;walk
 refine⟨a,h,x,M,p,n,rfl,t,s,ok,hp,hn,fun y zz=>?_⟩;obtain⟨dp,pg,e0,hpg⟩:=zz;have e1:=s _ _ e0;walk;exact k pg hpg
inductive spLv (c:Cs)(vs:List V)(H:Hp)(Q:VK)(E:XK):Prop
 | mk (a:TA)(h:Hp)(x:Addr)(M:MS)(p:Int)(n:ND):vs=[.ref x,.int p]->IsT c a h x M->aQ h H->M.R.Ok->p∈M.R.us->M.nd p=some n->Q (.int n.lv) H->spLv c vs H Q E
theorem iN:Mt F c.T F.r.T_level_of 5 (spLv c):=by
 obtain⟨fN,fdN,XN⟩:=F.NX;obtain⟨f,fd,X⟩:=F.TX;have C_Rounds:=F.cR;obtain⟨_,_,_,_,clN,m1,m2,m3,m4,m5,m6⟩:=XN;have C_Tree:=X.cl;refine F.r.T_level_of.go X.m fun sc H Q hr h=>?_;obtain⟨a,h,x,M,p,n,rfl,t,s,ok,hp,hn,k⟩:=h;obtain⟨_,_,_,_,cl,n1,n2,n3,n4,n5⟩:=X;have hx:=s _ _ t.x;refine'⟨_,(ao (bc (bu (e_ (pv 0) C_Tree (gM F) hr (pa1 (pv 1))) rfl))),?_⟩;walk
 refine⟨a,h,x,M,p,n,rfl,t,s,ok,hp,hn,fun y zz=>?_⟩;obtain⟨dp,pg,e0,hpg⟩:=zz;have e1:=s _ _ e0;walk;exact k
inductive spEd (c:Cs)(vs:List V)(H:Hp)(Q:VK)(E:XK):Prop
 | mk (a:TA)(h:Hp)(x:Addr)(M:MS)(p:Int)(n:ND):vs=[.ref x,.int p]->IsT c a h x M->aQ h H->M.R.Ok->p∈M.R.us->M.nd p=some n->(∀tt,H tt=none->Q (.ref tt) (upd H tt (.tup [oV n.hi,oV n.rt])))->spEd c vs H Q E
theorem mS:Mt F c.T F.r.T_edge_of 5 (spEd c):=by
 obtain⟨fN,fdN,XN⟩:=F.NX;obtain⟨f,fd,X⟩:=F.TX;have C_Rounds:=F.cR;obtain⟨_,_,_,_,clN,m1,m2,m3,m4,m5,m6⟩:=XN;have C_Tree:=X.cl;refine F.r.T_edge_of.go X.m fun sc H Q hr h=>?_;obtain⟨a,h,x,M,p,n,rfl,t,s,ok,hp,hn,k⟩:=h;obtain⟨_,_,_,_,cl,n1,n2,n3,n4,n5⟩:=X;have hx:=s _ _ t.x
 refine'⟨_,(ad (cD sc 2 (e_ (pv 0) C_Tree (gM F) hr (pa1 (pv 1))))
  (ao (bc (dU (pa2 (bu (pv 2) rfl) (bu (pv 2) rfl)))))),?_⟩
 walk;refine⟨a,h,x,M,p,n,rfl,t,s,ok,hp,hn,fun y zz=>?_⟩;obtain⟨dp,pg,e0,hpg⟩:=zz;have e1:=s _ _ e0;walk;exact⟨sz,k⟩
def KvS (a a':TA):Prop:=∀q:Int,((∃i:Int,cf a.kv (Sum.inl q)=some (.int i))->∃i:Int,cf a'.kv (Sum.inl q)=some (.int i))/\(cf a.kv (Sum.inl q)=none->cf a'.kv (Sum.inl q)=none)
theorem KvS.refl:KvS a a:=fun _=>⟨id,id⟩
theorem KvS.trans {b d}(x:KvS a b)(y:KvS b d):KvS a d:=fun q=>⟨fun z=>(y q).1 ((x q).1 z),fun z=>(y q).2 ((x q).2 z)⟩
theorem KvS.put {p i j:Int}{k:List (Key×V)}(e:cf a.kv (Sum.inl p)=some (.int i)):KvS a { a with kv:=db a.kv (Sum.inl p) (.int j),kn:=k }:=fun q=>by
 show (_->∃i:Int,cf (db _ _ _) _=_)/\(_->cf (db _ _ _) _=_);rw[cw];by_cases z:q=p
 ·subst z;rw[aH rfl];exact⟨fun _=>⟨j,rfl⟩,fun w=>by rw[e] at w;cases w⟩
 ·rw[aA (fun w=>z (Sum.inl.inj w))];exact⟨id,id⟩
def uj (M:MS)(hi rt:Option Int):Prop:=(hi=none/\rt=none)\/∃k p:Int,hi=some k/\rt=some p/\lh k/\p∈M.R.us
theorem gR (h:n<=500):n<sizeLine:=by have:=bp;lia
inductive spNE (c:Cs)(vs:List V)(H:Hp)(Q:VK)(E:XK):Prop
 | mk (a:TA)(h:Hp)(x:Addr)(M:MS)(hi rt:Option Int):vs=[.ref x,oV hi,oV rt]->IsT c a h x M->aQ h H->M.R.Ok->uj M hi rt->Q .non H->spNE c vs H Q E
theorem hX:Mt F c.T F.r.T_need_edge 5 (spNE c):=by
 obtain⟨f,fd,X⟩:=F.TX;have C_Rounds:=F.cR;refine F.r.T_need_edge.go X.m fun sc H Q hr h=>?_;obtain⟨a,h,x,M,hi,rt,rfl,t,s,ok,ed,k⟩:=h;obtain⟨_,_,_,_,cl,n1,n2,n3,n4,n5⟩:=X;have hx:=s _ _ t.x;have hR:=t.r.same s;have hr0:=hR.x
 refine'⟨_,(ad (bT (PW.pt (fM (pc jq (pv 1) bV) (d0 (pc jq (pv 2) bV))))
   (ao ow)
   bd)
  (ao (bT (PW.pt (jP (cO (cv (cc (jV F) hr (pa1 (pv 1))))) (iC (cO (cv (e_ (bu (pv 0) rfl) C_Rounds (qd F) hr (pa1 (pv 2))))))))
   (ao bQ)
   bd))),?_⟩
 rcases ed with⟨rfl,rfl⟩|⟨k0,p0,rfl,rfl,hk,hp⟩
 ·walk;refine⟨rfl,?_⟩;walk;refine ik rfl ?_;walk;refine⟨rfl,?_⟩;walk;refine ik rfl ?_;walk;exact k
 ·walk;refine⟨rfl,?_⟩;walk;refine iW nofun ?_;walk;refine⟨k0,rfl,?_⟩;rw[u6 hk];walk;refine⟨a.r,a.dr,a.du,a.dk,a.df,a.dc,M.R,p0,rfl,hR,ok,?_⟩;rw[av hp];walk;exact k
inductive spHN (c:Cs)(vs:List V)(H:Hp)(Q:VK)(E:XK):Prop
 | mk (a:TA)(h:Hp)(x:Addr)(M:MS)(p:Int)(n:ND)(w0:Int):vs=[.ref x,.int p,.int w0]->IsT c a h x M->aQ h H->M.R.Ok->M.nd p=some n->p∈M.R.us->M.b<=480->0<=w0->w0<=1000000->n.ho=some w0->(∀y,cf a.kn (Sum.inl p)=some (.ref y)->Q (.ref y) H)->spHN c vs H Q E
theorem fV:Mt F c.T F.r.T_held_node 6 (spHN c):=by
 obtain⟨fN,fdN,XN⟩:=F.NX;obtain⟨f,fd,X⟩:=F.TX;obtain⟨_,_,_,_,clN,m1,m2,m3,m4,m5,m6⟩:=XN;have C_Tree:=X.cl;refine F.r.T_held_node.go X.m fun sc H Q hr h=>?_;obtain⟨a,h,x,M,p,n,w0,rfl,t,s,ok,hn,hu,few,b0,b1,ho,k⟩:=h;obtain⟨_,_,_,_,cl,n1,n2,n3,n4,n5⟩:=X;have hx:=s _ _ t.x;have hr0:=(t.r.same s).x
 refine'⟨_,(ad (a_ (cc (ju F) hr (pa1 (pv 2))))
  (ad (cD sc 3 (dL (dt hr) (bu (pv 0) rfl) (pv 1) (fun _ _=>rfl)))
  (ad (bT (pc qR (bu (pv 3) rfl) (pv 2))
   (ao bQ)
   bd)
  (ao (bc (pv 3)))))),?_⟩
 obtain⟨y,hy,dp,pg,e0,hpg⟩:=t.e p n hn;have hv:=t.ve p n hn;have e1:=s _ _ e0;have few1:=gR (bh t.l.1 (by lia));rw[ho] at e1;walk;refine⟨w0,rfl,kA b0 b1,?_⟩;walk;refine dM (k:=Sum.inl p) (s _ _ t.n) hy ?_;walk;refine l_ rfl ?_;walk;exact k y hy
inductive spHold (c:Cs)(vs:List V)(H:Hp)(Q:VK)(E:XK):Prop
 | mk (a:TA)(h:Hp)(x:Addr)(M:MS)(p:Int)(n:ND)(w0:Int):vs=[.ref x,.int p,.int w0]->IsT c a h x M->aQ h H->M.R.Ok->M.nd p=some n->p∈M.R.us->M.b<=480->0<=w0->w0<=1000000->n.ho=none->(∀a' h' H',KvS a a'->IsT c a' h' x (M.put p { n with ho:=some w0,wr:=false })->Chg h h' H H'->Q .non H')->spHold c vs H Q E
theorem jX:Mt F c.T F.r.T_hold 7 (spHold c):=by
 obtain⟨fN,fdN,XN⟩:=F.NX;obtain⟨f,fd,X⟩:=F.TX;have C_Rounds:=F.cR;have C_Node:=XN.cl;obtain⟨_,_,_,_,clN,m1,m2,m3,m4,m5,m6⟩:=XN;have C_Tree:=X.cl;refine F.r.T_hold.go X.m fun sc H Q hr h=>?_;obtain⟨a,h,x,M,p,n,w0,rfl,t,s,ok,hn,hu,few,b0,b1,ho,k⟩:=h;obtain⟨_,_,_,_,cl,n1,n2,n3,n4,n5⟩:=X;have hx:=s _ _ t.x;have hr0:=(t.r.same s).x
 refine'⟨_,(ad (a_ (e_ (pv 0) C_Tree (de F) hr (pa1 (pv 1))))
  (ad (a_ (cc (ju F) hr (pa1 (pv 2))))
  (ad (cD sc 3 (dL (dt hr) (bu (pv 0) rfl) (pv 1) (fun _ _=>rfl)))
  (ad (bT (pc i7 (bu (pv 3) rfl) bV)
   (ao bQ)
   bd)
  (ao (dH (dt hr) (bu (pv 0) rfl) (pv 1) (e_ (pv 3) C_Node (lS F) hr (pa2 (pv 2) fh)) rfl)))))),?_⟩
 obtain⟨y,hy,dp,pg,e0,hpg⟩:=t.e p n hn;have e1:=s _ _ e0;rw[ho] at e1;walk;refine⟨a,h,x,M,_,rfl,t,s,ok,hu,?_⟩;walk;refine⟨w0,rfl,kA b0 b1,?_⟩;walk;refine dM (k:=Sum.inl p) (s _ _ t.n) hy ?_;walk;refine⟨rfl,?_⟩;walk;refine l_ rfl ?_;walk;refine⟨y,dp,pg,n.lv,n.hi,n.rt,none,some w0,n.wr,false,rfl,e1,fun y2 dy2 H1 f1 S1 q1=>?_⟩;walk
 refine eF (k:=Sum.inl p) (S1 _ _ (s _ _ t.n)) (gR (bh t.l.1 (by lia))) ?_;obtain⟨t2,c2⟩:=t.put s (n':={ n with ho:=some w0,wr:=false }) S1 f1 q1 ⟨dy2,pg,ae,hpg.same (aQ.upd (s.free f1))⟩ (t.ve p n hn);exact k _ _ _ (by exact fun _=>⟨id,id⟩) t2 c2
inductive spWrite (c:Cs)(vs:List V)(H:Hp)(Q:VK)(E:XK):Prop
 | mk (a:TA)(h:Hp)(x:Addr)(M:MS)(p:Int)(n:ND)(w0:Int)(pg:Addr)(ks gs:List Int)(hi rt:Option Int):vs=[.ref x,.int p,.int w0,.ref pg,oV hi,oV rt]->IsT c a h x M->aQ h H->M.R.Ok->M.nd p=some n->p∈M.R.us->M.b<=480->0<=w0->w0<=1000000->n.ho=some w0->Pg c.pg h pg n.lv ks gs->uj M hi rt->(∀a' h' H',KvS a a'->IsT c a' h' x (M.put p { n with ks:=ks,gs:=gs,hi:=hi,rt:=rt,wr:=true })->Chg h h' H H'->Q .non H')->spWrite c vs H Q E
theorem kO:Mt F c.T F.r.T_write 8 (spWrite c):=by
 obtain⟨fN,fdN,XNode⟩:=F.NX;obtain⟨f,fd,X⟩:=F.TX;have C_Rounds:=F.cR;have GNode:iX P w K mg base CX0 1 fN fdN ["self","level","bears","high","right"] (spNode c.N):=lP XNode F.r.T;have C_Node:=XNode.cl;have XN:=XNode;obtain⟨_,_,_,_,clN,m1,m2,m3,m4,m5,m6⟩:=XN;have C_Tree:=X.cl;refine F.r.T_write.go X.m fun sc H Q hr h=>?_
 obtain⟨a,h,x,M,p,n,w0,pgn,ks,gs,hi,rt,rfl,t,s,ok,hn,hu,few,b0,b1,ho,hpn,ed,k⟩:=h;obtain⟨_,_,_,_,cl,n1,n2,n3,n4,n5⟩:=X;have hx:=s _ _ t.x;have hr0:=(t.r.same s).x
 refine'⟨_,(ad (a_ (e_ (pv 0) C_Tree (de F) hr (pa1 (pv 1))))
  (ad (cD sc 6 (e_ (pv 0) C_Tree (fV F) hr (pa2 (pv 1) (pv 2))))
  (ad (a_ (cc (gK F) hr (pa2 (bu (pv 6) rfl) (pv 3))))
  (ad (a_ (e_ (pv 0) C_Tree (hX F) hr (pa2 (pv 4) (pv 5))))
  (ao (dH (dt hr) (bu (pv 0) rfl) (pv 1) (e_ (d_ XNode.mak GNode (hr.mono (by decide)) rfl XNode.m XNode.bi .nil fH (pa4 (bu (pv 6) rfl) (pv 3) (pv 4) (pv 5))) C_Node (lS F) hr (pa2 (pv 2) fh)) rfl)))))),?_⟩
 obtain⟨y,hy,dp,pg,e0,hpg⟩:=t.e p n hn;have e1:=s _ _ e0;walk;refine⟨a,h,x,M,_,rfl,t,s,ok,hu,?_⟩;walk;refine⟨a,h,x,M,p,n,w0,rfl,t,s,ok,hn,hu,few,b0,b1,ho,fun y' hy'=>?_⟩;rw[hy] at hy';cases aw hy';walk;refine⟨n.lv,pgn,ks,gs,rfl,hpn.same s,?_⟩;walk;refine⟨a,h,x,M,hi,rt,rfl,t,s,ok,ed,?_⟩;walk;intro y1 dy1 fy fdy nd1;refine⟨y1,dy1,pgn,n.lv,hi,rt,rfl,ae,fun H1 q0 k1=>⟨rfl,?_⟩⟩
 have S01:aQ H H1:=fun b o z=>k1 b o (dW fy fdy z) (ah z fy);walk;refine⟨y1,dy1,pgn,n.lv,hi,rt,none,some w0,false,true,rfl,q0,fun y2 dy2 H2 f2 S2 q2=>?_⟩;have S02:=S01.trans S2;have f2':=S01.free f2;clear S2 S01;walk;refine eF (k:=Sum.inl p) (S02 _ _ (s _ _ t.n)) (gR (bh t.l.1 (by lia))) ?_
 obtain⟨t2,c2⟩:=t.put s (n':={ n with ks:=ks,gs:=gs,hi:=hi,rt:=rt,wr:=true }) S02 f2' q2 ⟨dy2,pgn,by rw[ho];exact ae,hpn.same (aQ.upd (s.free f2'))⟩ (t.ve p n hn);exact k _ _ _ (by exact fun _=>⟨id,id⟩) t2 c2
inductive spFree (c:Cs)(vs:List V)(H:Hp)(Q:VK)(E:XK):Prop
 | mk (a:TA)(h:Hp)(x:Addr)(M:MS)(p:Int)(n:ND)(w0:Int):vs=[.ref x,.int p,.int w0]->IsT c a h x M->aQ h H->M.R.Ok->M.nd p=some n->p∈M.R.us->M.b<=480->0<=w0->w0<=1000000->n.ho=some w0->(∀a' h' H' b',KvS a a'->b'<=M.b+1->IsT c a' h' x ({ M with b:=b' }.put p { n with ho:=none,wr:=false })->Chg h h' H H'->Q .non H')->spFree c vs H Q E
theorem mR:Mt F c.T F.r.T_free 8 (spFree c):=by
 obtain⟨fN,fdN,XN⟩:=F.NX;obtain⟨f,fd,X⟩:=F.TX;have C_Rounds:=F.cR;have C_Node:=XN.cl;obtain⟨_,_,_,_,clN,m1,m2,m3,m4,m5,m6⟩:=XN;have C_Tree:=X.cl;refine F.r.T_free.go X.m fun sc H Q hr h=>?_;obtain⟨a,h,x,M,p,n,w0,rfl,t,s,ok,hn,hu,few,b0,b1,ho,k⟩:=h;obtain⟨_,_,_,_,cl,n1,n2,n3,n4,n5⟩:=X;have hx:=s _ _ t.x;have hr0:=(t.r.same s).x
 refine'⟨_,(ad (a_ (e_ (pv 0) C_Tree (de F) hr (pa1 (pv 1))))
  (ad (cD sc 3 (e_ (pv 0) C_Tree (fV F) hr (pa2 (pv 1) (pv 2))))
  (ad (bT (cv (bu (pv 3) rfl))
   (ao (si (dt hr) (bu (pv 0) rfl) (pv 1) ap tG (fun _ _ _=>rfl)))
   bd)
  (ao (dH (dt hr) (bu (pv 0) rfl) (pv 1) (e_ (pv 3) C_Node (lS F) hr (pa2 bV fh)) rfl))))),?_⟩
 obtain⟨y,hy,dp,pg,e0,hpg⟩:=t.e p n hn;have hv:=t.ve p n hn;have few1:=gR (bh t.l.1 (by lia));walk;refine⟨a,h,x,M,_,rfl,t,s,ok,hu,?_⟩;walk;refine⟨a,h,x,M,p,n,w0,rfl,t,s,ok,hn,hu,few,b0,b1,ho,fun y' hy'=>?_⟩;rw[hy] at hy';cases aw hy';walk;cases hw:n.wr with
 | false=>
  walk;refine⟨y,dp,pg,n.lv,n.hi,n.rt,n.ho,none,n.wr,false,rfl,(s _ _ e0),fun y2 dy2 H1 f1 S1 q1=>?_⟩;walk;refine eF (k:=Sum.inl p) (S1 _ _ (s _ _ t.n)) few1 ?_;obtain⟨t2,c2⟩:=t.put s (n':={ n with ho:=none,wr:=false }) S1 f1 q1 ⟨dy2,pg,ae,hpg.same (aQ.upd (s.free f1))⟩ hv;exact k _ _ _ M.b (by exact fun _=>⟨id,id⟩) (le_succ _) t2 c2
 | true=>
  walk;refine vE ?_;walk;obtain⟨vi,evi⟩:=hv;refine vQ (k:=Sum.inl p) (s _ _ t.v) evi (gR (bh t.l.2 (by lia))) ?_;obtain⟨t1,c1⟩:=t.putV s p (vi+1);obtain⟨y',hy',dp1,pg1,e01,hpg1⟩:=t1.e p n hn;rw[hy] at hy';cases aw hy';have s1:=c1.sm;have hx1:=s1 _ _ t1.x;generalize upd H a.dv _=H0 at *;walk
  refine⟨y,dp1,pg1,n.lv,n.hi,n.rt,n.ho,none,n.wr,false,rfl,(s1 _ _ e01),fun y2 dy2 H1 f1 S1 q1=>?_⟩;walk;refine eF (k:=Sum.inl p) (S1 _ _ (s1 _ _ t1.n)) few1 ?_;obtain⟨t2,c2⟩:=t1.put s1 (n':={ n with ho:=none,wr:=false }) S1 f1 q1 ⟨dy2,pg1,ae,hpg1.same (aQ.upd (s1.free f1))⟩ (t1.ve p n hn);exact k _ _ _ (M.b+1) (KvS.put evi) (by lia) t2 (c1.trans c2)
inductive spGo (c:Cs)(vs:List V)(H:Hp)(Q:VK)(E:XK):Prop
 | mk (a:TA)(h:Hp)(x:Addr)(M:MS)(p:Int)(n:ND)(w0:Int):vs=[.ref x,.int p,.int w0]->IsT c a h x M->aQ h H->M.R.Ok->M.nd p=some n->p∈M.R.us->M.b<=480->0<=w0->w0<=1000000->n.ho=some w0->M.R.cs.length<=500->M.R.places.length<=500->(∃tp:Int,M.top=some tp/\p≠tp)->(∀a' h' H',KvS a a'->IsT c a' h' x { (M.put p { n with ho:=none,wr:=false }) with b:=M.b+2,R:=(M.R.gone p).rel }->Chg h h' H H'->Q .non H')->spGo c vs H Q E
theorem xb:Mt F c.T F.r.T_go 8 (spGo c):=by
 obtain⟨fN,fdN,XN⟩:=F.NX;obtain⟨f,fd,X⟩:=F.TX;have C_Rounds:=F.cR;have C_Node:=XN.cl;obtain⟨_,_,_,_,clN,m1,m2,m3,m4,m5,m6⟩:=XN;have C_Tree:=X.cl;refine F.r.T_go.go X.m fun sc H Q hr h=>?_;obtain⟨a,h,x,M,p,n,w0,rfl,t,s,ok,hn,hu,few,b0,b1,ho,fewc,fewp,⟨tp,htp,ntp⟩,k⟩:=h;obtain⟨_,_,_,_,cl,n1,n2,n3,n4,n5⟩:=X;have hx:=s _ _ t.x;have hR:=t.r.same s
 refine'⟨_,(ad (a_ (e_ (pv 0) C_Tree (de F) hr (pa1 (pv 1))))
  (ad (bT (pc fJ (pv 1) (bu (pv 0) rfl))
   (ao bQ)
   bd)
  (ad (cD sc 3 (e_ (pv 0) C_Tree (fV F) hr (pa2 (pv 1) (pv 2))))
  (ad (dH (dt hr) (bu (pv 0) rfl) (pv 1) (e_ (pv 3) C_Node (lS F) hr (pa2 bV fh)) rfl)
  (ad (si (dt hr) (bu (pv 0) rfl) (pv 1) ap tG (fun _ _ _=>rfl))
  (ao (a_ (e_ (bu (pv 0) rfl) C_Rounds (wR F) hr (pa1 (pv 1)))))))))),?_⟩
 obtain⟨y,hy,dp,pg,e0,hpg⟩:=t.e p n hn;have hv:=t.ve p n hn;walk;refine⟨a,h,x,M,_,rfl,t,s,ok,hu,?_⟩;have hx0:=hx;rw[htp] at hx0;walk;refine iW (fun z=>ntp (V.int.inj z)) ?_;walk;refine⟨a,h,x,M,p,n,w0,rfl,t,s,ok,hn,hu,few,b0,b1,ho,fun y' hy'=>?_⟩;rw[hy] at hy';cases aw hy';walk;refine⟨y,dp,pg,n.lv,n.hi,n.rt,n.ho,none,n.wr,false,rfl,(s _ _ e0),fun y2 dy2 H1 f1 S1 q1=>?_⟩;walk
 refine eF (k:=Sum.inl p) (S1 _ _ (s _ _ t.n)) (gR (bh t.l.1 (by lia))) ?_;obtain⟨t2,c2⟩:=t.put s (n':={ n with ho:=none,wr:=false }) S1 f1 q1 ⟨dy2,pg,ae,hpg.same (aQ.upd (s.free f1))⟩ hv;have s2:=c2.sm;have hx2:=s2 _ _ t2.x;generalize upd H1 a.dn _=H2 at *;generalize upd (upd h y2 _) a.dn _=h2 at *;obtain⟨vi,evi⟩:=hv;walk;refine vE ?_;walk
 refine vQ (k:=Sum.inl p) (s2 _ _ t2.v) evi (gR (bh t.l.2 (by lia))) ?_;obtain⟨t3,c3⟩:=t2.putV s2 p (vi+1);have s3:=c3.sm;have hx3:=s3 _ _ t3.x;have hR3:=t3.r.same s3;have hr3:=hR3.x;generalize upd H2 a.dv _=H3 at *;generalize upd h2 a.dv _=h3 at *;walk;refine⟨a.r,a.dr,a.du,a.dk,a.df,a.dc,M.R,_,rfl,hR3,ok,fewp,fewc,hu,fun H4 r4 k4=>?_⟩;obtain⟨t4,c4⟩:=t3.setR s3 k4 (by simp) r4
 exact k _ _ _ (KvS.put evi) t4 ((c2.trans c3).trans c4)
inductive spLead (c:Cs)(vs:List V)(H:Hp)(Q:VK)(E:XK):Prop
 | mk (a:TA)(h:Hp)(x:Addr)(M:MS)(o0 p0 tp:Int):vs=[.ref x,.int o0,.int p0]->IsT c a h x M->aQ h H->M.R.Ok->o0∈M.R.us->p0∈M.R.us->M.top=some tp->(o0≠tp->Q (.bl false) H)->(o0=tp->∀h' H',IsT c a h' x { M with top:=some p0 }->Chg h h' H H'->Q (.bl true) H')->spLead c vs H Q E
theorem sK:Mt F c.T F.r.T_lead 5 (spLead c):=by
 obtain⟨f,fd,X⟩:=F.TX;have C_Tree:=X.cl;refine F.r.T_lead.go X.m fun sc H Q hr h=>?_;obtain⟨a,h,x,M,o0,p0,tp,rfl,t,s,ok,ho,hp,htp,k1,k2⟩:=h;obtain⟨_,_,_,_,cl,n1,n2,n3,n4,n5⟩:=X;have hx:=s _ _ t.x;have hR:=t.r.same s
 refine'⟨_,(ad (a_ (e_ (pv 0) C_Tree (de F) hr (pa1 (pv 1))))
  (ad (a_ (e_ (pv 0) C_Tree (de F) hr (pa1 (pv 2))))
  (ad (bT (pc qR (pv 1) (bu (pv 0) rfl))
   (ao (bc fh))
   bd)
  (ad (cQ (pv 0) (pv 2) rfl)
  (ao (bc fh)))))),?_⟩
 walk;refine⟨a,h,x,M,_,rfl,t,s,ok,ho,?_⟩;walk;refine⟨a,h,x,M,_,rfl,t,s,ok,hp,?_⟩;rw[htp] at hx;walk;by_cases e:o0=tp
 ·refine l_ (bq V.int e) ?_;walk;exact k2 e _ _ (t.setTop p0) (Chg.mut s t.x)
 ·refine u7 (fun z=>e (V.int.inj z)) ?_;walk;exact k1 e
inductive spTEnter (c:Cs)(vs:List V)(H:Hp)(Q:VK)(E:XK):Prop
 | mk (a:TA)(h:Hp)(x:Addr)(M:MS)(w0:Int):vs=[.ref x,.int w0]->IsT c a h x M->aQ h H->M.R.cs.length<=500->0<=w0->w0<=1000000->w0∉M.R.cs.map (·.1)->(∀h' H',IsT c a h' x { M with R:=M.R.come w0 }->Chg h h' H H'->Q .non H')->spTEnter c vs H Q E
theorem qW:Mt F c.T F.r.T_enter 7 (spTEnter c):=by
 obtain⟨f,fd,X⟩:=F.TX;have C_Rounds:=F.cR;refine F.r.T_enter.go X.m fun sc H Q hr h=>?_;obtain⟨a,h,x,M,w0,rfl,t,s,few,b0,b1,hm,k⟩:=h;obtain⟨_,_,_,_,cl,n1,n2,n3,n4,n5⟩:=X;have hx:=s _ _ t.x;have hR:=t.r.same s;have hr0:=hR.x;refine'⟨_,(ao (a_ (e_ (bu (pv 0) rfl) C_Rounds (uV F) hr (pa1 (pv 1))))),?_⟩;walk
 refine⟨a.r,a.dr,a.du,a.dk,a.df,a.dc,M.R,_,rfl,hR,few,b0,b1,hm,fun H4 r4 k4=>?_⟩;obtain⟨t4,c4⟩:=t.setR s k4 (by simp) r4;exact k _ _ t4 c4
def xQ (R:RS)(p:Int):Prop:=R.fs=[]/\p=(R.places.length:Nat)\/p∈R.fs/\∀n∈R.fs,p<=n
inductive spMade (c:Cs)(vs:List V)(H:Hp)(Q:VK)(E:XK):Prop
 | mk (a:TA)(h:Hp)(x:Addr)(M:MS)(lv:Int)(pg:Addr)(ks gs:List Int)(hi rt:Option Int):vs=[.ref x,.int lv,.ref pg,oV hi,oV rt]->IsT c a h x M->aQ h H->M.R.Ok->M.R.places.length<=500->M.b<=480->(∀p∈M.R.fs,∃i:Int,cf a.kv (Sum.inl p)=some (.int i))->cf a.kv (Sum.inl ((M.R.places.length:Nat):Int))=none->0<=lv->lv<=60->Pg c.pg h pg lv ks gs->uj M hi rt ->
   (∀p a' h' H',xQ M.R p->IsT c a' h' x { (M.put p ⟨lv,ks,gs,hi,rt,none,false⟩) with b:=M.b+2,R:=M.R.take p }->(∀q,(∃i:Int,cf a.kv (Sum.inl q)=some (.int i))\/q=p->∃i:Int,cf a'.kv (Sum.inl q)=some (.int i))->(∀q,q≠p->cf a.kv (Sum.inl q)=none->cf a'.kv (Sum.inl q)=none)->Chg h h' H H'->Q (.int p) H')->spMade c vs H Q E
theorem jW:Mt F c.T F.r.T_made 8 (spMade c):=by
 obtain⟨fN,fdN,XNode⟩:=F.NX;obtain⟨f,fd,X⟩:=F.TX;have C_Rounds:=F.cR;have GNode:iX P w K mg base CX0 1 fN fdN ["self","level","bears","high","right"] (spNode c.N):=lP XNode F.r.T;have C_Tree:=X.cl;refine F.r.T_made.go X.m fun sc H Q hr h=>?_;obtain⟨a,h,x,M,lv,pg,ks,gs,hi,rt,rfl,t,s,ok,few,fewb,vf,vn,b0,b1,hpg,ed,k⟩:=h;obtain⟨_,_,_,_,cl,n1,n2,n3,n4,n5⟩:=X;have hx:=s _ _ t.x
 have hR:=t.r.same s;have hr0:=hR.x
 refine'⟨_,(ad (a_ (cc (iK F) hr (pa1 (pv 1))))
  (ad (a_ (cc (gK F) hr (pa2 (pv 1) (pv 2))))
  (ad (a_ (e_ (pv 0) C_Tree (hX F) hr (pa2 (pv 3) (pv 4))))
  (ad (cD sc 5 (qP (bu (pv 0) rfl) C_Rounds (uU F) hr))
  (ad (dH (dt hr) (bu (pv 0) rfl) (pv 5) (d_ XNode.mak GNode (hr.mono (by decide)) rfl XNode.m XNode.bi .nil fH (pa4 (pv 1) (pv 2) (pv 3) (pv 4))) rfl)
  (ad (a_ (wM (bu (pv 0) rfl) (pv 5) ap ⟨rfl,rfl,rfl,rfl⟩))
  (ao (bc (pv 5))))))))),?_⟩
 walk;refine⟨lv,rfl,kA b0 b1,?_⟩;walk;refine⟨lv,pg,ks,gs,rfl,hpg.same s,?_⟩;walk;refine⟨a,h,x,M,hi,rt,rfl,t,s,ok,ed,?_⟩;walk;refine⟨a.r,a.dr,a.du,a.dk,a.df,a.dc,M.R,rfl,hR,ok,by lia,fun p H1 hp r1 k1=>?_⟩;obtain⟨t1,c1⟩:=t.setR s k1 (by simp) r1
 have hpg1:=hpg.rs s k1 (fun b hb=>by
  simp at hb;rcases hb with rfl|rfl
  ·exact⟨_,t.r.u⟩
  ·exact⟨_,t.r.f⟩)
 have s1:=c1.sm;have hx1:=s1 _ _ t1.x;generalize rsH h H1=h1 at *;have fewv:=gR (bh t.l.2 (by lia));walk;intro y dy fy fdy nd;refine⟨y,dy,pg,lv,hi,rt,rfl,ae,fun H2 q2 k2=>⟨rfl,?_⟩⟩;have S12:aQ H1 H2:=fun b o z=>k2 b o (dW fy fdy z) (ah z fy)
 have isn:IsN c (upd h1 y (.ins c.N dy (nF lv pg hi rt none false))) y ⟨lv,ks,gs,hi,rt,none,false⟩:=⟨dy,pg,ae,hpg1.same (aQ.upd (s1.free fy))⟩;walk;refine eF (k:=Sum.inl p) (S12 _ _ (s1 _ _ t1.n)) (gR (bh t.l.1 (by lia))) ?_;have hv:upd H2 a.dn (.dK (db a.kn (Sum.inl p) (.ref y))) a.dv=some (.dK a.kv):=by rw[ak (bM t1.d.2.2)];exact S12 _ _ (s1 _ _ t1.v)
 have hx3:upd H2 a.dn (.dK (db a.kn (Sum.inl p) (.ref y))) x=some (.ins c.T a.dx (tF M.most a.r a.dn a.dv M.top)):=by rw[ak (cJ t1.x t1.n nofun)];exact S12 _ _ hx1
 rcases hp with⟨hf,rfl⟩|⟨hm,hmin⟩
 ·have tA:=t1.addN (p:=((M.R.places.length:Nat):Int)) (s1.free fy) isn;have d1:Chg h1 (upd h1 y (.ins c.N dy (nF lv pg hi rt none false))) H1 H2:=.addS s1 S12 fy q2;have d2:=d1.trans (.mut (o:=.dK (db a.kn (Sum.inl ((M.R.places.length:Nat):Int)) (.ref y))) d1.sm (cm (s1.free fy) t1.n))
  have cA:=d2.trans (.mut (o:=.dK (db a.kv (Sum.inl ((M.R.places.length:Nat):Int)) (.int 0))) d2.sm (by rw[ak (bM t1.d.2.2)];exact cm (s1.free fy) t1.v));generalize upd H2 a.dn _=H3 at *;walk;refine vG ?_;walk;refine BR hv ?_;walk;refine vP (k:=Sum.inl ((M.R.places.length:Nat):Int)) hv fewv (fun v e=>?_) fun _=>?_
  ·rw[vn] at e;cases e
  ·walk;refine k _ _ _ _ (.inl ⟨hf,rfl⟩) tA (fun q hq=>?_) (fun q nq z=>?_) (c1.trans cA)
   ·by_cases e:q=((M.R.places.length:Nat):Int)
    ·exact⟨0,by show cf (db _ _ _) _=_;rw[e,cw,aH rfl]⟩
    ·obtain⟨i,ei⟩:=hq.resolve_right e;exact⟨i,by show cf (db _ _ _) _=_;rw[cw,aA (fun w=>e (Sum.inl.inj w))];exact ei⟩
   ·show cf (db _ _ _) _=_;rw[cw,aA (fun w=>nq (Sum.inl.inj w))];exact z
 ·obtain⟨t2,c2⟩:=t1.put s1 (n':=⟨lv,ks,gs,hi,rt,none,false⟩) S12 fy q2 isn (vf p hm);generalize upd H2 a.dn _=H3 at *;walk;refine vG ?_;walk;refine BR hv ?_;walk;refine vP (k:=Sum.inl p) hv fewv (fun v e=>?_) fun e=>?_
  ·walk;refine k p _ _ _ (.inr ⟨hm,hmin⟩) (t2.more (le_succ _)) (fun q hq=>?_) (fun q _ z=>z) (c1.trans c2);rcases hq with z|rfl
   ·exact z
   ·exact vf q hm
  ·obtain⟨i,ei⟩:=vf p hm;rw[ei] at e;cases e
theorem xg {la}(h1:H la=some (.lst (ks.map V.int)))(h2:H lb=some (.lst (gs.map V.int)))(ok:KeysOk ks)(og:okg ks.length gs)
  (q:∀x dx tk tg H',H x=none->H tk=none->H tg=none->aQ H H'->H' x=some (.ins C dx (PgF tk tg))->H' tk=some (.tup (ks.map V.int))->H' tg=some (.tup (gs.map V.int))->Q (.ref x) H'):xO C (spMake C okg) [] E0 Q [.ref la,.ref lb] H:=by
 intro x dx fx fdx nd;refine⟨x,dx,la,lb,ks,gs,rfl,ae,dW fx fdx h1,dW fx fdx h2,ok,og,fun H' tk tg B f1 f2 e1 e2 e3=>⟨rfl,?_⟩⟩
 have out:∀{b:Addr},upd (upd H dx (.own x)) x (.ins C dx []) b=none->H b=none:=fun {b} z=>by
  cases q0:H b with
  | none=>rfl
  | some o=>rw[dW fx fdx q0] at z;cases z
 exact q x dx tk tg H' fx (out f1) (out f2) (fun b o z=>B b o (dW fx fdx z) (ah z fx)) e1 e2 e3
def MS.init (most:Int):MS:=⟨most,some 0,fun q=>if q=0 then some ⟨0,[],[],none,none,none,false⟩ else none,⟨0,[0],[],[],[]⟩,2⟩
section
theorem jz:FnScope ["self","most"] ["self","most"] (bA (bU (top 63) 0)):=by walk_at "s"
inductive spTInit (c:Cs)(vs:List V)(H:Hp)(Q:VK)(E:XK):Prop
 | mk (x dx:Addr)(most:Int):vs=[.ref x,.int most]->H x=some (.ins c.T dx [])->2<=most->most<=5->(∀a h' H',IsT c a h' x (MS.init most)->aQ h' H'->(∀b,h' b=none\/b=x\/H b=none)->But x H H'->Q .non H')->spTInit c vs H Q E
theorem sM {f}(F:Fx P w K mg base c)(X:TrN K mg c.T f fd):iX P w K mg base CX0 11 f fd ["self","most"] (spTInit c):=by
 obtain⟨fL,fdL,XLeaf⟩:=F.LX;obtain⟨fR,fdR,XRounds⟩:=F.RX;have GLeaf:=oC F XLeaf;have GRounds:iX P w K mg base CX0 1 fR fdR ["self"] (spInit c.R):=sJ XRounds F.r.T;have C_Tree:=X.cl;refine X.fn.ok jz (fun vs H Q E h=>?_) (fun cdv A outer s0 H vs Q E hr h=>?_)
 ·obtain⟨_,_,_,rfl,_⟩:=h;rfl
 ·obtain⟨x,dx,most,rfl,hx,b0,b1,k⟩:=h;obtain⟨_,_,_,_,cl,n1,n2,n3,n4,n5⟩:=X
  refine'⟨_,(ad (a_ (cc (jr F) hr (pa1 (pv 1))))
  (ad (cQ (pv 0) (pv 1) rfl)
  (ad (cQ (pv 0) (pW XRounds.mak GRounds (hr.mono (by decide)) rfl XRounds.m XRounds.bi .nil fH) rfl)
  (ad (cQ (pv 0) fO rfl)
  (ad (cQ (pv 0) fO rfl)
  (ao (cQ (pv 0) (e_ (pv 0) C_Tree (jW F) hr (pa4 ap (d_ XLeaf.mak GLeaf (hr.mono (by decide)) rfl XLeaf.m XLeaf.bi .nil fH (pa2 (bw cy) (bw cy))) bV bV)) rfl))))))),?_⟩
  walk;refine⟨most,rfl,kA b0 b1,?_⟩;walk;generalize hG:upd H x _=H1 at *;have e0:H1 x=some (.ins c.T dx [("most_keys",.int most)]):=eG hG;have B0:But x H H1:=fun b o z n=>by rw[<- hG,ak n];exact z
  intro r dr fr fdr nd;refine⟨r,dr,rfl,ae,fun du dk df dc H2 z1 z2 z3 z4 r2 k2=>⟨rfl,?_⟩⟩;have S12:aQ H1 H2:=fun b o z=>k2 b o (dW fr fdr z) (by simp[ah z fr])
  have out:∀{b:Addr},upd (upd H1 dr (.own r)) r (.ins c.R dr []) b=none->H1 b=none:=fun {b} z=>by
   cases q0:H1 b with
   | none=>rfl
   | some o=>rw[dW fr fdr q0] at z;cases z
  replace z1:=out z1;replace z2:=out z2;replace z3:=out z3;replace z4:=out z4;have e2:=S12 _ _ e0;walk;have nx:∀{b:Addr},H1 b=none->x≠b:=fun z=>ah e0 z;have xn:x∉[r,du,dk,df,dc]:=by simp[nx fr,nx z1,nx z2,nx z3,nx z4]
  have r3:=r2.out (d:=x) (o:=.ins c.T dx (gW "own_rounds" (.ref r) [("most_keys",.int most)])) xn;generalize hG:upd H2 x _=H3 at *;have e3:H3 x=some (.ins c.T dx [("most_keys",.int most),("own_rounds",.ref r)]):=eG hG;have B3:But x H1 H3:=fun b o z n=>by rw[<- hG,ak n];exact S12 _ _ z
  intro dn fn;walk;have nn:=(ah e3 fn).symm;have r4:=(r3.same (aQ.upd (o:=.dK []) fn)).out (d:=x) (o:=.ins c.T dx (gW "nodes" (.ref dn) [("most_keys",.int most),("own_rounds",.ref r)])) xn;have dnR:dn∉[du,dk,df,dc]:=by simp[(ah r3.u fn).symm,(ah r3.k fn).symm,(ah r3.f fn).symm,(ah r3.c fn).symm]
  generalize hG:upd (upd H3 dn (.dK [])) x _=H4 at *;have e4:H4 x=some (.ins c.T dx [("most_keys",.int most),("own_rounds",.ref r),("nodes",.ref dn)]):=hG▸ae;have d4:H4 dn=some (.dK []):=by rw[<- hG,ak nn,ae]
  have B4:But x H3 H4:=fun b o z n=>by rw[<- hG,ak n];exact cm fn z
  intro dv fv;walk;have nv:=(ah e4 fv).symm;have r5:=(r4.same (aQ.upd (o:=.dK []) fv)).out (d:=x) (o:=.ins c.T dx (gW "versions" (.ref dv) [("most_keys",.int most),("own_rounds",.ref r),("nodes",.ref dn)])) xn;have dvR:dv∉[du,dk,df,dc]:=by simp[(ah r4.u fv).symm,(ah r4.k fv).symm,(ah r4.f fv).symm,(ah r4.c fv).symm]
  generalize hG:upd (upd H4 dv (.dK [])) x _=H5 at *;have e5:H5 x=some (.ins c.T dx (tF most r dn dv none)):=hG▸ae;have d5:H5 dn=some (.dK []):=by rw[<- hG,ak nn];exact cm fv d4
  have v5:H5 dv=some (.dK []):=by rw[<- hG,ak nv,ae]
  have B5:But x H4 H5:=fun b o z n=>by rw[<- hG,ak n];exact cm fv z
  have B:But x H H5:=fun b o z n=>B5 b o (B4 b o (B3 b o (B0 b o z n) n) n) n
  have back:∀{b:Addr},b≠x->H5 b=none->H b=none:=fun {b} n z=>by
   cases q0:H b with
   | none=>rfl
   | some o=>rw[B b o q0 n] at z;cases z
  have bk1:∀{b:Addr},H1 b=none->H b=none:=fun {b} z=>by
   cases q0:H b with
   | none=>rfl
   | some o=>rw[B0 b o q0 (bM (nx z))] at z;cases z
  have bk3:H dn=none:=by
   cases q0:H dn with
   | none=>rfl
   | some o=>rw[B3 dn o (B0 dn o q0 nn) nn] at fn;cases fn
  have bk4:H dv=none:=by
   cases q0:H dv with
   | none=>rfl
   | some o=>rw[B4 dv o (B3 dv o (B0 dv o q0 nv) nv) nv] at fv;cases fv
  walk;refine BM fun la H6 fa S6 ea=>?_;replace ea:H6 la=some (.lst (([]:List Int).map V.int)):=ea;walk;refine BM fun lb H7 fb S7 eb=>?_;replace eb:H7 lb=some (.lst (([]:List Int).map V.int)):=eb;walk;refine xg (S7 _ _ ea) eb ⟨fun _ z=>(nomatch z),.nil,by decide⟩ ⟨rfl,nofun⟩ fun pg dg tk tg H8 p1 p2 p3 S8 q1 q2 q3=>?_;have S57:=S6.trans S7
  have t0:IsT c ⟨dx,r,dr,du,dk,df,dc,dn,dv,[],[]⟩ (rsL [x,r,du,dk,df,dc,dn,dv] H5) x ⟨most,none,fun _=>none,⟨0,[],[],[],[]⟩,0⟩:=by
   refine⟨?_,⟨?_,?_,?_,?_,?_,r5.nd⟩,?_,?_,⟨aE _,aE _⟩,(fun p n z=>by cases z),(fun p n z=>by cases z),⟨dnR,dvR,(ah d4 fv)⟩,nx fr⟩
   ·rw[jj (by simp)];exact e5
   ·rw[jj (by simp)];exact r5.x
   ·rw[jj (by simp)];exact r5.u
   ·rw[jj (by simp)];exact r5.k
   ·rw[jj (by simp)];exact r5.f
   ·rw[jj (by simp)];exact r5.c
   ·rw[jj (by simp)];exact d5
   ·rw[jj (by simp)];exact v5
  obtain⟨h2,cg2,hpg,up⟩:=Pg.add (cp:=c.pg) (lv:=0) (ks:=[]) (gs:=[]) (Chg.same uG (S57.trans S8)) (S57.free p1) (S57.free p2) (S57.free p3) q1 q2 q3;walk
  refine⟨_,h2,x,_,0,pg,[],[],none,none,rfl,(t0.same up),cg2.sm,⟨.nil,(fun _ z=>by cases z),.nil,(fun _ z=>by cases z)⟩,(by show 0<=500;decide),(by show 0<=480;decide),(fun _ z=>by cases z),rfl,by decide,by decide,hpg,.inl ⟨rfl,rfl⟩,fun j a' h' H' gv t' _ _ c'=>?_⟩
  have j0:j=0:=by
   rcases gv with⟨_,e⟩|⟨e,_⟩
   ·exact e
   ·cases e
  subst j0;have hx':=c'.sm _ _ t'.x;walk;have ce:=(cg2.trans c').trans (Chg.mut (o:=.ins c.T a'.dx (tF most a'.r a'.dn a'.dv (some 0))) c'.sm t'.x)
  have li:∀{b:Addr},b∈[x,r,du,dk,df,dc,dn,dv]->b=x\/H b=none:=fun {b} hb=>by
   simp at hb;rcases hb with rfl|rfl|rfl|rfl|rfl|rfl|rfl|rfl
   ·exact .inl rfl
   ·exact .inr (bk1 fr)
   ·exact .inr (bk1 z1)
   ·exact .inr (bk1 z2)
   ·exact .inr (bk1 z3)
   ·exact .inr (bk1 z4)
   ·exact .inr bk3
   ·exact .inr bk4
  refine k a' _ _ (t'.setTop 0) ce.sm (fun b=>?_) fun b o z n=>?_
  ·rcases ce.nw b with q|q|q
   ·exact .inl q
   ·exact .inr (li (vF q))
   ·by_cases e:b=x
    ·exact .inr (.inl e)
    ·exact .inr (.inr (back e q))
  ·refine ce.fr b o (B b o z n) ?_;cases q:rsL [x,r,du,dk,df,dc,dn,dv] H5 b with
   | none=>rfl
   | some o'=>
    rcases li (vF (by rw[q];exact nofun)) with e|e
    ·exact aY e n
    ·rw[z] at e;cases e
end
inductive spRof (c:Cs)(vs:List V)(H:Hp)(Q:VK)(E:XK):Prop
 | mk (lap:Int)(lu lf:Addr)(us fs:List Int):vs=[.int lap,.ref lu,.ref lf]->H lu=some (.lst (us.map V.int))->H lf=some (.lst (fs.map V.int))->us.Nodup->fs.Nodup->us.length<=500->fs.length<=500->(∀x dx du dk df dc H',H x=none->(∀b∈[du,dk,df,dc],H b=none)->aQ H H'->IsR c.R x dx du dk df dc H' ⟨lap,us,[],fs,[]⟩->Q (.ref x) H')->spRof c vs H Q E
theorem mP:Ok F F.r.d_rounds_of 3 (spRof c):=by
 obtain⟨fR,fdR,XRounds⟩:=F.RX;have GRounds:iX P w K mg base CX0 1 fR fdR ["self"] (spInit c.R):=sJ XRounds F.r.T;have X:=XRounds;obtain⟨_,_,_,_,cl,n1,n2,n3,n4,n5⟩:=X;refine F.r.d_rounds_of.go fun sc H Q hr h=>?_;obtain⟨lap,lu,lf,us,fs,rfl,hu,hf,nu,nf,lu5,lf5,k⟩:=h
 refine'⟨_,(ad (cD sc 3 (pW XRounds.mak GRounds (hr.mono (by decide)) rfl XRounds.m XRounds.bi .nil fH))
  (ad (cQ (pv 3) (vK (dE [] []) rfl (dm (pv 1)) (fun _ _ _ _ _=>PTs.nil) (fun _ _ _ _ _=>(pv 0)) (fun _ _ _ _ _=>fh)) rfl)
  (ad (cQ (pv 3) (vK (dE [] []) rfl (dm (pv 2)) (fun _ _ _ _ _=>PTs.nil) (fun _ _ _ _ _=>(pv 0)) (fun _ _ _ _ _=>fh)) rfl)
  (ad (cQ (pv 3) (pv 0) rfl)
  (ao (bc (pv 3))))))),?_⟩
 walk;intro x dx fx fdx nd;refine⟨x,dx,rfl,ae,fun du dk df dc H1 z1 z2 z3 z4 r1 k1=>⟨rfl,?_⟩⟩
 have out:∀{b:Addr},upd (upd H dx (.own x)) x (.ins c.R dx []) b=none->H b=none:=fun {b} z=>by
  cases q0:H b with
  | none=>rfl
  | some o=>rw[dW fx fdx q0] at z;cases z
 replace z1:=out z1;replace z2:=out z2;replace z3:=out z3;replace z4:=out z4;have S1:aQ H H1:=fun b o z=>k1 b o (dW fx fdx z) (by simp[ah z fx]);have hx1:=r1.x;walk;refine nI (fun R z=>?_) (S1 _ _ hu) nu (gR lu5) fun du' H2 f2 S2 e2=>?_
 ·walk;exact z
 walk;generalize hG:upd H2 x _=H3 at *;have B3:But x H2 H3:=fun b o z n=>by rw[<- hG,ak n];exact z
 have nx:∀{b:Addr} {o:HO},H b=some o->b≠x:=fun z=>ah z fx;have hf3:=B3 _ _ (S2 _ _ (S1 _ _ hf)) (nx hf);refine nI (fun R z=>?_) hf3 nf (gR lf5) fun df' H4 f4 S4 e4=>?_
 ·walk;exact z
 have hx4:=S4 _ _ (eG hG);walk;have d1:∀{b:Addr} {q:List (Key×V)},H1 b=some (.dK q)->b≠x:=fun e=>cJ e hx1 nofun
 have nu':=cJ e2 (S2 _ _ hx1) nofun
 have nf':=cJ e4 hx4 nofun
 have old:∀{b:Addr} {o:HO},H1 b=some o->b≠x->H4 b=some o:=fun z n=>S4 _ _ (B3 _ _ (S2 _ _ z) n);refine k x dx du' dk df' dc _ fx (fun b hb=>?_) (fun b o z=>?_) ⟨ae,?_,?_,?_,?_,?_⟩
 ·simp at hb;rcases hb with rfl|rfl|rfl|rfl
  ·exact S1.free f2
  ·exact z2
  ·cases q0:H b with
   | none=>rfl
   | some o=>rw[B3 _ _ (S2 _ _ (S1 _ _ q0)) nf'] at f4;cases f4
  ·exact z4
 ·rw[ak (nx z),ak (nx z)];exact old (S1 _ _ z) (nx z)
 ·rw[ak nu',ak nu'];exact S4 _ _ (B3 _ _ e2 nu')
 ·rw[ak (d1 r1.k),ak (d1 r1.k)];exact old r1.k (d1 r1.k)
 ·rw[ak nf',ak nf'];exact e4
 ·rw[ak (d1 r1.c),ak (d1 r1.c)];exact old r1.c (d1 r1.c)
 ·have g1:∀{b:Addr} {o:HO},H1 b=some o->b≠du':=fun z=>ah z f2;have g2:∀{b:Addr} {o:HO},H1 b=some o->b≠x->b≠df':=fun z n=>ah (B3 _ _ (S2 _ _ z) n) f4;have r:=r1.nd;simp only[bJ,bm,mw,or_false,not_or] at r ⊢;exact⟨⟨(g1 r1.k).symm,(ah (B3 _ _ e2 nu') f4),(g1 r1.c).symm⟩,⟨g2 r1.k (d1 r1.k),r.2.1.2⟩,(g2 r1.c (d1 r1.c)).symm,r.2.2.2⟩
def isI:V->Bool|.int _=>true|_=>false
def isB:V->Bool|.bl _=>true|_=>false
def ku (v:V)(lo hi:Int):Bool:=match v with|.int i=>inR lo hi i|_=>false
def zY (v:V):Bool:=ku v 0 1000000
def ss:V->Bool|.int i=>decide (0<=i)|_=>false
section
variable {t:Value}
theorem A8 {n}(hm:kitMeta n=true)(h:subIn K (.ref C) (.type n)=some false):kitOne K (.ref C) (.type n)=some false:=by
 unfold kitOne;rw[aA (by intro z;cases(beq_iff_eq.mp z))];show (if kitMeta n=true then _ else _)=_;rw[aH hm,h]
theorem u9 (x:Thg K H v t):kitOne K t (.type "int")=some (isI v||isB v):=by
 cases x with
 | _=>kernel_rfl
theorem tD (x:Thg K H v t):kitOne K t (.type "bool")=some (isB v):=by
 cases x with
 | _=>kernel_rfl
end
inductive spQ (K:Frag)(p:V->Bool)(vs:List V)(H:Hp)(Q:VK)(E:XK):Prop
 | mk (v:V)(t:Value):vs=[v]->Thg K H v t->Q (.bl (p v)) H->spQ K p vs H Q E
inductive spQW (K:Frag)(vs:List V)(H:Hp)(Q:VK)(E:XK):Prop
 | mk (v:V)(t:Value)(lo hi:Int):vs=[v,.int lo,.int hi]->Thg K H v t->Q (.bl (ku v lo hi)) H->spQW K vs H Q E
theorem y_:Ok F F.r.d_is_number 1 (spQ K isI):=by
 refine F.r.d_is_number.go fun sc H Q hr h=>?_;obtain⟨v,t,rfl,x,k⟩:=h;refine⟨_,(ao (bc (gf (aR fF rfl F.r.T.n_isinstance cx (pa2 (pv 0) (gH (v:=.ty "int") rfl F.r.T.n_int v6 rfl))) (eP (vJ (aR fF rfl F.r.T.n_isinstance cx (pa2 (pv 0) (gH (v:=.ty "bool") rfl F.r.T.n_bool uc rfl)))))))),?_⟩;walk
 refine⟨_,_,_,_,rfl,x,.inl ⟨"int",rfl,u9 x⟩,?_⟩;have i2:=tD x;cases v with
 | int i=>
  walk;refine gC ?_;walk;refine⟨_,_,_,_,rfl,x,.inl ⟨"bool",rfl,i2⟩,?_⟩;walk;exact k
 | bl b=>
  walk;refine gC ?_;walk;refine⟨_,_,_,_,rfl,x,.inl ⟨"bool",rfl,i2⟩,?_⟩;walk;exact k
 | _=>
  walk;exact fY k
theorem AY:Ok F F.r.d_is_whole 2 (spQW K):=by
 refine F.r.d_is_whole.go fun sc H Q hr h=>?_;obtain⟨v,t,lo,hi,rfl,x,k⟩:=h;refine⟨_,(ao (bc (gf (cc (y_ F) hr (pa1 (pv 0))) (eP (pZ oy oy (pv 1) (pv 0) (pv 2)))))),?_⟩;walk;refine⟨v,t,rfl,x,?_⟩;cases v with
 | int i=>
  walk;have k':Q (.bl (decide (lo<=i)&&decide (i<=hi))) H:=k;refine gC ?_;walk;refine zD (fun c=>?_) (fun c=>?_)
  ·walk;rw[c,Bool.true_and] at k';exact k'
  ·rw[Bool.eq_false_iff.mpr c,Bool.false_and] at k';exact k'
 | _=>
  walk;exact fY k
theorem wT:Ok F F.r.d_is_count 3 (spQ K zY):=by
 obtain⟨t_GREATEST_COUNT,c_GREATEST_COUNT⟩:=F.r.T.c_cnt;refine F.r.d_is_count.go fun sc H Q hr h=>?_;obtain⟨v,t,rfl,x,k⟩:=h;refine⟨_,(ao (bc (cc (AY F) hr (pa3 (pv 0) ap (eA (v:=.int (1000000)) rfl c_GREATEST_COUNT ⟨t_GREATEST_COUNT,rfl⟩))))),?_⟩;exact⟨_,rfl,v,t,_,_,rfl,x,k⟩
theorem y6:Ok F F.r.d_is_place 2 (spQ K ss):=by
 refine F.r.d_is_place.go fun sc H Q hr h=>?_;obtain⟨v,t,rfl,x,k⟩:=h;refine⟨_,(ao (bc (gf (cc (y_ F) hr (pa1 (pv 0))) (eP (eB wQ (pv 0) ap (gw _)))))),?_⟩;walk;refine⟨v,t,rfl,x,?_⟩;cases v with
 | int i=>
  walk;refine gC ?_;walk;exact k
 | _=>
  walk;exact fY k
inductive Tn (c:Cs)(H:Hp):V->Option ND->Prop
 | no (i:Int):0<=i->i<=1000000->Tn c H (.int i) none
 | yes (t pg:Addr) (n:ND):H t=some (.tup [.int n.lv,.ref pg,oV n.hi,oV n.rt,.int 1])->Pg c.pg H pg n.lv n.ks n.gs->0<=n.lv->n.lv<=60->n.ho=none->n.wr=false->Tn c H (.ref t) (some n)
def Tns (c:Cs)(H:Hp)(xs:List V)(os:List (Option ND)):Prop:=xs.length=os.length/\∀(i:Nat) x o,xs[i]?=some x->os[i]?=some o->Tn c H x o
theorem Tn.same {o:Option ND}(x:Tn c H v o)(S:aQ H H'):Tn c H' v o:=by
 cases x with
 | no i a b=>exact .no i a b
 | yes t pg n e g a b d f=>exact .yes t pg n (S _ _ e) (g.same S) a b d f
theorem Tns.same (x:Tns c H xs os)(S:aQ H H'):Tns c H' xs os:=⟨x.1,fun i v o a b=>(x.2 i v o a b).same S⟩
def jw (os:List (Option ND))(i:Nat):Bool:=(os[i]?.getD none).isSome
def eQ (xs:List V)(os:List (Option ND))(b:Bool)(n:Nat):List (Key×V):=(List.range n).filterMap fun i=>if jw os i=b then (xs[i]?).map fun x=>(Sum.inl (i:Int),x) else none
theorem gV {b:Bool}{x}(h:xs[n]?=some x):eQ xs os b (n+1)=if jw os n=b then eQ xs os b n++[(Sum.inl (n:Int),x)] else eQ xs os b n:=by
 unfold eQ;rw[range_succ,List.filterMap_append,filterMap_cons,h];split
 ·next e=>rw[aA (fun z=>by rw[aH z] at e;cases e)];simp
 ·next v e=>
  by_cases z:jw os n=b
  ·rw[aH z] at e ⊢;cases e;rfl
  ·rw[aA z] at e;cases e
theorem gE {b k x}(h:(k,x)∈eQ xs os b n):∃i:Nat,i<n/\k=Sum.inl (i:Int)/\xs[i]?=some x/\jw os i=b:=by
 unfold eQ at h;obtain⟨i,hi,e⟩:=mem_filterMap.mp h;by_cases z:jw os i=b
 ·rw[aH z] at e;obtain⟨y,ey,q⟩:=bt.mp e;cases q;exact⟨i,mem_range.mp hi,rfl,ey,z⟩
 ·rw[aA z] at e;cases e
theorem iu {b}:cf (eQ xs os b n) (Sum.inl (n:Int))=none:=by
 cases e:cf (eQ xs os b n) (Sum.inl (n:Int)) with
 | none=>rfl
 | some v=>
  obtain⟨p,hp,ek⟩:=bC.mp (jJ e);obtain⟨k,x⟩:=p;obtain⟨i,hi,e1,_⟩:=gE hp;have:(Sum.inl (i:Int):Key)=Sum.inl (n:Int):=e1.symm.trans ek;have:=Sum.inl.inj this
  lia
theorem iw {b}:(eQ xs os b n).length<=n:=bh (List.length_filterMap_le _ _) (by rw[length_range];exact aE _)
theorem qz:kitOne K (.type "tuple") (.type "tuple")=some true:=by kernel_rfl
theorem xB:kitOne K (.type "int") (.type "tuple")=some false:=by kernel_rfl
theorem Tn.inst {o:Option ND}(x:Tn c H v o):∃t,Thg K H v t/\kitOne K t (.type "tuple")=some o.isSome:=by
 cases x with
 | no i a b=>exact⟨_,.int i,xB⟩
 | yes t pg n e g a b d f=>exact⟨_,.tup e,qz⟩
inductive spTold (c:Cs)(vs:List V)(H:Hp)(Q:VK)(E:XK):Prop
 | mk (l:Addr)(xs:List V)(os:List (Option ND)):vs=[.ref l]->H l=some (.lst xs)->Tns c H xs os->xs.length<=500->(∀d H',H d=none->aQ H H'->H' d=some (.dK (eQ xs os true xs.length))->Q (.ref d) H')->spTold c vs H Q E
theorem gq:Ok F F.r.d_told_nodes 1 (spTold c):=by
 refine F.r.d_told_nodes.go fun sc H Q hr h=>?_;obtain⟨l,xs,os,rfl,hl,ts,few,k⟩:=h
 refine'⟨_,(ao (bc (yY (dE [] []) rfl (gm rfl F.r.T.n_enumerate dw (pa1 (pv 0))) (fun _ _ _ _ _=>(PTs.one (cv (aR (rB (K:=K) rfl) rfl F.r.T.n_isinstance cx (pa2 (pv 1) (gH (v:=.ty "tuple") rfl F.r.T.n_tuple iU rfl)))))) (fun _ _ _ _ _=>(pv 0)) (fun _ _ _ _ _=>(pv 1))))),?_⟩;walk
 refine fW (J:=ItE K l) (H1:=H) xs.length (fun R z=>?_) (fun D i H2=>aQ H H2/\H2 D=some (.dK (eQ xs os true i))) (fun D f=>⟨aQ.upd f,ae⟩) (fun D i H2 fD lt ⟨S,e⟩=>?_) (fun D H2 fD ⟨S,e⟩=>?_)
 ·exact⟨.ref l,rfl,l,rfl,⟨xs,SqL.of hl⟩,z⟩
 ·have ha:=S _ _ hl;refine⟨kQ ha lt,fun v H3 y R z=>?_⟩;obtain⟨t,x,rfl,ft,ex,rfl⟩:=jb ha y;have io:i<os.length:=by rw[<- ts.1];exact lt
  obtain⟨ty,tg,ki⟩:=((ts.2 i x _ ex (aa io)).same (S.trans (aQ.upd (o:=.tup [.int i,x]) ft))).inst (K:=K);refine⟨t,.int i,x,rfl,SqT.of ae,?_⟩;generalize hG:upd H2 t _=H3 at *;have e3:=nG hG ft e;have S3:=S.trans (sG hG ft);walk;refine⟨x,_,ty,_,rfl,tg,.inl ⟨"tuple",rfl,ki⟩,?_⟩;walk;have na:jw os i=(os[i]).isSome:=by unfold jw;rw[aa io];rfl
  have sc2:=gV (os:=os) (b:=true) ex;rw[na] at sc2;cases eo:(os[i]).isSome with
  | false=>
   rw[eo,aA ay] at sc2;rw[aA ay];exact z H3 ⟨S3,by rw[sc2];exact e3⟩
  | true=>
   rw[eo,aH rfl] at sc2;rw[aH rfl];have tl:=iw (xs:=xs) (os:=os) (b:=true) (n:=i);have:=bp;refine⟨_,rfl,_,rfl,_,.inl (i:Int),e3,rfl,by lia,z _ ⟨fun b o q=>?_,?_⟩⟩
   ·rw[ak (ah q fD)];exact S3 _ _ q
   ·rw[ae,iD _ iu,sc2]
 ·exact⟨gX (S _ _ hl),k D H2 fD S e⟩
inductive spNTN (c:Cs)(vs:List V)(H:Hp)(Q:VK)(E:XK):Prop
 | mk (v:V)(o:Option ND):vs=[v]->Tn c H v o->Q .non H->spNTN c vs H Q E
theorem i9:Ok F F.r.d_need_told_node 5 (spNTN c):=by
 obtain⟨t_MANY_TOLD,c_MANY_TOLD⟩:=F.r.T.c_mt;refine F.r.d_need_told_node.go fun sc H Q hr h=>?_;obtain⟨v,o,rfl,x,k⟩:=h
 refine'⟨_,(ad (bT (cv (cc (wT F) hr (pa1 (pv 0))))
   (ao ow)
   bd)
  (ad (bT (PW.pt (jP (cO (cv (aR fF rfl F.r.T.n_isinstance cx (pa2 (pv 0) (gH (v:=.ty "tuple") rfl F.r.T.n_tuple iU rfl))))) (iC (pc qR (aR bj rfl F.r.T.n_len cS (pa1 (pv 0))) (eA (v:=.int (5)) rfl c_MANY_TOLD ⟨t_MANY_TOLD,rfl⟩)))))
   (ao bQ)
   bd)
  (ad (iF (pv 0) (gc rfl (bn (eO sc 1) (bn (eO sc 2) (bn (eO sc 3) (bn (eO sc 4) (bn (eO sc 5) dS)))))))
  (ad (a_ (cc (iK F) hr (pa1 (pv 1))))
  (ad (a_ (cc (gK F) hr (pa2 (pv 1) (pv 2))))
  (ao (bT (cO (cv (cc (wT F) hr (pa1 (pv 5)))))
   (ao bQ)
   bd))))))),?_⟩
 walk;cases x with
 | no i a b=>
  refine⟨.int i,_,rfl,.int i,?_⟩;rw[show zY (.int i)=true from kA a b];walk;exact k
 | yes t pg n e g a b d f=>
  refine⟨.ref t,_,rfl,.tup e,?_⟩;rw[show zY (.ref t)=false from rfl];walk;refine⟨.ref t,_,_,_,rfl,.tup e,.inl ⟨"tuple",rfl,qz⟩,?_⟩;walk;refine⟨t,_,rfl,.inr (SqT.of e),?_⟩;walk;refine l_ rfl ?_;walk;refine⟨n.lv,rfl,kA a b,?_⟩;walk;refine⟨n.lv,pg,n.ks,n.gs,rfl,g,?_⟩;walk;refine⟨.int 1,_,rfl,.int 1,?_⟩;rw[show zY (.int 1)=true by decide];walk;exact k
def EdK (kvs:List (Key×V))(hi rt:Option Int):Prop:=(hi=none/\rt=none)\/∃k p:Int,hi=some k/\rt=some p/\lh k/\0<=p/\(cf kvs (Sum.inl p)).isSome=true
inductive spNTE (vs:List V)(H:Hp)(Q:VK)(E:XK):Prop
 | mk (hi rt:Option Int)(d:Addr)(kvs:List (Key×V)):vs=[oV hi,oV rt,.ref d]->Rd H d (.dK kvs)->EdK kvs hi rt->Q .non H->spNTE vs H Q E
theorem i_:Ok F F.r.d_need_told_edge 4 spNTE:=by
 refine F.r.d_need_told_edge.go fun sc H Q hr h=>?_;obtain⟨hi,rt,d,kvs,rfl,hd,ed,k⟩:=h
 refine'⟨_,(ad (bT (PW.pt (fM (pc jq (pv 0) bV) (d0 (pc jq (pv 1) bV))))
   (ao ow)
   bd)
  (ao (bT (PW.pt (jP (cO (cv (cc (jV F) hr (pa1 (pv 0))))) (jP (cO (cv (cc (y6 F) hr (pa1 (pv 1))))) (iC (dF gJ (pv 1) (pv 2) (by with_unfolding_all rfl))))))
   (ao bQ)
   bd))),?_⟩
 rcases ed with⟨rfl,rfl⟩|⟨k0,p0,rfl,rfl,hk,p1,hp⟩
 ·walk;refine⟨rfl,?_⟩;walk;refine ik rfl ?_;walk;refine⟨rfl,?_⟩;walk;refine ik rfl ?_;walk;exact k
 ·walk;refine⟨rfl,?_⟩;walk;refine iW nofun ?_;walk;refine⟨k0,rfl,?_⟩;rw[u6 hk];walk;refine⟨.int p0,_,rfl,.int p0,?_⟩;rw[show ss (.int p0)=true from av p1];walk;refine⟨d,kvs,rfl,hd,.inl ⟨.inl p0,rfl,?_⟩⟩;rw[aH rfl,hp];walk;exact k
theorem fZ {xs:List V}{os:List (Option ND)}{b}{j:Nat}{x}(hx:xs[j]?=some x)(hb:jw os j=b):∀{n:Nat},j<n->n<=xs.length->cf (eQ xs os b n) (Sum.inl (j:Int))=some x
 | 0,h,_=>aY h (not_lt_zero _)
 | n+1,h,hn=>by
  have en:=aa hn;rw[gV en];by_cases e:j=n
  ·subst e;rw[aH hb,im _ _ _ _ iu,aH rfl];exact(en.symm.trans hx)
  ·have ih:=fZ hx hb (n:=n) (by lia) (by lia);split
   ·rw[im _ _ _ _ iu,aA (fun z=>e (by have:=Sum.inl.inj z;lia))];exact ih
   ·exact ih
theorem jO {g:TG}{n bk:St->Hp->Prop}(m:Nat)(Pv:Nat->St->Hp->Prop)(h0:Pv 0 σ H)
  (hs:∀i σ H,i<m->Pv i σ H->J.go i H/\∀x H',J.yld i H x H'->g x σ H' fun σ2 H2=>tb ⟨Pv (i+1),rt,n,Pv (i+1)⟩ σ2 H2) (hd:∀σ H,Pv m σ H->J.stop m H/\n σ H):As J g tb ⟨n,rt,bk,ct⟩ σ H:=by
 refine⟨fun i k σ H=>k=m - i/\i<=m/\Pv i σ H,⟨m,rfl,zero_le _,h0⟩,?_⟩;rintro i k σ H ⟨rfl,hi,p⟩;by_cases lt:i<m
 ·obtain⟨gg,st⟩:=hs i σ H lt p;exact .inr ⟨gg,Pv (i+1),fun σ' H' p'=>⟨m - (i+1),by lia,rfl,lt,p'⟩,st⟩
 ·have e:i=m:=by lia
  subst e;exact .inl (hd σ H p)
def EdO (os:List (Option ND))(hi rt:Option Int):Prop:=(hi=none/\rt=none)\/∃(k:Int) (p:Nat),hi=some k/\rt=some (p:Int)/\lh k/\p<os.length/\jw os p=true
theorem EdO.k {rt:Option Int}(h:EdO os hi rt)(l:xs.length=os.length):EdK (eQ xs os true xs.length) hi rt:=by
 rcases h with h|⟨k,p,e1,e2,hk,hp,hn⟩
 ·exact .inl h
 ·have pl:p<xs.length:=by lia
  exact .inr ⟨k,p,e1,e2,hk,natCast_nonneg _,by rw[fZ (aa pl) hn pl (by lia)];rfl⟩
inductive spNTs (c:Cs)(vs:List V)(H:Hp)(Q:VK)(E:XK):Prop
 | mk (l:Addr)(xs:List V)(os:List (Option ND)):vs=[.ref l]->H l=some (.lst xs)->Tns c H xs os->xs≠[]->xs.length<=500->(∀(i:Nat) n,os[i]?=some (some n)->EdO os n.hi n.rt)->(∀H',aQ H H'->Q .non H')->spNTs c vs H Q E
theorem iJ:Ok F F.r.d_need_told_nodes 6 (spNTs c):=by
 refine F.r.d_need_told_nodes.go fun sc H Q hr h=>?_;obtain⟨l,xs,os,rfl,hl,ts,ne,few,ed,k⟩:=h
 refine'⟨_,(ad (bT (PW.pt (jP (cO (cv (cc (p_ F) hr (pa1 (pv 0))))) (iC (pc fJ (aR bj rfl F.r.T.n_len cS (pa1 (pv 0))) ap))))
   (ao bQ)
   bd)
  (ad (dC PassesOwn.never rfl (dm (pv 0)) (eO sc 1)
   (ao (a_ (cc (i9 F) hr (pa1 (pv 1))))))
  (ad (cD sc 2 (cc (gq F) hr (pa1 (pv 0))))
  (ao (dC PassesOwn.never rfl (sv (pv 2)) (gc rfl (bn (eO sc 3) (bn (eO sc 4) (bn (eO sc 5) (bn (eO sc 6) (bn (eO sc 7) dS))))))
   (ao (a_ (cc (i_ F) hr (pa3 (pv 5) (pv 6) (pv 2)))))))))),?_⟩
 walk;refine⟨l,xs,rfl,hl,fun H1 S1=>?_⟩;walk;refine⟨l,_,rfl,.inl (SqL.of (S1 _ _ hl)),?_⟩;walk;refine iW (fun z=>ne (List.eq_nil_of_length_eq_zero (by have:=V.int.inj z;lia))) ?_;walk;refine pM (xs:=xs) (fun i σ H2=>aQ H H2/\∃o1,σ=[some (.ref l),o1,none,none,none,none,none,none]) ⟨S1,_,rfl⟩ (fun i σ H2 _ z=>z.1 _ _ hl) ?_ ?_
 ·rintro i x σ H2 ex ⟨S2,o1,rfl⟩;have io:i<os.length:=by rw[<- ts.1];exact(aq.mp ex).1
  walk;refine⟨x,os[i],rfl,(ts.2 i x _ ex (aa io)).same S2,?_⟩;walk;exact⟨S2,_,rfl⟩
 rintro σ H2 ⟨S2,o1,rfl⟩;walk;refine⟨l,xs,os,rfl,S2 _ _ hl,ts.same S2,few,fun d H3 fd S3 e3=>?_⟩;walk;refine⟨.ref d,rfl,d,_,rfl,e3,fun ob=>?_⟩;generalize hG:upd H3 d _=H4 at *;have S4:aQ H H4:=fun b o z=>by rw[<- hG,ak (ah (S2 _ _ z) fd)];exact S3 _ _ (S2 _ _ z)
 refine jO (eQ xs os true xs.length).length (fun i σ H5=>aQ H H5/\H5 d=some (.frz ob (.dK (eQ xs os true xs.length)))/\∃o3 o4 o5 o6 o7,σ=[some (.ref l),o1,some (.ref d),o3,o4,o5,o6,o7]) ⟨S4,(eG hG),_,_,_,_,_,rfl⟩ ?_ ?_
 ·rintro i σ H5 lt ⟨S5,e5,o3,o4,o5,o6,o7,rfl⟩;refine⟨⟨e5,lt⟩,fun v H6 y=>?_⟩;obtain⟨rfl,k0,ek⟩:=y;obtain⟨j,jl,_,ej,nj⟩:=gE (aK ek);have jo:j<os.length:=by rw[<- ts.1];exact jl
  have tn:=(ts.2 j v _ ej (aa jo)).same S5;have eo:=aa jo;have ns:(os[j]).isSome=true:=by unfold jw at nj;rw[eo] at nj;exact nj
  generalize os[j]=oj at *;cases tn with
  | no i a b=>cases ns
  | yes t pg n e g a b dd f=>
   walk;refine⟨n.hi,n.rt,d,_,rfl,.inr ⟨ob,e5⟩,(ed j n eo).k ts.1,?_⟩;walk;exact⟨S5,e5,_,_,_,_,_,rfl⟩
 ·rintro σ H5 ⟨S5,e5,o3,o4,o5,o6,o7,rfl⟩;exact⟨⟨e5,aE _⟩,k H5 S5⟩
def ig (os:List (Option ND))(b:Bool)(n:Nat):List Int:=((List.range n).filter fun i=>decide (jw os i=b)).map fun i:Nat=>(i:Int)
theorem gk {b}{p:Int}:p∈ig os b n ↔ ∃i:Nat,i<n/\p=(i:Int)/\jw os i=b:=by
 unfold ig;constructor
 ·intro h;obtain⟨i,hi,rfl⟩:=bC.mp h;obtain⟨h1,h2⟩:=bZ.mp hi;exact⟨i,mem_range.mp h1,rfl,bB h2⟩
 ·rintro⟨i,h1,rfl,h2⟩;exact bC.mpr ⟨i,bZ.mpr ⟨mem_range.mpr h1,av h2⟩,rfl⟩
theorem lJ {b}:(ig os b n).Nodup:=by
 unfold ig;refine(List.nodup_range.filter _).map _ ?_;intro i j h e;exact h (Int.ofNat.inj e)
theorem pT {b}:(ig os b n).length<=n:=by
 unfold ig;rw[af];exact bh (bF _ _) (by rw[length_range];exact aE _)
theorem jR {b:Bool}:ig os b (n+1)=if jw os n=b then ig os b n++[(n:Int)] else ig os b n:=by
 unfold ig;rw[range_succ,filter_append,aW];by_cases z:jw os n=b
 ·rw[aH z,filter_cons_of_pos (by rw[av z]),filter_nil];rfl
 ·rw[aA z,filter_cons_of_neg (by rw[aF z];exact ay),filter_nil,map_nil,b_]
theorem iY {xs:List V}{os:List (Option ND)}{b}:∀{n:Nat},n<=xs.length->(eQ xs os b n).map (·.1)=(ig os b n).map Sum.inl
 | 0,_=>rfl
 | n+1,h=>by
  rw[gV (aa h),jR];have ih:=iY (xs:=xs) (os:=os) (b:=b) (n:=n) (dY h);split
  ·rw[aW,aW,ih];rfl
  ·exact ih
theorem uy {b}(h:jw os j≠b):cf (eQ xs os b n) (Sum.inl (j:Int))=none:=by
 cases e:cf (eQ xs os b n) (Sum.inl (j:Int)) with
 | none=>rfl
 | some v=>
  obtain⟨p,hp,ek⟩:=bC.mp (jJ e);obtain⟨k,x⟩:=p;obtain⟨i,hi,e1,_,hb⟩:=gE hp;have:(Sum.inl (i:Int):Key)=Sum.inl (j:Int):=e1.symm.trans ek;have:=Sum.inl.inj this;exact aY (by rw[<- show i=j by lia];exact hb) h
theorem rM {b}(h:n<=j):cf (eQ xs os b n) (Sum.inl (j:Int))=none:=by
 cases e:cf (eQ xs os b n) (Sum.inl (j:Int)) with
 | none=>rfl
 | some v=>
  obtain⟨p,hp,ek⟩:=bC.mp (jJ e);obtain⟨k,x⟩:=p;obtain⟨i,hi,e1,_⟩:=gE hp;have:(Sum.inl (i:Int):Key)=Sum.inl (j:Int):=e1.symm.trans ek;have:=Sum.inl.inj this
  lia
theorem jS {os:List (Option ND)}:∀n:Nat,(ig os true n++ig os false n).length=n
 | 0=>rfl
 | n+1=>by
  have ih:=jS (os:=os) n;rw[am] at ih ⊢;rw[jR,jR];cases jw os n<;>simp<;>lia
theorem AG:RS.Ok ⟨lap,ig os true n,[],ig os false n,[]⟩:=by
 have e:RS.places ⟨lap,ig os true n,[],ig os false n,[]⟩=ig os true n++ig os false n:=by unfold RS.places;rw[map_nil,b_]
 refine⟨?_,fun p hp=>?_,.nil,nofun⟩
 ·rw[e];refine bW.mpr ⟨lJ,lJ,fun a ha b hb q=>?_⟩;obtain⟨i,_,e1,h1⟩:=gk.mp ha;obtain⟨j,_,e2,h2⟩:=gk.mp hb;have:i=j:=by lia
  rw[this,h2] at h1;cases h1
 ·rw[e] at hp ⊢;rw[jS];rcases aT.mp hp with h|h
  ·obtain⟨i,h1,e1,_⟩:=gk.mp h;lia
  ·obtain⟨i,h1,e1,_⟩:=gk.mp h;lia
def xT (os:List (Option ND))(p:Int):Option ND:=if 0<=p then (os[p.toNat]?).getD none else none
structure Made (c:Cs)(x:Addr)(H H':Hp)(a:TA)(most:Int)(top:Option Int)(lap:Int)(os:List (Option ND)):Prop where
 t:IsT c a H' x ⟨most,top,xT os,⟨lap,ig os true os.length,[],ig os false os.length,[]⟩,2 * os.length⟩
 old:But x H H'
 new:∀b∈[a.r,a.du,a.dk,a.df,a.dc,a.dn,a.dv],H b=none
 nod:∀p q,cf a.kn (Sum.inl p)=some (.ref q)->H q=none
 vf:∀p∈ig os false os.length,∃i:Int,cf a.kv (Sum.inl p)=some (.int i)
 vn:∀j:Nat,os.length<=j->cf a.kv (Sum.inl (j:Int))=none
inductive spPT (c:Cs)(vs:List V)(H:Hp)(Q:VK)(E:XK):Prop
 | mk (x dx r0 dn0 dv0 l:Addr)(most lap tp:Int)(xs:List V)(os:List (Option ND)):vs=[.ref x,.int lap,.ref l]->H x=some (.ins c.T dx (tF most r0 dn0 dv0 (some tp)))->H l=some (.lst xs)->Tns c H xs os->xs.length<=200->(∀a H',Made c x H H' a most (some tp) lap os->Q .non H')->spPT c vs H Q E
theorem oB:Ok F F.r.d_put_told 5 (spPT c):=by
 obtain⟨fN,fdN,XNode⟩:=F.NX;obtain⟨f,fd,X⟩:=F.TX;have T:=F.r.T;have GNode:iX P w K mg base CX0 1 fN fdN ["self","level","bears","high","right"] (spNode c.N):=lP XNode T;obtain⟨_,_,_,_,cl,n1,n2,n3,n4,n5⟩:=X;refine F.r.d_put_told.go fun sc H Q hr h=>?_;obtain⟨x,dx,r0,dn0,dv0,l,most,lap,tp,xs,os,rfl,hx,hl,ts,few,k⟩:=h
 refine'⟨_,(ad (kF (i:=3) sc.nd rfl (Or.inr rfl) (cc (gq F) hr (pa1 (pv 2))))
  (ad (yR (i:=6) (dE ["told"] [3]) rfl (gm rfl T.n_enumerate dw (pa1 (pv 2))) (fun _ _ _ _ _=>(PTs.one (dF gJ (pv 0) (pv 2) (by with_unfolding_all rfl)))) (fun _ _ _ _ _=>(pv 0)) (fun _ _ _ _ _=>(pv 1)) sc.nd rfl rfl)
  (ad (cQ (pv 0) (cc (mP F) hr (pa3 (pv 1) (cF (jf (hr.hd rfl)) rfl T.n_list dX (pa1 (pv 3))) (cF (jf (hr.hd rfl)) rfl T.n_list dX (pa1 (pv 6))))) rfl)
  (ad (cQ (pv 0) fO rfl)
  (ad (cQ (pv 0) (pv 6) rfl)
  (ao (dC PassesOwn.never rfl (pU (pv 3)) (gc rfl (bn (eO sc 4) (bn (gc rfl (bn (eO sc 7) (bn (eO sc 8) (bn (eO sc 9) (bn (eO sc 10) (bn (eO sc 5) dS)))))) dS)))
   (ad (dH (dt hr) (bu (pv 0) rfl) (pv 4) (d_ XNode.mak GNode (hr.mono (by decide)) rfl XNode.m XNode.bi .nil fH (pa4 (pv 7) (pv 8) (pv 9) (pv 10))) rfl)
  (ao (dH (dt hr) (bu (pv 0) rfl) (pv 4) (pv 5) rfl)))))))))),?_⟩
 have big:=bp;walk;refine⟨l,xs,os,rfl,hl,ts,by lia,fun d H1 fd S1 e1=>?_⟩;have hx1:=S1 _ _ hx;walk;refine fW (J:=ItE K l) (H1:=H1) xs.length (fun R z=>?_) (fun D i H2=>aQ H1 H2/\H2 D=some (.dK (eQ xs os false i))) (fun D f=>⟨aQ.upd f,ae⟩) (fun D i H2 fD lt ⟨S,e⟩=>?_) (fun D H2 fD ⟨S,e⟩=>?_)
 ·exact⟨.ref l,rfl,l,rfl,⟨xs,SqL.of (S1 _ _ hl)⟩,z⟩
 ·have ha:=S _ _ (S1 _ _ hl);refine⟨kQ ha lt,fun v H3 y R z=>?_⟩;obtain⟨t,x',rfl,ft,ex,rfl⟩:=jb ha y;refine⟨t,.int i,x',rfl,SqT.of ae,?_⟩;generalize hG:upd H2 t _=H3 at *;have e3:=nG hG ft e;have S3:=S.trans (sG hG ft);walk;refine⟨d,_,rfl,.inl (S3 _ _ e1),.inl ⟨.inl (i:Int),rfl,?_⟩⟩;have sc2:=gV (os:=os) (b:=false) ex;cases eo:jw os i with
  | true=>
   rw[eo,aA (by decide)] at sc2;rw[fZ ex eo lt (by lia)];walk;exact z H3 ⟨S3,by rw[sc2];exact e3⟩
  | false=>
   rw[eo,aH rfl] at sc2;rw[uy (b:=true) (by rw[eo];decide)];walk;have tl:=iw (xs:=xs) (os:=os) (b:=false) (n:=i);refine⟨_,rfl,_,rfl,_,.inl (i:Int),e3,rfl,by lia,z _ ⟨fun b o q=>?_,?_⟩⟩
   ·rw[ak (ah q fD)];exact S3 _ _ q
   ·rw[ae,iD _ iu,sc2]
 refine⟨gX (S _ _ (S1 _ _ hl)),?_⟩;walk;have pl1:=pT (os:=os) (b:=true) (n:=xs.length);have pl2:=pT (os:=os) (b:=false) (n:=xs.length);refine⟨d,_,ig os true xs.length,rfl,.inl (S _ _ e1),iY (by lia),fun l1 f1=>?_⟩;generalize hG:upd H2 l1 _=H3 at *;have T3:=sG hG f1;have g1:=eG hG;walk
 refine⟨D,_,ig os false xs.length,rfl,.inl (T3 _ _ e),iY (by lia),fun l2 f2=>?_⟩;generalize hG:upd H3 l2 _=H4 at *;have T4:=sG hG f2;have g2:=eG hG;walk;refine⟨lap,l1,l2,_,_,rfl,T4 _ _ g1,g2,lJ,lJ,by lia,by lia,fun r dr du dk df dc H5 fr fnew T5 r5=>?_⟩;have S5:=S.trans (T3.trans (T4.trans T5));have hx5:=S5 _ _ hx1
 have back:∀{b:Addr},H4 b=none->H b=none:=fun z=>S1.free (S.free (T3.free (T4.free z)));have eD:=T5 _ _ (T4 _ _ (T3 _ _ e));have ed5:=S5 _ _ e1;walk;generalize hG:upd H5 x _=H6 at *;have e6:=eG hG;have B6:But x H5 H6:=fun b o z n=>by rw[<- hG,ak n];exact z
 intro dn fn;walk;have nn:=(ah e6 fn).symm;generalize hG:upd (upd (upd H6 dn (.dK [])) x _) x _=H7 at *;have e7:H7 x=some (.ins c.T dx (tF most r dn D (some tp))):=hG▸ae;have n7:H7 dn=some (.dK []):=by rw[<- hG,ak nn,ak nn,ae]
 have B7:But x H6 H7:=fun b o z n=>by rw[<- hG,ak n,ak n];exact cm fn z
 have dx1:∀{b:Addr} {q:List (Key×V)},H5 b=some (.dK q)->b≠x:=fun z n=>by rw[n,S5 _ _ hx1] at z;cases z
 have old7:∀{b:Addr} {o:HO},H5 b=some o->b≠x->H7 b=some o:=fun z n=>B7 _ _ (B6 _ _ z n) n;have ndn:∀{b:Addr} {o:HO},H5 b=some o->b≠x->b≠dn:=fun z n=>ah (B6 _ _ z n) fn;refine⟨.ref d,rfl,d,_,rfl,(old7 ed5 (dx1 ed5)),fun ob=>?_⟩;generalize hk:eQ xs os true xs.length=kvs at *;generalize hG:upd H7 d _=H8 at *
 have e8:H8 x=some (.ins c.T dx (tF most r dn D (some tp))):=by rw[<- hG,ak (dx1 ed5).symm];exact e7
 have d8:=eG hG;have n8:H8 dn=some (.dK []):=by rw[<- hG,ak (ndn ed5 (dx1 ed5)).symm];exact n7
 have D8:H8 D=some (.dK (eQ xs os false xs.length)):=by rw[<- hG,ak (ah e1 fD).symm];exact(old7 eD (dx1 eD))
 have B8:∀b o,H5 b=some o->b≠x->b≠d->H8 b=some o:=fun b o z n n'=>by rw[<- hG,ak n'];exact old7 z n
 have S05:=S1.trans S5;have nd0:∀{b:Addr} {o:HO},H b=some o->b≠d:=fun z=>ah z fd
 have ts8:∀(j:Nat) v o,xs[j]?=some v->os[j]?=some o->Tn c H8 v o:=fun j v o h1 h2=>by
  cases ts.2 j v o h1 h2 with
  | no i a b=>exact .no i a b
  | yes t pg n e g a b e' f'=>
   obtain⟨dg,tk,tg,q1,q2,q3⟩:=g;have nx:∀{b:Addr} {o:HO},H b=some o->(∀C d f,o≠.ins C d f)->b≠x:=fun z n w=>by rw[w,hx] at z;cases z;exact n _ _ _ rfl
   have np:pg≠x:=fun w=>by
    rw[w,hx] at q1;have:=(HO.ins.inj (aw q1)).2.2;simp[PgF,tF] at this
   exact .yes t pg n (B8 _ _ (S05 _ _ e) (nx e nofun) (nd0 e)) ⟨dg,tk,tg,B8 _ _ (S05 _ _ q1) np (nd0 q1),B8 _ _ (S05 _ _ q2) (nx q2 nofun) (nd0 q2),B8 _ _ (S05 _ _ q3) (nx q3 nofun) (nd0 q3)⟩ a b e' f'
 have kl:kvs.length<=xs.length:=by rw[<- hk];exact iw
 refine jO kvs.length (fun i σ H9=>∃(kn kv:List (Key×V)) (o4 o5 o7 o8 o9 o10:Option V),σ=[some (.ref x),some (.int lap),some (.ref l),some (.ref d),o4,o5,some (.ref D),o7,o8,o9,o10]/\(∀b o,H8 b=some o->b≠dn->b≠D->H9 b=some o)/\H9 dn=some (.dK kn)/\H9 D=some (.dK kv)/\kn.length<=i/\kv.length<=xs.length+i /\
  (∀(j:Nat) n m v,m<i->kvs[m]?=some (Sum.inl (j:Int),v)->os[j]?=some (some n)->(∃q,cf kn (Sum.inl (j:Int))=some (.ref q)/\IsN c H9 q n)/\∃u:Int,cf kv (Sum.inl (j:Int))=some (.int u)) /\
  (∀p q,cf kn (Sum.inl p)=some (.ref q)->H8 q=none)/\(∀(p:Nat) u,jw os p=false->cf (eQ xs os false xs.length) (Sum.inl (p:Int))=some u->cf kv (Sum.inl (p:Int))=some u)/\∀j:Nat,xs.length<=j->cf kv (Sum.inl (j:Int))=none) ⟨[],_,_,_,_,_,_,_,rfl,fun b o z _ _=>z,n8,D8,aE _,iw,fun _ _ _ _ z=>aY z (not_lt_zero _),fun p q z=>(by cases z),fun _ _ _ z=>z,fun _ z=>rM z⟩ ?_ ?_
 ·rintro i σ H9 lt ⟨kn,kv,o4,o5,o7,o8,o9,o10,rfl,K9,en,eV,ln,lv,nod,nq,vf,vn⟩;have nde:∀{b:Addr} {o:HO},H8 b=some o->(∀q,o≠.dK q)->H9 b=some o:=fun {b o} z n=>K9 b o z (fun w=>by rw[w,n8] at z;cases z;exact n _ rfl) (fun w=>by rw[w,D8] at z;cases z;exact n _ rfl);refine⟨⟨nde d8 nofun,lt⟩,fun v H10 y=>?_⟩;obtain⟨t0,k0,u0,rfl,ft0,ek,rfl⟩:=y
  obtain⟨j,jl,rfl,ej,nj⟩:=gE (hk▸aK ek);have jo:j<os.length:=by rw[<- ts.1];exact jl
  have eo:=aa jo;have tn:=ts8 j u0 _ ej eo;have ns:(os[j]).isSome=true:=by unfold jw at nj;rw[eo] at nj;exact nj
  generalize os[j]=oj at *;cases tn with
  | no i a b=>cases ns
  | yes t pg n e g a b e' f'=>
   obtain⟨dg,tk,tg,p1,p2,p3⟩:=g;have T10:=aQ.upd (H:=H9) (o:=.tup [.int (j:Int),.ref t]) ft0;have et0:upd H9 t0 (.tup [.int (j:Int),.ref t]) t0=some (.tup [.int (j:Int),.ref t]):=ae;change zU K _ _ _ _ (upd H9 t0 (.tup [.int (j:Int),.ref t])) _;generalize upd H9 t0 (.tup [.int (j:Int),.ref t])=H10 at *;have et:=T10 _ _ (nde e nofun);walk;intro y dy fy fdy ndy
   refine⟨y,dy,pg,n.lv,n.hi,n.rt,rfl,ae,fun H11 q11 k11=>⟨rfl,?_⟩⟩;have S11:aQ H10 H11:=fun b o z=>k11 b o (dW fy fdy z) (ah z fy);have S9:=T10.trans S11;have hx11:=S11 _ _ (T10 _ _ (nde e8 nofun));have en11:=S9 _ _ en;have nDd:=ndn eD (dx1 eD);walk;refine eF (k:=Sum.inl (j:Int)) en11 (by lia) ?_
   have eV12:upd H11 dn (.dK (db kn (Sum.inl (j:Int)) (.ref y))) D=some (.dK kv):=by rw[ak nDd];exact(S9 _ _ eV)
   have hx12:upd H11 dn (.dK (db kn (Sum.inl (j:Int)) (.ref y))) x=some (.ins c.T dx (tF most r dn D (some tp))):=by rw[ak nn.symm];exact hx11
   walk;refine eF (k:=Sum.inl (j:Int)) eV12 (by lia) ?_;have i0:IsN c H11 y n:=⟨dy,pg,by rw[e',f'];exact q11,dg,tk,tg,S9 _ _ (nde p1 nofun),S9 _ _ (nde p2 nofun),S9 _ _ (nde p3 nofun)⟩;have up:∀{q:Addr} {m:ND},IsN c H11 q m->IsN c (upd (upd H11 dn (.dK (db kn (Sum.inl (j:Int)) (.ref y)))) D (.dK (db kv (Sum.inl (j:Int)) (.int 1)))) q m:=fun z=>(z.dict en11).dict eV12
   refine⟨db kn (Sum.inl (j:Int)) (.ref y),db kv (Sum.inl (j:Int)) (.int 1),_,_,_,_,_,_,rfl,fun b o z m1 m2=>?_,?_,ae,bh (cZ ..) (by lia),bh (cZ ..) (by lia),fun j' n' m v hm hv ho=>?_,fun p q hq=>?_,fun p u hp hu=>?_,?_⟩
   ·rw[ak m2,ak m1];exact S9 _ _ (K9 b o z m1 m2)
   ·rw[ak nDd.symm,ae]
   ·by_cases c0:j'=j
    ·subst c0;have:some n'=some n:=aw (ho.symm.trans eo);cases this;exact⟨⟨y,by rw[cw,aH rfl],up i0⟩,1,by rw[cw,aH rfl]⟩
    ·have nk:(Sum.inl (j':Int):Key)≠Sum.inl (j:Int):=fun z=>c0 (by have:=Sum.inl.inj z;lia)
     have hm':m<i:=by
      rcases lt_or_ge m i with z|z
      ·exact z
      ·have:m=i:=by lia
       rw[this,ek] at hv;exact aY (bq Prod.fst (aw hv)).symm nk
     obtain⟨⟨q,q1,q2⟩,u,q3⟩:=nod j' n' m v hm' hv ho;exact⟨⟨q,by rw[cw,aA nk];exact q1,up (q2.same S9)⟩,u,by rw[cw,aA nk];exact q3⟩
   ·rw[cw] at hq;by_cases c0:(Sum.inl p:Key)=Sum.inl (j:Int)
    ·rw[aH c0] at hq;cases hq;cases q0:H8 y with
     | none=>rfl
     | some o=>
      have y9:=T10.free fy;by_cases c1:y=dn
      ·rw[c1,en] at y9;cases y9
      ·by_cases c2:y=D
       ·rw[c2,eV] at y9;cases y9
       ·rw[K9 y o q0 c1 c2] at y9;cases y9
    ·rw[aA c0] at hq;exact nq p q hq
   ·rw[cw,aA (fun z=>by
     have:p=j:=by have:=Sum.inl.inj z;lia
     rw[this,nj] at hp;cases hp)]
    exact vf p u hp hu
   ·intro j' jl';rw[cw,aA (fun z=>by have:=Sum.inl.inj z;lia)];exact vn j' jl'
 ·rintro σ H9 ⟨kn,kv,o4,o5,o7,o8,o9,o10,rfl,K9,en,eV,ln,lv,nod,nq,vf,vn⟩;have nde:∀{b:Addr} {o:HO},H8 b=some o->(∀q,o≠.dK q)->H9 b=some o:=fun {b o} z n=>K9 b o z (fun w=>by rw[w,n8] at z;cases z;exact n _ rfl) (fun w=>by rw[w,D8] at z;cases z;exact n _ rfl);have H4d:=T4 _ _ (T3 _ _ (S _ _ e1))
  have o9:∀{b:Addr} {o:HO},H5 b=some o->b≠x->b≠d->b≠D->H9 b=some o:=fun {b o} z m1 m2 m3=>K9 b o (B8 b o z m1 m2) (ndn z m1) m3;have rx:r≠x:=fun z=>by have:=T4 _ _ (T3 _ _ (S _ _ hx1));rw[<- z,fr] at this;cases this
  have fw:∀{b:Addr},b∈[du,dk,df,dc]->b≠d/\b≠D:=fun {b} hb=>⟨(ah H4d (fnew b hb)).symm,(ah (T4 _ _ (T3 _ _ e)) (fnew b hb)).symm⟩;have r9:∀{b:Addr} {q:List (Key×V)},b∈[du,dk,df,dc]->H5 b=some (.dK q)->H9 b=some (.dK q):=fun hb z=>o9 z (dx1 z) (fw hb).1 (fw hb).2;have lo:=ts.1
  have find:∀(j:Nat) n,os[j]?=some (some n)->∃m v,m<kvs.length/\kvs[m]?=some (Sum.inl (j:Int),v):=fun j n ho=>by
   have jl:j<xs.length:=by rw[lo];exact(aq.mp ho).1
   have nj:jw os j=true:=by unfold jw;rw[ho];rfl
   have:=fZ (aa jl) nj jl (by lia);rw[hk] at this;obtain⟨⟨k1,v1⟩,hp,ek⟩:=bC.mp (jJ this);obtain⟨m,hm⟩:=List.mem_iff_getElem?.mp hp;exact⟨m,v1,(aq.mp hm).1,by rw[hm];exact bq (fun z=>some (z,v1)) ek⟩
  have isNd:∀p n,xT os p=some n->∃j:Nat,p=(j:Int)/\os[j]?=some (some n):=fun p n h=>by
   unfold xT at h;by_cases c0:0<=p
   ·rw[aH c0] at h;refine⟨p.toNat,by lia,?_⟩;cases q:os[p.toNat]? with
    | none=>rw[q] at h;cases h
    | some o=>rw[q] at h;rw[show o=some n from h]
   ·rw[aA c0] at h;cases h
  refine⟨⟨nde d8 nofun,aE _⟩,k ⟨dx,r,dr,du,dk,df,dc,dn,D,kn,kv⟩ H9 ⟨⟨nde e8 nofun,?_,en,eV,⟨by show kn.length<=2 * os.length;lia,by show kv.length<=2 * os.length;lia⟩,fun p n h=>?_,fun p n h=>?_,⟨?_,?_,(ndn eD (dx1 eD)).symm⟩,rx.symm⟩,fun b o z n=>?_,fun b hb=>?_,fun p q hq=>?_,fun p hp=>?_,?_⟩⟩
  ·rw[<- lo];exact⟨nde (B8 _ _ r5.x rx ((ah H4d fr).symm)) nofun,r9 (by simp) r5.u,r9 (by simp) r5.k,r9 (by simp) r5.f,r9 (by simp) r5.c,r5.nd⟩
  ·obtain⟨j,rfl,ho⟩:=isNd p n h;obtain⟨m,v,hm,hv⟩:=find j n ho;exact(nod j n m v hm hv ho).1
  ·obtain⟨j,rfl,ho⟩:=isNd p n h;obtain⟨m,v,hm,hv⟩:=find j n ho;exact(nod j n m v hm hv ho).2
  ·intro z;have:∀{b:Addr} {q:List (Key×V)},H5 b=some (.dK q)->dn≠b:=fun w=>(ndn w (dx1 w)).symm;simp at z;rcases z with z|z|z|z
   ·exact this r5.u z
   ·exact this r5.k z
   ·exact this r5.f z
   ·exact this r5.c z
  ·intro z;exact(fw z).2 rfl
  ·have z1:=ah (S1 _ _ z) fD;exact o9 (S05 _ _ z) n (nd0 z) z1
  ·have hn:H dn=none:=by
    cases q0:H dn with
    | none=>rfl
    | some o=>rw[B6 _ _ (S05 _ _ q0) nn] at fn;cases fn
   simp at hb;rcases hb with rfl|rfl|rfl|rfl|rfl|rfl|rfl
   ·exact back fr
   ·exact back (fnew _ (by simp))
   ·exact back (fnew _ (by simp))
   ·exact back (fnew _ (by simp))
   ·exact back (fnew _ (by simp))
   ·exact hn
   ·exact S1.free fD
  ·have q8:=nq p q hq;cases q0:H q with
   | none=>rfl
   | some o=>
    have n1:q≠x:=fun w=>by rw[w,e8] at q8;cases q8
    rw[B8 _ _ (S05 _ _ q0) n1 (nd0 q0)] at q8;cases q8
  ·obtain⟨i,il,rfl,hi⟩:=gk.mp hp;have il':i<xs.length:=by lia
   have tn:=ts.2 i _ _ (aa il') (aa il);have val:=fZ (aa il') hi il' (by lia)
   have on:os[i]=none:=by
    unfold jw at hi;rw[aa il] at hi;cases q:os[i] with
    | none=>rfl
    | some n=>rw[q] at hi;cases hi
   rw[on] at tn;generalize xs[i]=xi at *;cases tn with
   | no u a b=>exact⟨u,vf i _ hi val⟩
  ·intro j' jl';exact vn j' (by rw[lo];exact jl')
def ptO (H H':Hp):Hp:=fun b=>match H' b with
 | some (.ins C d f)=>some (.ins C d f)
 | some (.tup xs)=>some (.tup xs)
 | o=>match H b with|none=>o|some _=>none
theorem lG {f}(e:H' b=some (.ins C d f)):ptO H H' b=some (.ins C d f):=by unfold ptO;rw[e]
theorem rY (e:H' b=some (.tup xs)):ptO H H' b=some (.tup xs):=by unfold ptO;rw[e]
theorem i4 (n:H b=none):ptO H H' b=H' b:=by
 unfold ptO;split
 ·next e=>exact e.symm
 ·next e=>exact e.symm
 ·rw[n]
theorem uJ:aQ (ptO H H') H':=fun b o e=>by
 unfold ptO at e;split at e
 ·next q=>rw[q];exact e
 ·next q=>rw[q];exact e
 ·split at e
  ·exact e
  ·cases e
def Own (H h:Hp):Prop:=∀b,h b=none\/H b=none\/(∃C d f,h b=some (.ins C d f))\/∃xs,h b=some (.tup xs)
theorem wF:Own H (ptO H H'):=fun b=>by
 unfold ptO;split
 ·exact .inr (.inr (.inl ⟨_,_,_,rfl⟩))
 ·exact .inr (.inr (.inr ⟨_,rfl⟩))
 ·split
  ·next q=>exact .inr (.inl q)
  ·exact .inl rfl
theorem Own.dis (o:Own H h)(s:aQ h H')(sg:aQ g H)(sg':aQ g H')(ld:∀b x,g b=some x->(∀C d f,x≠.ins C d f)/\∀xs,x≠.tup xs):Dis h g:=fun b=>by
 cases e:g b with
 | none=>exact .inr rfl
 | some x=>
  obtain⟨l1,l2⟩:=ld b x e;rcases o b with z|z|⟨C,d,f,z⟩|⟨xs,z⟩
  ·exact .inl z
  ·rw[sg _ _ e] at z;cases z
  ·have:=s _ _ z;rw[sg' _ _ e] at this;exact aY (aw this) (l1 _ _ _)
  ·have:=s _ _ z;rw[sg' _ _ e] at this;exact aY (aw this) (l2 _)
theorem IsT.part {x}(t:IsT c a H' x M)(n:∀b∈[a.r,a.du,a.dk,a.df,a.dc,a.dn,a.dv],H b=none):IsT c a (ptO H H') x M:=by
 refine⟨lG t.x,⟨lG t.r.x,?_,?_,?_,?_,t.r.nd⟩,?_,?_,t.l,t.nodes fun q m i=>?_,t.ve,t.d,t.xr⟩
 ·exact(i4 (n _ (by simp))).trans t.r.u
 ·exact(i4 (n _ (by simp))).trans t.r.k
 ·exact(i4 (n _ (by simp))).trans t.r.f
 ·exact(i4 (n _ (by simp))).trans t.r.c
 ·exact(i4 (n _ (by simp))).trans t.n
 ·exact(i4 (n _ (by simp))).trans t.v
 ·obtain⟨dp,pg,e,dg,tk,tg,q1,q2,q3⟩:=i;exact⟨dp,pg,lG e,dg,tk,tg,lG q1,rY q2,rY q3⟩
def MS.told (most top lap:Int)(os:List (Option ND)):MS:=⟨most,some top,xT os,⟨lap,ig os true os.length,[],ig os false os.length,[]⟩,2 * os.length⟩
inductive spTO (c:Cs)(vs:List V)(H:Hp)(Q:VK)(E:XK):Prop
 | mk (l:Addr)(most lap:Int)(tp:Nat)(xs:List V)(os:List (Option ND)):vs=[.int most,.int (tp:Int),.int lap,.ref l]->2<=most->most<=5->0<=lap->lap<=1000000->H l=some (.lst xs)->Tns c H xs os->xs≠[]->xs.length<=200->(∀(i:Nat) n,os[i]?=some (some n)->EdO os n.hi n.rt)->jw os tp=true ->
   (∀x a h H',IsT c a h x (MS.told most tp lap os)->aQ h H'->Own H h->aQ H H'->(∀p∈ig os false os.length,∃i:Int,cf a.kv (Sum.inl p)=some (.int i))->(∀j:Nat,os.length<=j->cf a.kv (Sum.inl (j:Int))=none)->Q (.ref x) H')->spTO c vs H Q E
theorem qT:Ok F F.r.d_tree_of 13 (spTO c):=by
 obtain⟨f,fd,X⟩:=F.TX;have XTree:=X;have GTree:=sM F X;obtain⟨_,_,_,_,cl,n1,n2,n3,n4,n5⟩:=X;refine F.r.d_tree_of.go fun sc H Q hr h=>?_;obtain⟨l,most,lap,tp,xs,os,rfl,b0,b1,l0,l1,hl,ts,ne,few,ed,nt,k⟩:=h
 refine⟨_,(ad (a_ (cc (jr F) hr (pa1 (pv 0))))
  (ad (a_ (cc (iJ F) hr (pa1 (pv 3))))
  (ad (bT (PW.pt (jP (cO (cv (cc (y6 F) hr (pa1 (pv 1))))) (iC (dF gJ (pv 1) (cc (gq F) hr (pa1 (pv 3))) (by with_unfolding_all rfl)))))
   (ao bQ)
   bd)
  (ad (bT (cO (cv (cc (wT F) hr (pa1 (pv 2)))))
   (ao bQ)
   bd)
  (ad (cD sc 4 (d_ XTree.mak GTree (hr.mono (by decide)) rfl XTree.m XTree.bi .nil fH (pa1 (pv 0))))
  (ad (a_ (cc (oB F) hr (pa3 (pv 4) (pv 2) (pv 3))))
  (ad (cQ (pv 4) (pv 1) rfl)
  (ao (bc (pv 4)))))))))),?_⟩
 walk;refine⟨most,rfl,kA b0 b1,?_⟩;walk;refine⟨l,xs,os,rfl,hl,ts,ne,by lia,ed,fun H1 S1=>?_⟩;walk;refine⟨.int tp,_,rfl,.int _,?_⟩;rw[show ss (.int (tp:Int))=true from av (natCast_nonneg tp)];walk;refine⟨l,xs,os,rfl,S1 _ _ hl,ts.same S1,by lia,fun d H2 fd S2 e2=>?_⟩;walk
 have tl:tp<xs.length:=by
  rcases lt_or_ge tp os.length with z|z
  ·rw[ts.1];exact z
  ·unfold jw at nt;rw[List.getElem?_eq_none z] at nt;cases nt
 refine⟨d,_,rfl,.inl e2,.inl ⟨.inl (tp:Int),rfl,?_⟩⟩;rw[fZ (aa tl) nt tl (by lia)];walk;refine dB (by assumption) ?_;walk;refine⟨.int lap,_,rfl,.int _,?_⟩;rw[show zY (.int lap)=true from kA l0 l1];walk;intro x dx fx fdx ndx;refine⟨x,dx,most,rfl,ae,b0,b1,fun a h' H3 t3 S3 w3 B3=>⟨rfl,?_⟩⟩
 have S23:aQ H2 H3:=fun b o z=>B3 b o (dW fx fdx z) (ah z fx);have S03:=S1.trans (S2.trans S23);walk;refine⟨x,a.dx,a.r,a.dn,a.dv,l,most,lap,0,xs,os,rfl,(S3 _ _ t3.x),S03 _ _ hl,ts.same S03,few,fun a' H4 m4=>?_⟩;have e4:=m4.t.x;have fx0:=S1.free (S2.free fx);walk;have n0:∀b∈[a'.r,a'.du,a'.dk,a'.df,a'.dc,a'.dn,a'.dv],H b=none:=fun b hb=>S03.free (m4.new b hb)
 refine k x a' _ _ ((m4.t.setTop tp).part n0) uJ wF (fun b o z=>?_) m4.vf m4.vn;rw[ak (ah z fx0)];exact m4.old b o (S03 _ _ z) (ah z fx0)
inductive Chn (f:Int->Option ND)(lv:Int):List Int->Option Int->List Int->Prop
 | no (seen:List Int):Chn f lv seen none []
 | off (seen:List Int) (p:Int):(∀n,f p=some n->p∉seen->n.lv≠lv)->Chn f lv seen (some p) []
 | on {seen:List Int} {p:Int} {n:ND} {ch:List Int}:f p=some n->p∉seen->n.lv=lv->Chn f lv (seen++[p]) n.rt ch->Chn f lv seen (some p) (p::ch)
theorem Chn.det {a b}(x:Chn f lv seen st a)(y:Chn f lv seen st b):a=b:=by
 induction x generalizing b with
 | no s=>cases y;rfl
 | off s p h=>
  cases y with
  | off=>rfl
  | on e n l _=>exact aY l (h _ e n)
 | on e n l _ ih=>
  cases y with
  | off s p h=>exact aY l (h _ e n)
  | on e' n' l' z=>
   rw[e] at e';cases e';rw[ih z]
theorem Chn.of {a}(x:Chn f lv seen st a):∀p∈a,p∉seen/\∃n,f p=some n/\n.lv=lv:=by
 induction x with
 | no s=>exact nofun
 | off s p h=>exact nofun
 | on e n l _ ih=>
  intro p hp;rcases bm.mp hp with rfl|hp
  ·exact⟨n,_,e,l⟩
  ·obtain⟨h1,h2⟩:=ih p hp;exact⟨fun z=>h1 (bE _ z),h2⟩
def MS.at (M:MS)(p:Int):Option ND:=if p∈M.R.us then M.nd p else none
def MS.Full (M:MS):Prop:=∀p∈M.R.us,∃n,M.nd p=some n
theorem MS.at_of {p:Int}{n:ND}(h:p∈M.R.us)(e:M.nd p=some n):M.at p=some n:=by unfold MS.at;rw[aH h];exact e
theorem MS.at_in {p:Int}{n:ND}(h:M.at p=some n):p∈M.R.us/\M.nd p=some n:=by
 unfold MS.at at h;by_cases z:p∈M.R.us
 ·rw[aH z] at h;exact⟨z,h⟩
 ·rw[aA z] at h;cases h
def cY (ls ch:List Int):List Int:=ls.filter fun p=>decide (p∉ch)
inductive spChain (c:Cs)(vs:List V)(H:Hp)(Q:VK)(E:XK):Prop
 | mk (a:TA)(h:Hp)(x:Addr)(M:MS)(d:Addr)(ls seen:List Int)(st:Option Int)(lv:Int):vs=[.ref x,oV st,.int lv,.ref d]->IsT c a h x M->aQ h H->M.R.Ok->M.Full->H d=some (.dK (kT ls))->h d=none->ls.Nodup->ls.length<=500->(∀p,p∈ls ↔ p∈M.R.us/\p∉seen) ->
   (∀ch l H',Chn M.at lv seen st ch->ch.length<=ls.length->H l=none->H' l=some (.lst (ch.map V.int))->H' d=some (.dK (kT (cY ls ch)))->KB d H H'->Q (.ref l) H')->spChain c vs H Q E
theorem qe:Ok F F.r.d_chain_from 6 (spChain c):=by
 have C_Tree:=F.cT;refine F.r.d_chain_from.go fun sc H Q hr h=>?_;obtain⟨a,h,x,M,d,ls,seen,st,lv,rfl,t,s,ok,full,hd,nd,nod,few,mem,k⟩:=h
 refine⟨_,(ad (cD sc 4 (bw cy))
  (ad (cD sc 5 (pv 1))
  (ad (iE PassesOwn.never (PW.pt (fM (dF mO (pv 5) (pv 3) (by with_unfolding_all rfl)) (d0 (pc fJ (e_ (pv 0) C_Tree (iN F) hr (pa1 (pv 5))) (pv 2)))))
   (ad (a_ (iG (pv 3) (pv 5) ⟨rfl,rfl,rfl,rfl⟩))
  (ad (a_ (fU aX PySem.F.slot_list_append PySem.F.type_list_append cK (pv 4) (pa1 (pv 5))))
  (ao (iF (e_ (pv 0) C_Tree (mS F) hr (pa1 (pv 5))) (gc rfl (bn (eO sc 6) (bn (eO sc 5) dS))))))))
  (ao (bc (pv 4)))))),?_⟩
 walk;refine⟨sz,fun l fl=>?_⟩;walk;refine jM (fun m σ H2=>∃acc cur o6,σ=[some (.ref x),some (oV st),some (.int lv),some (.ref d),some (.ref l),some (oV cur),o6]/\m=(cY ls acc).length/\acc.length+m<=ls.length/\(∀ch,Chn M.at lv (seen++acc) cur ch->Chn M.at lv seen st (acc++ch))/\KB d H H2/\H2 l=some (.lst (acc.map V.int))/\H2 d=some (.dK (kT (cY ls acc)))) ls.length ?_ ?_
 ·refine⟨[],st,none,rfl,?_,?_,fun ch z=>by rw[b_] at z;exact z,KB.refl.updN fl,ae,?_⟩
  ·unfold cY;rw[filter_eq_self.mpr (by simp)]
  ·exact le_of_eq (by simp)
  ·rw[ak (ah hd fl)];unfold cY;rw[filter_eq_self.mpr (by simp)];exact hd
 rintro m σ H2 ⟨acc,cur,o6,rfl,rfl,hm,cl,kb,el,ed⟩;have s2:=kb.same s nd;have hx2:=s2 _ _ t.x
 have fin:Chn M.at lv (seen++acc) cur []->Q (.ref l) H2:=fun z=>by
  have:=cl [] z;rw[b_] at this;exact k acc l H2 this (by lia) fl el ed kb
 walk;refine⟨d,_,rfl,.inl ed,?_⟩;cases cur with
 | none=>
  refine .inr ⟨rfl,?_⟩;walk;exact fin (.no _)
 | some p=>
  refine .inl ⟨.inl p,rfl,?_⟩;dsimp only[oV];rw[aA ay,qq]
  have mm:p∈cY ls acc ↔ p∈M.R.us/\p∉seen++acc:=by
   unfold cY;rw[bZ,mem,decide_eq_true_iff,aT];exact⟨fun⟨⟨z1,z2⟩,z3⟩=>⟨z1,fun z=>z.elim z2 z3⟩,fun⟨z1,z2⟩=>⟨⟨z1,fun z=>z2 (.inl z)⟩,fun z=>z2 (.inr z)⟩⟩
  by_cases hp:p∈cY ls acc
  ·rw[av hp];obtain⟨hu,hs⟩:=mm.mp hp;obtain⟨n,hn⟩:=full p hu;walk;refine⟨a,h,x,M,p,n,rfl,t,s2,ok,hu,hn,?_⟩;walk;by_cases e:n.lv=lv
   ·refine ik (bq V.int e) (wb ?_);walk;obtain⟨v,ev⟩:=oO hp;refine⟨.ref d,rfl,d,rfl,.inl ⟨_,.inl ed⟩,_,rfl,_,.inl p,v,ed,rfl,ev,?_⟩;rw[oP];have nl:l≠d:=fun z=>by rw[z] at fl;rw[hd] at fl;cases fl
    have el3:upd H2 d (.dK (kT ((cY ls acc).filter fun n=>decide (n≠p)))) l=some (.lst (acc.map V.int)):=by rw[ak nl];exact el
    walk;refine dh el3 (by rw[af];have:=bp;lia) ?_
    have s3:aQ h (upd (upd H2 d (.dK (kT ((cY ls acc).filter fun n=>decide (n≠p))))) l (.lst (acc.map V.int++[.int p]))):=fun b o z=>by
     rw[ak (fun q=>by rw[q] at z;rw[s _ _ z] at fl;cases fl),ak (fun q=>by rw[q,nd] at z;cases z)];exact s2 _ _ z
    have hx3:=s3 _ _ t.x
    have kb3:KB d H (upd (upd H2 d (.dK (kT ((cY ls acc).filter fun n=>decide (n≠p))))) l (.lst (acc.map V.int++[.int p]))):=fun b o z nb=>by
     rw[ak (fun q=>by rw[q,fl] at z;cases z),ak nb];exact kb _ _ z nb
    have ee:(cY ls acc).filter (fun n=>decide (n≠p))=cY ls (acc++[p]):=by
     unfold cY;rw[List.filter_filter];refine filter_congr fun q _=>?_;rw[Bool.eq_iff_iff,and_eq_true,decide_eq_true_iff,decide_eq_true_iff,decide_eq_true_iff,aT,au];exact⟨fun⟨z1,z2⟩ z=>z.elim z2 z1,fun z=>⟨fun q=>z (.inr q),fun q=>z (.inl q)⟩⟩
    have lt:(cY ls (acc++[p])).length<(cY ls acc).length:=by
     rw[<- ee];have:=(eC (nod.filter _) hp).length_eq;rw[bf] at this;show (List.filter (fun n=>decide (n≠p)) (List.filter (fun p=>decide (p∉acc)) ls)).length<(List.filter (fun p=>decide (p∉acc)) ls).length
     lia
    generalize hG:upd (upd H2 d _) l _=H3 at *;have ed3:H3 d=some (.dK (kT (cY ls (acc++[p])))):=by rw[<- hG,ak nl.symm,ae,ee]
    have el4:H3 l=some (.lst ((acc++[p]).map V.int)):=by rw[<- hG,ae,aW];rfl
    walk;refine⟨a,h,x,M,p,n,rfl,t,s3,ok,hu,hn,fun tt ft=>?_⟩;walk;refine⟨_,lt,acc++[p],n.rt,_,rfl,rfl,?_,fun ch z=>?_,kb3.updN ft,cm ft el4,cm ft ed3⟩
    ·rw[am];simp;lia
    ·rw[aO];refine cl _ (.on (MS.at_of hu hn) hs e ?_);rw[aO];exact z
   ·refine iW (fun z=>e (V.int.inj z)) ?_;walk;refine fin (.off _ _ fun n' e' _ z=>e ?_);have:=(MS.at_in e').2;rw[hn] at this;cases this;exact z
  ·rw[aF hp];walk;exact fin (.off _ _ fun n' e' z _=>hp (mm.mpr ⟨(MS.at_in e').1,z⟩))
def nxt (f:Int->Option ND):List Int->Option Int
 | []=>none
 | p::_=>(f p).bind fun n=>n.gs.head?
inductive Lvs (f:Int->Option ND):Nat->List Int->Option Int->List (List Int)->Prop
 | z {seen:List Int} {st:Option Int} {ch:List Int}:Chn f 0 seen st ch->Lvs f 0 seen st [ch]
 | s {k:Nat} {seen:List Int} {st:Option Int} {ch:List Int} {rows:List (List Int)}:Chn f ((k+1:Nat):Int) seen st ch->Lvs f k (seen++ch) (nxt f ch) rows->Lvs f (k+1) seen st (ch::rows)
theorem Lvs.det {k:Nat}{a b:List (List Int)}(x:Lvs f k seen st a)(y:Lvs f k seen st b):a=b:=by
 induction x generalizing b with
 | z h=>cases y with|z h'=>rw[h.det h']
 | s h _ ih=>cases y with|s h' z=>cases h.det h';rw[ih z]
theorem Lvs.mem {k:Nat}{a:List (List Int)}(x:Lvs f k seen st a):∀r∈a,∀p∈r,∃n,f p=some n:=by
 induction x with
 | z h=>exact fun r hr p hp=>let⟨_,n,e,_⟩:=h.of p (by rw[<- au.mp hr];exact hp);⟨n,e⟩
 | s h _ ih=>
  intro r hr p hp;rcases bm.mp hr with rfl|hr
  ·exact let⟨_,n,e,_⟩:=h.of p hp;⟨n,e⟩
  ·exact ih r hr p hp
theorem Lvs.len {k:Nat}{a:List (List Int)}(x:Lvs f k seen st a):a.length=k+1:=by
 induction x with
 | z h=>rfl
 | s h _ ih=>rw[bf,ih]
theorem Lvs.last {k:Nat}{a:List (List Int)}(x:Lvs f k seen st a):∃r,a[k]?=some r/\∀p∈r,∃n,f p=some n/\n.lv=0:=by
 induction x with
 | z h=>exact⟨_,rfl,fun p hp=>let⟨_,n,e,l⟩:=h.of p hp;⟨n,e,l⟩⟩
 | s h _ ih=>exact ih
def BW (f:Int->Option ND)(k:Nat)(seen last:List Int)(rest:List (List Int)):Prop:=match k with
 | 0=>rest=[]
 | k+1=>Lvs f k seen (nxt f last) rest
theorem Lvs.cons {k:Nat}{ch}{rest:List (List Int)}(c:Chn f (k:Int) seen st ch)(r:BW f k (seen++ch) ch rest):Lvs f k seen st (ch::rest):=by
 cases k with
 | zero=>cases(show rest=[] from r);exact .z c
 | succ k=>exact .s c r
def LL (H:Hp)(as:List Addr)(rows:List (List Int)):Prop:=as.length=rows.length/\∀(i:Nat) a r,as[i]?=some a->rows[i]?=some r->H a=some (.lst (r.map V.int))
theorem LL.keep (x:LL H as rows)(k:∀a∈as,∀o,H a=some o->H' a=some o):LL H' as rows:=⟨x.1,fun i a r e f=>k a (aK e) _ (x.2 i a r e f)⟩
theorem LL.snoc (x:LL H as rows)(e:H b=some (.lst (r.map V.int))):LL H (as++[b]) (rows++[r]):=by
 refine⟨by rw[am,am,x.1];rfl,fun i a q f g=>?_⟩;by_cases hi:i<as.length
 ·rw[aN hi] at f;rw[aN (by rw[<- x.1];exact hi)] at g;exact x.2 i a q f g
 ·rw[aM (by lia)] at f;rw[aM (by rw[<- x.1];lia),<- x.1] at g;cases z:i - as.length with
  | zero=>rw[z] at f g;cases f;cases g;exact e
  | succ j=>rw[z] at f;cases f
theorem kq (h:xs[0]?=some v):atI xs 0=some v:=dN (j:=0) h
theorem atI_last:atI (xs++[v]) (-1)=some v:=by
 unfold atI ixN;rw[aA (by lia),aH (by rw[am];simp;lia),bind_some,am];simp only[bf,xR];rw[show ((-1+((xs.length+(0+1):Nat):Int)).toNat)=xs.length by lia,aM (by lia),sub_self];rfl
theorem j4 {a b}:cY (cY ls a) b=cY ls (a++b):=by
 unfold cY;rw[List.filter_filter];refine filter_congr fun q _=>?_;rw[Bool.eq_iff_iff,and_eq_true,decide_eq_true_iff,decide_eq_true_iff,decide_eq_true_iff,aT];exact⟨fun⟨z1,z2⟩ z=>z.elim z2 z1,fun z=>⟨fun q=>z (.inr q),fun q=>z (.inl q)⟩⟩
theorem sR:cY ls []=ls:=by unfold cY;exact filter_eq_self.mpr (by simp)
theorem mU {a}{p:Int}:p∈cY ls a ↔ p∈ls/\p∉a:=by unfold cY;rw[bZ,decide_eq_true_iff]
structure xV (M:MS)(tp:Int)(k:Nat):Prop where
 ok:M.R.Ok
 full:M.Full
 few:M.R.us.length<64
 et:M.top=some tp
 tu:∃n,M.at tp=some n/\n.lv=k
 hk:k<=60
 gs:∀p n,M.at p=some n->0<n.lv->n.gs≠[]
inductive spLevels (c:Cs)(vs:List V)(H:Hp)(Q:VK)(E:XK):Prop
 | mk (a:TA)(h:Hp)(x:Addr)(M:MS)(tp:Int)(k:Nat):vs=[.ref x]->IsT c a h x M->aQ h H->xV M tp k ->
   (∀rows l as H',Lvs M.at k [] (some tp) rows->H l=none->(∀a∈as,H a=none/\a≠l)->as.Nodup->H' l=some (.lst (as.map V.ref))->LL H' as rows->(∀r∈rows,r.length<64)->aQ H H'->Q (.ref l) H')->spLevels c vs H Q E
theorem jU:Ok F F.r.d_levels_of 7 (spLevels c):=by
 obtain⟨fG,fdG,MP_goods,GP_goods,BP_goods⟩:=bg F;have C_Tree:=F.cT;refine F.r.d_levels_of.go fun sc H Q hr h=>?_;obtain⟨a,h,x,M,tp,k,rfl,t,s,⟨ok,full,few,etp,⟨nt,ent,elv⟩,hk,gsne⟩,q⟩:=h;obtain⟨tu,tnd⟩:=MS.at_in ent;have hx:=s _ _ t.x
 refine⟨_,(ad (yS (i:=1) (dE [] []) rfl (dm (qP (pv 0) C_Tree (oG F) hr)) (fun _ _ _ _ _=>PTs.nil) (fun _ _ _ _ _=>(pv 0)) (fun _ _ _ _ _=>fh) sc.nd rfl rfl)
  (ad (cD sc 2 (qP (pv 0) C_Tree (uW F) hr))
  (ad (cD sc 3 (e_ (pv 0) C_Tree (iN F) hr (pa1 (pv 2))))
  (ad (cD sc 4 (bw (pa1 (cc (qe F) hr (pa4 (pv 0) (pv 2) (pv 3) (pv 1))))))
  (ad (iE PassesOwn.never (pc i8 (pv 3) ap)
   (ad (sj (i:=3) sc.nd rfl (Or.inl rfl) ap zI)
  (ad (cD sc 5 (pix aS (pv 4) (ii eX ap)))
  (ad (cD sc 2 (dG (pQ (pv 5) (fun _=>rfl)) (pix aS (mH (e_ (pv 0) C_Tree (iM F) hr (pa1 (pix aS (pv 5) ap))) MP_goods GP_goods (hr.mono (by decide)) BP_goods .nil fH) ap) bV))
  (ao (a_ (fU aX PySem.F.slot_list_append PySem.F.type_list_append cK (pv 4) (pa1 (cc (qe F) hr (pa4 (pv 0) (pv 2) (pv 3) (pv 1)))))))))))
  (ao (bc (pv 4)))))))),?_⟩
 walk;refine fE (fun J H1=>∃(ns:List Int) (l:Addr),J=Itl K l/\ns.Perm M.R.us/\H l=none/\H1=upd H l (.lst (ns.map V.int))) (fun R z=>?_) ?_
 ·walk;refine⟨a,h,x,M,rfl,t,s,few,fun ns pm so l fl=>?_⟩;walk;exact z _ _ ⟨ns,l,rfl,pm,fl,rfl⟩
 rintro J H1 ⟨ns,l0,rfl,pm,fl0,rfl⟩;have nod:=pm.nodup_iff.mpr ok.us;have ln:=pm.length_eq;refine kW (fun R z=>z) ae nod (by have:=bp;lia) fun d H2 fd S2 e2=>?_;have fd0:=(aQ.upd fl0).free fd;have S02:=(aQ.upd fl0).trans S2;have s2:=s.trans S02;have hx2:=s2 _ _ t.x;have hnd:=s.free fd0;walk;refine⟨a,h,x,M,rfl,t,s2,tp,etp,?_⟩;walk;refine⟨a,h,x,M,tp,nt,rfl,t,s2,ok,tu,tnd,?_⟩
 walk;refine⟨a,h,x,M,d,ns,[],some tp,nt.lv,rfl,t,s2,ok,full,e2,hnd,nod,by lia,fun p=>?_,fun ch l1 H3 hch lch fl1 e3 ed3 kb3=>?_⟩
 ·rw[pm.mem_iff];exact⟨fun z=>⟨z,nofun⟩,fun z=>z.1⟩
 walk;refine⟨sz,fun L fL=>?_⟩;have S03:aQ H H3:=fun b o z=>kb3 b o (S02 _ _ z) (ah z fd0);have fL0:=S03.free fL;have nLd:L≠d:=fun z=>by rw[z,ed3] at fL;cases fL
 have n1d:l1≠d:=fun z=>by rw[z,e2] at fl1;cases fl1
 walk
 refine jM (fun m σ H4=>∃(j:Nat) (acc:List (List Int)) (as:List Addr) (last:List Int) (la:Addr) (o2 o5:Option V),j=m/\j<=k/\acc.length+j<=k /\
   σ=[some (.ref x),some (.ref d),o2,some (.int (j:Int)),some (.ref L),o5]/\(∀rest,BW M.at j (acc.flatten++last) last rest->Lvs M.at k [] (some tp) (acc++last::rest))/\(∀p∈last,∃n,M.at p=some n/\n.lv=j)/\(∀r∈acc++[last],r.length<64) /\
   H4 L=some (.lst ((as++[la]).map V.ref))/\LL H4 (as++[la]) (acc++[last])/\(∀b∈as++[la],H b=none/\b≠L/\b≠d)/\(as++[la]).Nodup/\H4 d=some (.dK (kT (cY ns (acc.flatten++last))))/\aQ H H4) k ?_ ?_
 ·refine⟨k,[],[],ch,l1,some (.int tp),none,rfl,aE _,by simp,?_,fun rest z=>.cons (by rw[<- elv];exact hch) z,fun p hp=>?_,?_,ae,⟨rfl,fun i b r e f=>?_⟩,?_,by simp,?_,S03.trans (aQ.upd fL)⟩
  ·rw[<- elv];rfl
  ·obtain⟨_,n,e,l⟩:=hch.of p hp;exact⟨n,e,by rw[l,elv]⟩
  ·intro r hr;rw[List.nil_append,au] at hr;rw[hr];lia
  ·cases i with
   | zero=>cases e;cases f;exact cm fL e3
   | succ i=>cases e
  ·intro b hb;rw[List.nil_append,au] at hb;rw[hb];exact⟨(S02.free fl1),(ah e3 fL),n1d⟩
  ·exact cm fL ed3
 rintro m σ H4 ⟨j,acc,as,last,la,o2,o5,rfl,jk,aj,rfl,cl,lm,lr,eL,ll,fr,nds,ed,S4⟩;have s4:=s.trans S4;have hx4:=s4 _ _ t.x;walk;cases j with
 | zero=>
  refine iW (by decide) ?_;walk;refine q (acc++[last]) L (as++[la]) H4 (cl [] rfl) fL0 (fun b hb=>⟨(fr b hb).1,(fr b hb).2.1⟩) nds eL ll lr S4
 | succ j=>
  refine ik (by lia) (wb ?_)
  have ela:H4 la=some (.lst (last.map V.int)):=by
   refine ll.2 as.length la last ?_ ?_
   ·rw[aM (by lia),sub_self];rfl
   ·have:=ll.1;rw[am,am] at this;simp at this;rw[aM (by lia),show as.length - acc.length=0 by lia];rfl
  have eL':H4 L=some (.lst (as.map V.ref++[.ref la])):=by rw[eL,aW];rfl
  refine ji fun _ _=>?_;refine ww rfl ?_;walk;rw[show ((j+1:Nat):Int) - 1=(j:Int) by lia];refine cG eL' atI_last ?_;refine dB (by assumption) ?_;refine eK (fun σ' H'=>σ'=[some (.ref x),some (.ref d),some (oV (nxt M.at last)),some (.int (j:Int)),some (.ref L),some (.ref la)]/\aQ H4 H') (fun N z=>?_) ?_
  ·walk;refine⟨_,.inl ⟨_,SqL.of ela,rfl⟩,?_⟩;cases last with
   | nil=>
    refine kR (c:=false) rfl (fY ?_);walk;exact z _ _ ⟨rfl,aQ.refl _⟩
   | cons p r=>
    obtain⟨n,en,el⟩:=lm p (.head _);obtain⟨pu,pn⟩:=MS.at_in en;refine kR (c:=true) rfl (gC ?_);walk;refine cG ela (kq rfl) ?_;walk;refine⟨a,h,x,M,p,n,rfl,t,s4,ok,pu,pn,fun pg hpg=>?_⟩;obtain⟨dg,tk,tg,q1,q2,q3⟩:=hpg.same s4;refine sX q1 (c.pg.of_is _) rfl ?_;refine⟨pg,n.lv,n.ks,n.gs,rfl,⟨dg,tk,tg,q1,q2,q3⟩,fun lg flg=>?_⟩;cases eg:n.gs with
    | nil=>exact aY eg (gsne p n en (by rw[el];lia))
    | cons g0 gr=>
     walk;refine cG (v:=.int g0) ae (kq rfl) ?_;refine z _ _ ⟨?_,aQ.upd flg⟩;show _=[_,_,some (oV ((M.at p).bind fun n=>n.gs.head?)),_,_,_];rw[en,bind_some,eg];rfl
  rintro σ5 H5 ⟨rfl,S45⟩;have S5:=S4.trans S45;have ed5:=S45 _ _ ed;have eL5:=S45 _ _ eL;have ll5:=ll.keep fun b _ o z=>S45 b o z;walk;refine⟨a,h,x,M,d,cY ns (acc.flatten++last),acc.flatten++last,nxt M.at last,j,rfl,t,(s.trans S5),ok,full,ed5,hnd,nod.filter _,bh (bF _ _) (by lia),fun p=>?_,fun ch2 l2 H6 hch2 lch2 fl2 e6 ed6 kb6=>?_⟩
  ·rw[mU,pm.mem_iff]
  have l6:∀b,b≠d->∀o,H5 b=some o->H6 b=some o:=fun b nb o z=>kb6 b o z nb;have len6:(cY ns (acc.flatten++last)).length<=ns.length:=bF _ _
  have nn:(as++[la]).length<=200:=by
   have:=ll.1;rw[this,am];simp
   lia
  walk;refine dh (l6 L nLd _ eL5) (by rw[af];have:=bp;lia) ?_;have nl2:∀b o,H5 b=some o->b≠l2:=fun b o z=>ah z fl2;walk
  have memL:∀b∈as++[la],∃o,H5 b=some o:=fun b hb=>by
   obtain⟨i,hi,e⟩:=bD hb;have hi':i<(acc++[last]).length:=by rw[<- ll.1];exact hi
   exact⟨_,ll5.2 i b _ (by rw[aa hi,e]) (aa hi')⟩
  refine⟨j,lt_succ_self _,j,acc++[last],as++[la],ch2,l2,_,_,rfl,by lia,?_,rfl,fun rest z=>?_,fun p hp=>?_,?_,?_,?_,?_,?_,?_,?_⟩
  ·rw[am];simp;lia
  ·rw[aO];refine cl _ (Lvs.cons hch2 ?_);rw[flatten_append] at z;simpa using z
  ·obtain⟨_,n,e,l⟩:=hch2.of p hp;exact⟨n,e,l⟩
  ·intro r hr;rcases aT.mp hr with hr|hr
   ·exact lr r hr
   ·rw[au.mp hr];lia
  ·rw[ae];simp
  ·refine LL.snoc (ll5.keep fun b hb o z=>?_) ?_
   ·rw[ak (fr b hb).2.1];exact l6 b (fr b hb).2.2 o z
   ·rw[ak (fun q=>nl2 L _ eL5 q.symm)];exact e6
  ·intro b hb;rcases aT.mp hb with hb|hb
   ·exact fr b hb
   ·rw[au.mp hb];exact⟨(S5.free fl2),fun q=>nl2 L _ eL5 q.symm,fun q=>nl2 d _ ed5 q.symm⟩
  ·refine bW.mpr ⟨nds,by simp,fun u hu v hv e=>?_⟩;obtain⟨o,ho⟩:=memL u hu;exact nl2 u o ho (by rw[e];exact au.mp hv)
  ·rw[ak nLd.symm,ed6,j4,flatten_append];simp
  ·intro b o z;rw[ak (ah z fL0)];exact l6 b (ah z fd0) o (S5 _ _ z)
theorem zC {a}(h:H a=some (.tup xs))(h':H b=some (.tup ys))(l:i<xs.length)(l':i<ys.length):(Itz K true a b).go i H:=⟨xs,ys,xs[i],ys[i],SqT.of h,SqT.of h',aa l,aa l'⟩
theorem xw {a}(h:H a=some (.tup xs))(h':H b=some (.tup ys))(y:(Itz K true a b).yld i H v H'):∃t x y,v=.ref t/\H t=none/\xs[i]?=some x/\ys[i]?=some y/\H'=upd H t (.tup [x,y]):=let⟨t,x,z,e,f,g,q⟩:=y;⟨t,x,z,e,f,(g xs ys (SqT.of h) (SqT.of h')).1,(g xs ys (SqT.of h) (SqT.of h')).2,q⟩
theorem uo {k g:Int}(h:ks[i]?=some k)(h':gs[i]?=some g):(ks.zip gs).take (i+1)=(ks.zip gs).take i++[(k,g)]:=by
 rw[take_succ];congr 1;have:(ks.zip gs)[i]?=some (k,g):=getElem?_zip_eq_some.mpr ⟨h,h'⟩;rw[this];rfl
theorem uT:Ok F F.r.d_in_stretch 1 (fun vs H Q _=>∃k:Int,vs=[.int k,.non,.non]/\Q (.bl true) H):=by
 refine F.r.d_in_stretch.go fun sc H Q hr h=>?_;obtain⟨k,rfl,q⟩:=h;refine⟨_,(ao (bc (gf (yX (eB jq (pv 1) bV (gw _)) (eP (eB oy (pv 1) (pv 0) (gw _)))) (eP (yX (eB jq (pv 2) bV (gw _)) (eP (eB qS (pv 0) (pv 2) (gw _)))))))),?_⟩;walk;refine⟨rfl,?_⟩;walk;refine ik rfl ?_;walk;refine⟨rfl,?_⟩;walk
 exact ik rfl q
inductive spPart (c:Cs)(vs:List V)(H:Hp)(Q:VK)(E:XK):Prop
 | mk (x dx tk tg:Addr)(ks gs:List Int):vs=[.ref x,.non,.non]->H x=some (.ins c.pg.cL dx (PgF tk tg))->H tk=some (.tup (ks.map V.int))->H tg=some (.tup (gs.map V.int))->gs.length=ks.length->ks.length<=6 ->
   (∀l ts H',H l=none->H' l=some (.lst (ts.map V.ref))->jy H' ts (ks.zip gs)->aQ H H'->Q (.ref l) H')->spPart c vs H Q E
theorem wW:Mt F c.pg.cL F.r.L_part 2 (spPart c):=by
 obtain⟨f,fd,X⟩:=F.LX;refine F.r.L_part.go X.m fun sc H Q hr h=>?_;obtain⟨x,dx,tk,tg,ks,gs,rfl,hx,hk,hg,ln,few,q⟩:=h;have cl:=X.ins.cl;have n2:=X.n2
 refine⟨_,(ad (bT (pc i7 (pv 1) bV)
   (ao bQ)
   bd)
  (ad (bT (pc i7 (pv 2) bV)
   (ao bQ)
   bd)
  (ao (bc (pY (dE ["low","high"] [1,2]) rfl (yU true rfl F.r.nz qH (pa2 (bu (pv 0) rfl) (bu (pv 0) rfl))) (fun _ _ _ _ _=>(PTs.one (cv (cc (uT F) hr (pa3 (pv 0) (pv 2) (pv 3)))))) (fun _ _ _ _ _=>(dU (pa2 (pv 0) (pv 1))))))))),?_⟩
 walk;refine⟨rfl,?_⟩;walk;refine l_ rfl ?_;walk;refine⟨rfl,?_⟩;walk;refine l_ rfl ?_;walk;refine fW (J:=Itz K true tk tg) (H1:=H) ks.length (fun R z=>?_) (fun D i H2=>∃ts,aQ H H2/\H2 D=some (.lst (ts.map V.ref))/\jy H2 ts ((ks.zip gs).take i)) (fun D f=>⟨[],aQ.upd f,ae,rfl,nofun⟩) (fun D i H2 fD lt ⟨ts,S,e,tu⟩=>?_) (fun D H2 fD ⟨ts,S,e,tu⟩=>?_)
 ·show BS K true _ _ H R;refine⟨.ref x,rfl,x,_,_,_,_,rfl,hx,cl,X.n1,rfl,.ref x,rfl,x,_,_,_,_,rfl,hx,cl,n2,rfl,tk,tg,rfl,⟨_,SqT.of hk⟩,⟨_,SqT.of hg⟩,z⟩
 ·have hk2:=S _ _ hk;have hg2:=S _ _ hg;refine⟨zC hk2 hg2 (by rw[af];exact lt) (by rw[af,ln];exact lt),fun v H3 y R z=>?_⟩;obtain⟨t,a,b,rfl,ft,ea,eb,rfl⟩:=xw hk2 hg2 y;rw[aB] at ea eb;obtain⟨k,ek,rfl⟩:=bt.mp ea;obtain⟨g,eg,rfl⟩:=bt.mp eb;refine⟨t,.int k,.int g,rfl,SqT.of ae,?_⟩;walk;refine⟨k,rfl,?_⟩;walk;refine⟨sz,fun u fu=>?_⟩
  have fu2:=(aQ.upd ft).free fu;refine xU (ys:=ts.map V.ref) ?_ ?_ (z _ ⟨ts++[u],fun b' o q'=>?_,?_,?_⟩)
  ·exact cm fu (cm ft e)
  ·rw[af,tu.1,bo];have:=bp;lia
  ·rw[ak (ah q' fD)];exact cm fu (cm ft (S _ _ q'))
  ·rw[ae,aW];rfl
  ·rw[(uo ek eg)];refine(tu.keep fun b' xs q'=>?_).snoc ?_
   ·rw[ak (cJ q' e nofun)];exact cm fu (cm ft q')
   ·rw[ak (fun z=>by rw[z,e] at fu2;cases fu2),ae]
 ·refine⟨⟨_,SqT.of (S _ _ hk),by rw[af]⟩,q D ts H2 fD e ?_ S⟩
  rwa[take_of_length_le (by rw[length_zip];lia)] at tu
def f_ (f:Int->Option ND)(ps:List Int):List (Int×Int):=ps.flatMap fun p=>match f p with|some n=>n.ks.zip n.gs|none=>[]
theorem kG {p:Int}{n:ND}(h:f p=some n):f_ f (ps++[p])=f_ f ps++n.ks.zip n.gs:=by
 unfold f_;rw[flatMap_append];simp[h]
theorem lB {us ps qs}(h:jy H ts ps)(h':jy H us qs):jy H (ts++us) (ps++qs):=by
 refine⟨by rw[am,am,h.1,h'.1],fun j t x e f=>?_⟩;by_cases hj:j<ts.length
 ·rw[aN hj] at e;rw[aN (by rw[<- h.1];exact hj)] at f;exact h.2 j t x e f
 ·rw[aM (by lia)] at e;rw[aM (by rw[<- h.1];lia),<- h.1] at f;exact h'.2 _ t x e f
theorem LL.at (x:LL H as rows)(h:rows[i]?=some r):∃b,as[i]?=some b/\H b=some (.lst (r.map V.int)):=by
 have hi:i<as.length:=by rw[x.1];exact(aq.mp h).1
 exact⟨as[i],aa hi,x.2 i _ r (aa hi) h⟩
theorem mj {k:Nat}(l:xs.length=k+1)(h:xs[k]?=some v):atI xs (-1)=some v:=by
 unfold atI ixN;rw[aA (by lia),aH (by lia),bind_some,show ((-1+(xs.length:Int)).toNat)=k by lia];exact h
theorem dO {α:Type}{xs:List α}{x:α}(h:xs[i]?=some x):xs.take (i+1)=xs.take i++[x]:=by rw[take_succ,h];rfl
theorem lH {f:Int->Option ND}(lf:∀p n,f p=some n->n.lv=0->n.gs.length=n.ks.length/\n.ks.length<=6):∀{ps:List Int},(∀p∈ps,∃n,f p=some n/\n.lv=0)->(f_ f ps).length<=6 * ps.length
 | [],_=>aE _
 | p::ps,h=>by
  obtain⟨n,e,l⟩:=h p (.head _);have ih:=lH lf (ps:=ps) fun q hq=>h q (.tail _ hq);have e2:f_ f (p::ps)=n.ks.zip n.gs++f_ f ps:=by unfold f_;rw[List.flatMap_cons,e]
  rw[e2,am,length_zip,bf];have:=(lf p n e l).2
  lia
inductive spPrs (c:Cs)(vs:List V)(H:Hp)(Q:VK)(E:XK):Prop
 | mk (a:TA)(h:Hp)(x:Addr)(M:MS)(tp:Int)(k:Nat):vs=[.ref x]->IsT c a h x M->aQ h H->xV M tp k->(∀p n,M.at p=some n->n.lv=0->n.gs.length=n.ks.length/\n.ks.length<=6) ->
   (∀rows r l ts H',Lvs M.at k [] (some tp) rows->rows[k]?=some r->H l=none->H' l=some (.lst (ts.map V.ref))->jy H' ts (f_ M.at r)->aQ H H'->Q (.ref l) H')->spPrs c vs H Q E
theorem uO:Ok F F.r.d_pairs_of 8 (spPrs c):=by
 have C_Tree:=F.cT;have C_Leaf:=F.KF.iL.cl;refine F.r.d_pairs_of.go fun sc H Q hr h=>?_;obtain⟨a,h,x,M,tp,k,rfl,t,s,lk,lf,q⟩:=h
 refine⟨_,(ad (cD sc 1 (bw cy))
  (ad (dC PassesOwn.never rfl (dm (pix aS (cc (jU F) hr (pa1 (pv 0))) (ii eX ap))) (eO sc 2)
   (ao (sj (i:=1) sc.nd rfl (Or.inl rfl) (e_ (e_ (pv 0) C_Tree (iM F) hr (pa1 (pv 2))) C_Leaf (wW F) hr (pa2 bV bV)) vU)))
  (ao (bc (pv 1))))),?_⟩
 walk;refine⟨sz,fun lp flp=>?_⟩;generalize hG:upd H lp (.lst [])=H1 at *;have S1:=sG hG flp;have e1:=eG hG;walk;refine⟨a,h,x,M,tp,k,rfl,t,s.trans S1,lk,fun rows l as H2 lv fl fr nds el ll rl S2=>?_⟩;obtain⟨r,er,rm⟩:=lv.last;obtain⟨b,eb,hb⟩:=ll.at er;have few:=rl r (aK er);walk;refine cG el (mj (by rw[af,ll.1,lv.len]) (by rw[aB,eb];rfl)) ?_;walk
 have nb:=ah e1 ((fr b (aK eb)).1);refine pM (xs:=r.map V.int) (fun i σ H3=>∃ts o2,σ=[some (.ref x),some (.ref lp),o2]/\aQ H H3/\H3 lp=some (.lst (ts.map V.ref))/\jy H3 ts (f_ M.at (r.take i))/\H3 b=some (.lst (r.map V.int))) ⟨[],none,rfl,S1.trans S2,S2 _ _ e1,⟨rfl,nofun⟩,hb⟩ (fun i σ H3 _ z=>let⟨_,_,_,_,_,_,e⟩:=z;e) ?_ ?_
 ·rintro i v σ H3 ev ⟨ts,o2,rfl,S3,e3,tu,hb3⟩;rw[aB] at ev;obtain⟨p,ep,rfl⟩:=bt.mp ev;obtain⟨n,en,elv⟩:=rm p (aK ep);obtain⟨pu,pn⟩:=MS.at_in en;have s3:=s.trans S3;have hx3:=s3 _ _ t.x;walk;refine ww rfl ?_;walk;refine⟨a,h,x,M,p,n,rfl,t,s3,lk.ok,pu,pn,fun pg hpg=>?_⟩;obtain⟨dg,tk,tg,q1,q2,q3⟩:=hpg.same s3;rw[elv] at q1;refine vO q1 rfl ?_;walk
  obtain⟨lg,lk6⟩:=lf p n en elv;refine⟨pg,dg,tk,tg,n.ks,n.gs,rfl,q1,q2,q3,lg,lk6,fun l2 us H4 fl2 e4 tu4 S4=>?_⟩;have pl:=lH lf (ps:=r.take i) fun z hz=>rm z (mem_of_mem_take hz);have tl:(r.take i).length<=64:=by rw[bo];lia
  have zl:(n.ks.zip n.gs).length<=6:=by rw[length_zip];lia
  refine yP (S4 _ _ e3) e4 (by rw[af,af,tu.1,tu4.1];have:=bp;lia) ?_;refine⟨ts++us,_,rfl,fun b' o z=>?_,by rw[ae,aW],?_,?_⟩
  ·rw[ak (ah z flp)];exact S4 _ _ (S3 _ _ z)
  ·rw[dO ep,kG en];have kp:∀b' xs,H4 b'=some (.tup xs)->upd H4 lp (.lst (ts.map V.ref++us.map V.ref)) b'=some (.tup xs):=fun b' xs z=>by rw[ak (cJ z (S4 _ _ e3) nofun)];exact z
   exact(lB (tu.keep fun b' xs z=>S4 _ _ z) tu4).keep kp
  ·rw[ak nb.symm];exact S4 _ _ hb3
 ·rintro σ H3 ⟨ts,o2,rfl,S3,e3,tu,hb3⟩;rw[af,take_length] at tu;walk;exact q rows r lp ts H3 lv er flp e3 tu S3
def gu (f:Int->Option ND)(ps:List Int):List Int:=ps.flatMap fun p=>match f p with|some n=>n.gs|none=>[]
theorem mZ {p:Int}{n:ND}(h:f p=some n):gu f (ps++[p])=gu f ps++n.gs:=by
 unfold gu;rw[flatMap_append];simp[h]
def Has (H:Hp)(d:Addr)(ns:List Int)(k:Nat):Prop:=∃kvs,H d=some (.dK kvs)/\kvs.length<=k/\∀q:Int,(cf kvs (Sum.inl q)).isSome=decide (q∈ns)
theorem Has.put {k:Nat}{p:Int}(l:kvs.length<=k)(h:∀q:Int,(cf kvs (Sum.inl q)).isSome=decide (q∈ns)):(db kvs (Sum.inl p) v).length<=k+1/\∀q:Int,(cf (db kvs (Sum.inl p) v) (Sum.inl q)).isSome=decide (q∈ns++[p]):=by
 refine⟨bh (cZ ..) (succ_le_succ l),fun q=>?_⟩;rw[cw];by_cases e:q=p
 ·rw[aH (bq Sum.inl e)];exact(av (by rw[e];simp)).symm
 ·rw[aA (fun z=>e (Sum.inl.inj z)),h,decide_eq_decide,aT,au];exact⟨.inl,fun z=>z.resolve_right e⟩
inductive spKids (c:Cs)(vs:List V)(H:Hp)(Q:VK)(E:XK):Prop
 | mk (a:TA)(h:Hp)(x:Addr)(M:MS)(l:Addr)(ps:List Int):vs=[.ref x,.ref l]->IsT c a h x M->aQ h H->M.R.Ok->H l=some (.lst (ps.map V.int))->(∀p∈ps,∃n,M.at p=some n)->ps.length<=64->(∀p n,M.at p=some n->n.gs.length<=7) ->
   (∀d H',H d=none->Has H' d (gu M.at ps) 448->aQ H H'->Q (.ref d) H')->spKids c vs H Q E
theorem w6:Ok F F.r.d_children_of 6 (spKids c):=by
 obtain⟨fG,fdG,MP_goods,GP_goods,BP_goods⟩:=bg F;have C_Tree:=F.cT;refine F.r.d_children_of.go fun sc H Q hr h=>?_;obtain⟨a,h,x,M,l,ps,rfl,t,s,ok,hl,pm,few,g7,q⟩:=h
 refine'⟨_,(ao (bc (sx (dE ["tree"] [0]) rfl (dm (pv 1)) (fun _ _ _ _ _=>PTs.nil) (fun _ _ _ _ _=>(uM (K:=K) rfl (mH (e_ (pv 2) C_Tree (iM F) hr (pa1 (pv 0))) MP_goods GP_goods (hr.mono (by decide)) BP_goods .nil fH))) (fun _ _ _ _ _=>PTs.nil) (fun _ _ _ _ _=>(pv 1)) (fun _ _ _ _ _=>fh)))),?_⟩;walk
 refine fW (J:=Itl K l) (H1:=H) ps.length (fun R z=>?_) (fun D i H2=>aQ H H2/\Has H2 D (gu M.at (ps.take i)) (7 * i)) (fun D f=>⟨aQ.upd f,[],ae,zero_le _,fun q=>rfl⟩) (fun D i H2 fD lt ⟨S,hs⟩=>?_) (fun D H2 fD ⟨S,hs⟩=>?_)
 ·exact⟨_,rfl,l,rfl,⟨_,SqL.of hl⟩,z⟩
 ·have hl2:=S _ _ hl;refine⟨qu hl2 (by rw[af];exact lt),fun v H3 y R z o=>?_⟩;obtain⟨rfl,ev⟩:=lZ hl2 y;rw[aB] at ev;obtain⟨p,ep,rfl⟩:=bt.mp ev;obtain⟨n,en⟩:=pm p (aK ep);obtain⟨pu,pn⟩:=MS.at_in en;have s3:=s.trans S;have hx3:=s3 _ _ t.x;have n7:=g7 p n en;rw[aH rfl];unfold pN A5;walk;refine⟨a,h,x,M,p,n,rfl,t,s3,ok,pu,pn,fun pg hpg=>?_⟩
  obtain⟨dg,tk,tg,q1,q2,q3⟩:=hpg.same s3;refine sX q1 (c.pg.of_is _) rfl ?_;refine⟨pg,n.lv,n.ks,n.gs,rfl,hpg.same s3,fun lg flg=>?_⟩;walk;obtain⟨kvs,ek,lk,hk⟩:=hs;have nDl:lg≠D:=fun w=>by rw[w,ek] at flg;cases flg
  refine⟨fun j m σ H4=>m=n.gs.length - j/\j<=n.gs.length/\(∃o,σ=[some (.int p),o,some (.ref x)])/\aQ H H4/\H4 lg=some (.lst (n.gs.map V.int))/\Has H4 D (gu M.at (ps.take i)++n.gs.take j) (7 * i+j),⟨_,rfl,zero_le _,⟨_,rfl⟩,S.trans (aQ.upd flg),ae,kvs,cm flg ek,lk,by simpa using hk⟩,?_⟩;rintro j m σ H4 ⟨rfl,jl,⟨o',rfl⟩,S4,elg,kv4,ek4,lk4,hk4⟩;by_cases jt:j<n.gs.length
  ·refine .inr ⟨qu elg (by rw[af];exact jt),fun v H5 y5=>?_⟩;obtain⟨rfl,ev5⟩:=lZ elg y5;rw[aB] at ev5;obtain⟨g0,eg,rfl⟩:=bt.mp ev5;walk;have pt:=Has.put (p:=g0) (v:=.bl true) lk4 hk4;refine⟨.int g0,rfl,kv4,.inl g0,ek4,rfl,by have:=bp;lia,n.gs.length - (j+1),by lia,rfl,jt,⟨_,rfl⟩,fun b o1 z1=>?_,?_,_,ae,pt.1,fun q=>?_⟩
   ·rw[ak (ah z1 fD)];exact S4 _ _ z1
   ·rw[ak nDl];exact elg
   ·rw[pt.2,dO eg,aO]
  ·refine .inl ⟨?_,⟨_,rfl⟩,z H4 ⟨S4,kv4,ek4,?_,fun q=>?_⟩⟩
   ·have:=jG (K:=K) elg;rw[af] at this;rw[show j=n.gs.length by lia];exact this
   ·lia
   ·rw[hk4,dO ep,mZ en,take_of_length_le (l:=n.gs) (by lia)]
 ·rw[take_length] at hs;obtain⟨kvs,ek,lk,hk⟩:=hs;exact⟨by have:=jG (K:=K) (S _ _ hl);rwa[af] at this,q D H2 fD ⟨kvs,ek,by lia,hk⟩ S⟩
def unp (f:Int->Option ND)(rows:List (List Int))(i:Nat):List Int:=((rows[0]?).getD []).drop 1++(List.range i).flatMap fun j=>((rows[j+1]?).getD []).filter fun p=>decide (p∉gu f ((rows[j]?).getD []))
theorem pA {a b:List Int}(h:rows[i]?=some a)(h':rows[i+1]?=some b):unp f rows (i+1)=unp f rows i++b.filter fun p=>decide (p∉gu f a):=by
 unfold unp;rw[range_succ,flatMap_append,aO];simp[h,h']
theorem jL {f:Int->Option ND}{rows:List (List Int)}(h:∀r∈rows,r.length<64):∀i:Nat,(unp f rows i).length<=64 * (i+1)
 | 0=>by
  unfold unp;rw[List.range_zero,List.flatMap_nil,b_,bO];cases e:rows[0]? with
  | none=>exact zero_le _
  | some r=>have:=h r (aK e);simp;lia
 | i+1=>by
  have ih:=jL (f:=f) h i
  have:unp f rows (i+1)=unp f rows i++((rows[i+1]?).getD []).filter fun p=>decide (p∉gu f ((rows[i]?).getD [])):=by
   unfold unp;rw[range_succ,flatMap_append,aO];simp
  rw[this,am];have l:=bF (fun p=>decide (p∉gu f ((rows[i]?).getD []))) ((rows[i+1]?).getD []);cases e:rows[i+1]? with
  | none=>rw[e] at l;simp at l ⊢;lia
  | some r=>have:=h r (aK e);rw[e] at l;simp at l ⊢;lia
inductive spUnp (c:Cs)(vs:List V)(H:Hp)(Q:VK)(E:XK):Prop
 | mk (a:TA)(h:Hp)(x:Addr)(M:MS)(tp:Int)(k:Nat):vs=[.ref x]->IsT c a h x M->aQ h H->xV M tp k->(∀p n,M.at p=some n->n.gs.length<=7) ->
   (∀rows l H',Lvs M.at k [] (some tp) rows->H l=none->H' l=some (.lst ((unp M.at rows k).map V.int))->aQ H H'->Q (.ref l) H')->spUnp c vs H Q E
theorem oA:Ok F F.r.d_unposted 8 (spUnp c):=by
 refine F.r.d_unposted.go fun sc H Q hr h=>?_;obtain⟨a,h,x,M,tp,k,rfl,t,s,lk,g7,q⟩:=h
 refine⟨_,(ad (cD sc 1 (cc (jU F) hr (pa1 (pv 0))))
  (ad (cD sc 2 (dj dQ (pix aS (pv 1) ap) (dJ ap) d9))
  (ad (dC PassesOwn.never rfl (su rfl F.r.nz qH (pa2 (pv 1) (dj dQ (pv 1) (dJ ap) d9))) (gc rfl (bn (eO sc 3) (bn (eO sc 4) dS)))
   (ad (kF (i:=5) sc.nd rfl (Or.inr rfl) (cc (w6 F) hr (pa2 (pv 0) (pv 3))))
  (ao (sj (i:=2) sc.nd rfl (Or.inl rfl) (i5 (dE ["posted"] [5]) rfl (dm (pv 4)) (fun _ _ _ _ _=>(PTs.one (dF gJ (pv 0) (pv 1) (by with_unfolding_all rfl)))) (fun _ _ _ _ _=>(pv 0))) vU))))
  (ao (bc (pv 2)))))),?_⟩
 walk;refine⟨a,h,x,M,tp,k,rfl,t,s,lk,fun rows l as H1 lv fl fr nds el ll rl S1=>?_⟩;have lr:=lv.len;have er0:rows[0]?=some rows[0]:=aa (by lia);obtain⟨b0,eb0,hb0⟩:=ll.at er0;walk;refine cG el (v:=.ref b0) (kq (by rw[aB,eb0];rfl)) ?_;walk;refine mF hb0 (by decide) fun lp flp=>?_;have fl0:=S1.free flp
 have S2:aQ H1 (upd H1 lp (.lst ((rows[0].map V.int).drop (toNat 1)))):=aQ.upd flp
 have e2:upd H1 lp (.lst ((rows[0].map V.int).drop (toNat 1))) lp=some (.lst ((unp M.at rows 0).map V.int)):=by
  rw[ae,<- map_drop];unfold unp;rw[List.range_zero,List.flatMap_nil,b_,er0];rfl
 generalize upd H1 lp _=H2 at *;have el2:=S2 _ _ el;walk;refine mF el2 (by decide) fun lz flz=>?_;generalize hG:upd H2 lz _=H3 at *;have S3:=sG hG flz;have e3:H3 lz=some (.lst ((as.drop 1).map V.ref)):=by rw[<- hG,ae,map_drop];rfl
 have el3:=S3 _ _ el2;walk;refine BO el3 e3 ?_;have npl:l≠lp:=fun z=>by rw[z,flp] at el;cases el
 have nla:∀b o,H1 b=some o->b≠lp:=fun b o z=>ah z flp
 have inH1:∀i b,as[i]?=some b->∃o,H1 b=some o:=fun i b e=>by
  have hi:i<rows.length:=by rw[<- ll.1];exact(aq.mp e).1
  exact⟨_,ll.2 i b _ e (aa hi)⟩
 refine jO k (fun i σ H4=>∃o3 o4 o5,σ=[some (.ref x),some (.ref l),some (.ref lp),o3,o4,o5]/\aQ H H4/\H4 lp=some (.lst ((unp M.at rows i).map V.int))/\H4 l=some (.lst (as.map V.ref))/\H4 lz=some (.lst ((as.drop 1).map V.ref))/\LL H4 as rows) ?_ ?_ ?_
 ·exact⟨_,_,_,rfl,S1.trans (S2.trans S3),S3 _ _ e2,el3,e3,ll.keep fun b _ o z=>S3 _ _ (S2 _ _ z)⟩
 ·rintro i σ H4 lt ⟨o3,o4,o5,rfl,S4,e4,l4,z4,ll4⟩;have ia:i<as.length:=by rw[ll.1];lia
  have ia1:i+1<as.length:=by rw[ll.1];lia
  refine⟨vS l4 z4 (by rw[af];exact ia) (by rw[af,bO];lia),fun v H5 y=>?_⟩;obtain⟨tt,u1,u2,rfl,ftt,eu1,eu2,rfl⟩:=tj l4 z4 y;rw[aB,aa ia] at eu1;rw[aB,List.getElem?_drop,Nat.add_comm,aa ia1] at eu2;cases eu1;cases eu2;have ir:i<rows.length:=by lia
  have ir1:i+1<rows.length:=by lia
  have er:=aa ir;have er1:=aa ir1;generalize hG:upd H4 tt _=H5 at *;have S5:=sG hG ftt;have ea1:=S5 _ _ (ll4.2 (i+1) _ _ (aa ia1) er1);have ett:=eG hG;have S05:=S4.trans S5;have rw1:=rl _ (getElem_mem ir);have rw2:=rl _ (getElem_mem ir1);walk
  refine⟨a,h,x,M,as[i],rows[i],rfl,t,(s.trans S05),lk.ok,(S5 _ _ (ll4.2 i _ _ (aa ia) er)),fun p hp=>lv.mem _ (getElem_mem ir) p hp,by lia,g7,fun d H6 fd hs S6=>?_⟩;obtain⟨kvs,ek,lk4,hk⟩:=hs;have ea6:=S6 _ _ ea1;refine dB (by assumption) ?_;refine ww rfl ?_
  refine jx (J:=Itl K as[i+1]) (H1:=H6) (rows[i+1].map V.int) (fun v=>match v with|.int p=>decide (p∉gu M.at rows[i])|_=>false) (fun v=>v) (fun R z=>⟨_,rfl,_,rfl,⟨_,SqL.of ea6⟩,z⟩) (j_ (tp:=false) ea6) ?_ ?_ (by rw[af];lia) ?_
  ·intro y hy H7 R S7 r;obtain⟨p,hp,rfl⟩:=bC.mp hy;walk;refine⟨d,kvs,rfl,.inl (S7 _ _ ek),.inl ⟨.inl p,rfl,?_⟩⟩;rw[aH rfl,hk];walk;have:=r H7 (aQ.refl _);dsimp only at this
   rwa[decide_not] at this
  ·intro y hy _ H7 R S7 r;exact⟨y,rfl,r H7 (aQ.refl _)⟩
  ·intro dd H7 fdd S7 e7;refine yP (S7 _ _ (S6 _ _ (S5 _ _ e4))) e7 ?_ ?_
   ·have h1:=jL (f:=M.at) rl i;have h2:=bF (fun v=>match v with|V.int p=>decide (p∉gu M.at rows[i])|_=>false) (rows[i+1].map V.int);rw[af] at h2;rw[af,af];have:=lk.hk;have:(4000:Nat)<=sizeLine:=by decide
    lia
   refine⟨_,_,_,rfl,fun b o z=>?_,?_,?_,?_,?_⟩
   ·rw[ak (ah z fl0)];exact(S05.trans (S6.trans S7)) _ _ z
   ·rw[ae,pA er er1,aW,map_id'];congr 3;rw[filter_map];rfl
   ·rw[ak npl];exact S7 _ _ (S6 _ _ (S5 _ _ l4))
   ·rw[ak (bM (ah e2 flz))];exact S7 _ _ (S6 _ _ (S5 _ _ z4))
   ·refine ll4.keep fun b hb o z=>?_;obtain⟨j,hj,ej⟩:=bD hb;obtain⟨o',ho'⟩:=inH1 j b (by rw[aa hj,ej]);rw[ak (nla b o' ho')];exact S7 _ _ (S6 _ _ (S5 _ _ z))
 ·rintro σ H4 ⟨o3,o4,o5,rfl,S4,e4,l4,z4,ll4⟩;refine⟨qw l4 z4 (.inr (by rw[af,bO,ll.1,lr];lia)),?_⟩;walk;exact q rows lp H4 lv fl0 e4 S4
def um (h:Hp)(q:Addr)(n:ND):Prop:=∃kl gl,h q=some (.lst [.int n.lv,.ref kl,.ref gl,oV n.hi,oV n.rt])/\h kl=some (.lst (n.ks.map V.int))/\h gl=some (.lst (n.gs.map V.int))
structure IsM (h:Hp)(d:Addr)(kvs:List (Key×V))(ps:List Int)(f:Int->Option ND):Prop where
 d:h d=some (.dK kvs)
 k:kvs.map (·.1)=ps.map Sum.inl
 nd:ps.Nodup
 e:∀p∈ps,∃n q,f p=some n/\cf kvs (Sum.inl p)=some (.ref q)/\um h q n
 o:∀p,p∉ps->f p=none
structure NOk (t:Nat)(n:ND):Prop where
 lv:0<=n.lv/\n.lv<=60
 ks:KeysOk n.ks
 gl:n.lv=0->n.gs.length=n.ks.length/\∀g∈n.gs,-100<=g/\g<=100+t
 gi:n.lv≠0->okI n.ks.length n.gs
 ed:(n.hi=none/\n.rt=none)\/∃k p:Int,n.hi=some k/\n.rt=some p/\lh k
 ho:n.ho=none
 wr:n.wr=false
section
variable {p:Int}{n:ND}{t:Nat}
theorem um.keep (i:um h q n)(k:∀b xs,h b=some (.lst xs)->h' b=some (.lst xs)):um h' q n:=let⟨kl,gl,a,b,e⟩:=i;⟨kl,gl,k _ _ a,k _ _ b,k _ _ e⟩
theorem IsM.same (m:IsM h d kvs ps f)(S:aQ h h'):IsM h' d kvs ps f:=⟨S _ _ m.d,m.k,m.nd,fun p hp=>let⟨n,q,a,b,i⟩:=m.e p hp;⟨n,q,a,b,i.keep fun b xs e=>S _ _ e⟩,m.o⟩
theorem IsM.no (m:IsM h d kvs ps f)(hp:p∉ps):cf kvs (Sum.inl p)=none:=by
 cases e:cf kvs (Sum.inl p) with
 | none=>rfl
 | some v=>
  have:=jJ e;rw[m.k] at this;obtain⟨z,hz,ez⟩:=bC.mp this;exact aY (by rw[<- Sum.inl.inj ez];exact hz) hp
theorem IsM.val (m:IsM h d kvs ps f):(cf kvs (Sum.inl p)).isSome=decide (p∈ps):=by
 by_cases hp:p∈ps
 ·obtain⟨_,_,_,e,_⟩:=m.e p hp;rw[e,av hp];rfl
 ·rw[m.no hp,aF hp];rfl
theorem IsM.in (m:IsM h d kvs ps f)(e:f p=some n):p∈ps:=Classical.byContradiction fun z=>by rw[m.o p z] at e;cases e
theorem IsM.at (m:IsM h d kvs ps f)(e:f p=some n):∃q,cf kvs (Sum.inl p)=some (.ref q)/\um h q n:=by
 obtain⟨n',q,e1,e2,i⟩:=m.e p (m.in e);rw[e] at e1;cases e1;exact⟨q,e2,i⟩
theorem IsM.len (m:IsM h d kvs ps f):kvs.length=ps.length:=by
 have:=bq List.length m.k
 rwa[af,af] at this
def pi (ps:List Int)(p:Int):List Int:=if p∈ps then ps else ps++[p]
theorem gZ:x∈pi ps p ↔ x∈ps\/x=p:=by
 unfold pi;split
 ·next h=>exact⟨.inl,fun z=>z.elim id fun e=>by rw[e];exact h⟩
 ·rw[aT,au]
theorem IsM.put (m:IsM h d kvs ps f)(k:∀b xs,h b=some (.lst xs)->h' b=some (.lst xs))(ed:h' d=some (.dK (db kvs (Sum.inl p) (.ref q))))(i:um h' q n):IsM h' d (db kvs (Sum.inl p) (.ref q)) (pi ps p) (fun x=>if x=p then some n else f x):=by
 refine⟨ed,?_,?_,fun x hx=>?_,fun x hx=>?_⟩
 ·unfold pi;split
  ·next hp=>
   obtain⟨j,hj,ej⟩:=bD hp;have kn:(kvs.map (·.1)).Nodup:=by rw[m.k];exact m.nd.map _ fun a b ne e=>ne (Sum.inl.inj e)
   have ek:(kvs.map (·.1))[j]?=some (Sum.inl p):=by rw[m.k,aB,aa hj,ej];rfl
   rw[uI kn ek];refine List.ext_getElem? fun i=>?_;rw[<- m.k,aB,List.getElem?_set,aB];by_cases c:j=i
   ·subst c;have jl:j<kvs.length:=by rw[m.len];exact hj
    rw[aH rfl,aH jl];rw[aB,aa jl] at ek;rw[aa jl];exact ek.symm
   ·rw[aA c]
  ·next hp=>
   rw[iD _ (m.no hp),aW,aW,m.k];rfl
 ·unfold pi;split
  ·exact m.nd
  ·next hp=>exact bW.mpr ⟨m.nd,by simp,fun a ha b hb e=>hp (by rw[<- au.mp hb,<- e];exact ha)⟩
 ·by_cases e:x=p
  ·exact⟨n,q,aH e,by rw[e,cw,aH rfl],i⟩
  ·obtain⟨n',q',e1,e2,i'⟩:=m.e x ((gZ.mp hx).resolve_right e);exact⟨n',q',by rw[aA e];exact e1,by rw[cw,aA (fun z=>e (Sum.inl.inj z))];exact e2,i'.keep k⟩
 ·have:=fun z=>hx (gZ.mpr z);rw[aA (fun e=>this (.inr e))];exact m.o x fun z=>this (.inl z)
end
section
variable {a:Addr}{E:XK}
theorem xl (ha:H a=some (.lst (ks.map V.int)))(hb:H b=some (.lst (gs.map V.int)))(ok:KeysOk ks)(og:okg ks.length gs)
  (q:∀pg dx tk tg H',H pg=none->H tk=none->H tg=none->H' pg=some (.ins C dx (PgF tk tg))->H' tk=some (.tup (ks.map V.int))->H' tg=some (.tup (gs.map V.int))->aQ H H'->Q (.ref pg) H'):xO C (spMake C okg) [] E Q [.ref a,.ref b] H:=by
 intro x dx fx fdx nd;have up:∀{b':Addr} {o:HO},H b'=some o->upd (upd H dx (.own x)) x (.ins C dx []) b'=some o:=fun z=>dW fx fdx z;refine⟨x,dx,a,b,ks,gs,rfl,ae,up ha,up hb,ok,og,fun H' tk tg B f1 f2 e1 e2 e3=>⟨rfl,?_⟩⟩
 have fr:∀{b':Addr},upd (upd H dx (.own x)) x (.ins C dx []) b'=none->H b'=none:=fun {b'} z=>by
  cases e:H b' with
  | none=>rfl
  | some o=>rw[up e] at z;cases z
 exact q x dx tk tg H' fx (fr f1) (fr f2) e1 e2 e3 fun b' o z=>B b' o (up z) (ah z fx)
end
theorem zb:Ok F F.r.d__law_old 1 (fun vs H Q _=>∃p:Int,vs=[.int p]/\∀i:Int,0<=i->i<=10->Q (.int i) H):=by
 refine F.r.d__law_old.go fun sc H Q hr h=>?_;obtain⟨p,rfl,q⟩:=h;refine⟨_,(ao (bc (bN cH ap (bN jp (pv 0) ap)))),?_⟩;walk;exact q _ (by lia) (by lia)
inductive spLFree (vs:List V)(H:Hp)(Q:VK)(E:XK):Prop
 | mk (d:Addr)(kvs:List (Key×V))(ps:List Int)(f:Int->Option ND)(h:Hp):vs=[.ref d]->IsM h d kvs ps f->aQ h H->ps≠[]->(∀p∈ps,0<=p/\p<=200)->(∀l xs H',H l=none->H' l=some (.lst xs)->xs.length<=200->aQ H H'->Q (.ref l) H')->spLFree vs H Q E
theorem uS:Ok F F.r.d__law_free 1 spLFree:=by
 refine F.r.d__law_free.go fun sc H Q hr h=>?_;obtain⟨d,kvs,ps,f,h,rfl,m,s,ne,rg,q⟩:=h;have hd:=s _ _ m.d
 refine⟨_,(ao (bc (i5 (dE ["_law_model_here"] [0]) rfl (da rfl F.r.T.n_range (pa1 (aR (nP (hr.hd rfl)) rfl F.r.T.n_max ko (pa1 (pv 0))))) (fun _ _ _ _ _=>(PTs.one (dF gJ (pv 0) (pv 1) (by with_unfolding_all rfl)))) (fun _ _ _ _ _=>(pv 0))))),?_⟩;walk;refine fE (fun J H1=>∃z:Int,J=Itr 0 z.toNat/\H1=H/\0<=z/\z<=200) (fun R z=>?_) ?_
 ·walk;refine⟨d,kvs,ps,rfl,.inl hd,m.k,ne,fun mx hm _=>?_⟩;walk;exact gA (rg mx hm).1 (by have:=(rg mx hm).2;lia) (z _ _ ⟨mx,rfl,rfl,rg mx hm⟩)
 rintro J H1 ⟨z,rfl,rfl,z0,z1⟩;refine jx (J:=Itr 0 z.toNat) (H1:=H1) (upTo 0 z.toNat) (fun v=>match v with|.int p=>!decide (p∈ps)|_=>false) (fun v=>v) (fun R z=>z) zF ?_ ?_ (by simp[L2.upTo];lia) ?_
 ·intro y hy H2 R S2 r;obtain⟨i,hi,rfl⟩:=bC.mp hy;walk;refine⟨d,kvs,rfl,.inl (S2 _ _ hd),.inl ⟨.inl (0+(i:Int)),rfl,?_⟩⟩;rw[aH rfl,m.val];walk;exact r H2 (aQ.refl _)
 ·intro y hy _ H2 R S2 r;exact⟨y,rfl,r H2 (aQ.refl _)⟩
 ·intro l H2 fl S2 e2;refine q l _ H2 fl e2 ?_ S2;rw[af];refine bh (bF _ _) ?_;simp[L2.upTo];lia
structure TM (t B:Nat)(a:TA)(M:MS)(top:Int)(ps:List Int)(f:Int->Option ND):Prop where
 tp:M.top=some top
 us:∀p,p∈M.R.us ↔ p∈ps
 nd:∀p n,f p=some n->M.nd p=some n
 ok:M.R.Ok
 nok:∀p n,f p=some n->NOk t n
 tin:top∈ps
 fw:M.R.places.length<=35+t
 fb:M.b<=B
 fc:M.R.cs.length<=1
 vf:∀p:Int,0<=p->p<(M.R.places.length:Nat)->∃i:Int,cf a.kv (Sum.inl p)=some (.int i)
 vn:∀j:Nat,M.R.places.length<=j->cf a.kv (Sum.inl (j:Int))=none
theorem Own.mono (o:Own H1 h)(S:aQ H H1):Own H h:=fun b=>by
 rcases o b with z|z|z|z
 ·exact .inl z
 ·exact .inr (.inl (S.free z))
 ·exact .inr (.inr (.inl z))
 ·exact .inr (.inr (.inr z))
def osf (f:Int->Option ND)(i:Nat):List (Option ND):=(List.range i).map fun j:Nat=>f (j:Int)
theorem fj:(osf f i).length=i:=by unfold osf;rw[af,length_range]
theorem sD (h:j<i):(osf f i)[j]?=some (f (j:Int)):=by unfold osf;rw[aB,List.getElem?_range h];rfl
theorem mK (h:j<i):jw (osf f i) j=(f (j:Int)).isSome:=by unfold jw;rw[sD h];rfl
theorem p7:osf f (i+1)=osf f i++[f (i:Int)]:=by unfold osf;rw[range_succ,aW];rfl
theorem Tns.snoc {o:Option ND}(t:Tns c H xs os)(e:Tn c H v o):Tns c H (xs++[v]) (os++[o]):=by
 refine⟨by rw[am,am,t.1];rfl,fun i x q a b=>?_⟩;by_cases hi:i<xs.length
 ·rw[aN hi] at a;rw[aN (by rw[<- t.1];exact hi)] at b;exact t.2 i x q a b
 ·rw[aM (by lia)] at a;rw[aM (by rw[<- t.1];lia),<- t.1] at b;cases z:i - xs.length with
  | zero=>rw[z] at a b;cases a;cases b;exact e
  | succ j=>rw[z] at a;cases a
theorem Tn.keep {o:Option ND}(x:Tn c H v o)(k:∀b o,H b=some o->(∀xs,o≠.lst xs)->H' b=some o):Tn c H' v o:=by
 cases x with
 | no i a b=>exact .no i a b
 | yes t pg n e g a b d f=>
  obtain⟨dg,tk,tg,q1,q2,q3⟩:=g;exact .yes t pg n (k _ _ e nofun) ⟨dg,tk,tg,k _ _ q1 nofun,k _ _ q2 nofun,k _ _ q3 nofun⟩ a b d f
theorem NOk.l {t:Nat}{n:ND}(o:NOk t n)(h:n.lv=0)(ht:t<=1000):okL n.ks.length n.gs:=⟨(o.gl h).1,fun g hg=>⟨by have:=((o.gl h).2 g hg).1;lia,by have:=((o.gl h).2 g hg).2;lia⟩⟩
theorem wg {hm:Hp}{x}{tp N:Nat}(m:IsM hm d kvs ps f)(t:IsT c a h' x (MS.told most tp lap (osf f N)))(nok:∀p n,f p=some n->NOk 0 n)(rg:∀p∈ps,0<=p/\p<N)(N40:N<=35)(tin:((tp:Nat):Int)∈ps)
  (vf:∀p∈ig (osf f N) false (osf f N).length,∃i:Int,cf a.kv (Sum.inl p)=some (.int i)) (vn:∀j:Nat,(osf f N).length<=j->cf a.kv (Sum.inl (j:Int))=none):TM 0 100 a (MS.told most tp lap (osf f N)) tp ps f:=by
 have fin:∀p,p∈ps->∃n,f p=some n:=fun p hp=>let⟨n,_,e,_⟩:=m.e p hp;⟨n,e⟩
 have pl:(MS.told most tp lap (osf f N)).R.places.length=N:=by
  have:=jS (os:=osf f N) (osf f N).length;rw[fj] at this;show ((ig (osf f N) true (osf f N).length++([]:List (Int×Int)).map (·.1))++ig (osf f N) false (osf f N).length).length=N;rw[map_nil,b_,fj];exact this
 have ndp:∀p n,f p=some n->(MS.told most tp lap (osf f N)).nd p=some n:=fun p n e=>by
  have:=rg p (m.in e);show xT (osf f N) p=some n;unfold xT;rw[aH this.1,sD (by lia),Option.getD_some,show ((p.toNat:Nat):Int)=p by lia];exact e
 refine⟨rfl,fun p=>?_,ndp,AG,nok,tin,by lia,?_,zero_le _,fun p p0 p1=>?_,fun j hj=>?_⟩
 ·show p∈ig (osf f N) true (osf f N).length ↔ _;rw[gk,fj];constructor
  ·rintro⟨i,hi,rfl,hn⟩;rw[mK hi] at hn;obtain⟨n,e⟩:=isSome_iff_exists.mp hn;exact m.in e
  ·intro hp;have r:=rg p hp;obtain⟨n,e⟩:=fin p hp;refine⟨p.toNat,by lia,by lia,?_⟩;rw[mK (by lia),show ((p.toNat:Nat):Int)=p by lia,e];rfl
 ·show 2 * (osf f N).length<=_;rw[fj];lia
 ·rw[pl] at p1;cases e:f p with
  | some n=>exact t.ve p n (ndp p n e)
  | none=>
   refine vf p (gk.mpr ⟨p.toNat,by rw[fj];lia,by lia,?_⟩);rw[mK (by lia),show ((p.toNat:Nat):Int)=p by lia,e];rfl
 ·rw[pl] at hj;exact vn j (by rw[fj];exact hj)
inductive spLTree (c:Cs)(vs:List V)(H:Hp)(Q:VK)(E:XK):Prop
 | mk (most tp:Int)(d:Addr)(kvs:List (Key×V))(ps:List Int)(f:Int->Option ND)(h:Hp):vs=[.int most,.ref d,.int tp]->IsM h d kvs ps f->aQ h H->2<=most->most<=5->(∀p∈ps,0<=p/\p<35)->(∀p n,f p=some n->NOk 0 n/\∀r,n.rt=some r->r∈ps)->tp∈ps ->
   (∀x a h' H' M,IsT c a h' x M->TM 0 100 a M tp ps f->M.R.cs=[]->aQ h' H'->Own H h'->aQ H H'->Q (.ref x) H')->spLTree c vs H Q E
theorem uR:Ok F F.r.d__law_tree 14 (spLTree c):=by
 obtain⟨fI,fdI,XInner⟩:=F.IX;obtain⟨fL,fdL,XLeaf⟩:=F.LX;have GInner:=lQ F XInner;have GLeaf:=oC F XLeaf;refine F.r.d__law_tree.go fun sc H Q hr h=>?_;obtain⟨most,tp,d,kvs,ps,f,h,rfl,m,s,b0,b1,rg,nok,tin,q⟩:=h;have hd:=s _ _ m.d;have pne:ps≠[]:=fun z=>by rw[z] at tin;cases tin
 refine⟨_,(ad (cD sc 3 (bw cy))
  (ad (dC PassesOwn.never rfl (da rfl F.r.T.n_range (pa1 (bN cH (aR (nP (hr.hd rfl)) rfl F.r.T.n_max ko (pa1 (pv 1))) ap))) (eO sc 4)
   (ad (a_ (fU aX PySem.F.slot_list_append PySem.F.type_list_append cK (pv 3) (pa1 (cc (zb F) hr (pa1 (pv 4))))))
  (ao (bT (dF mO (pv 4) (pv 1) (by with_unfolding_all rfl))
   (ad (iF (dL (dt hr) (pv 1) (pv 4) (fun _ _=>rfl)) (wI rfl (bn (eO sc 5) (bn (eO sc 6) (bn (eO sc 7) (bn (eO sc 8) (bn (eO sc 9) dS)))))))
  (ad (cD sc 10 (dG (pc i8 (pv 5) ap) (d_ XInner.mak GInner (hr.mono (by decide)) rfl XInner.m XInner.bi .nil fH (pa2 (pv 6) (pv 7))) (d_ XLeaf.mak GLeaf (hr.mono (by decide)) rfl XLeaf.m XLeaf.bi .nil fH (pa2 (pv 6) (pv 7)))))
  (ao (iF (dU (pa5 (pv 5) (pv 10) (pv 8) (pv 9) ap)) (pV (pv 3) (pv 4) jC)))))
   bd))))
  (ao (bc (cc (qT F) hr (pa4 (pv 0) (pv 2) (aR bj rfl F.r.T.n_len cS (pa1 (cc (uS F) hr (pa1 (pv 1))))) (pv 3))))))),?_⟩
 walk;refine⟨sz,fun ln fln=>?_⟩;generalize hG:upd H ln (.lst [])=H1 at *;have S1:=sG hG fln;have e1:=eG hG;walk;refine⟨d,kvs,ps,rfl,.inl (S1 _ _ hd),m.k,pne,fun mx hmx gmx=>?_⟩;have rmx:=rg mx hmx;walk;refine gA (by lia) (by lia) ?_
 refine iB (fun i σ H2=>∃xs o4 o5 o6 o7 o8 o9 o10,σ=[some (.int most),some (.ref d),some (.int tp),some (.ref ln),o4,o5,o6,o7,o8,o9,o10]/\aQ H H2/\H2 ln=some (.lst xs)/\Tns c H2 xs (osf f i)) ?_ ?_ ?_
 ·exact⟨[],_,_,_,_,_,_,_,rfl,S1,e1,rfl,fun _ _ _ z=>by cases z⟩
 ·rintro i σ H2 lt ⟨xs,o4,o5,o6,o7,o8,o9,o10,rfl,S2,e2,ts⟩;have lx:xs.length=i:=by rw[ts.1,fj]
  walk;refine⟨_,rfl,fun old a0 a1=>?_⟩;walk;refine dh e2 (by have:=bp;lia) ?_;have ts3:∀(j:Nat) x o,xs[j]?=some x->(osf f i)[j]?=some o->Tn c (upd H2 ln (.lst (xs++[.int old]))) x o:=fun j x o a b=>(ts.2 j x o a b).keep fun b' o' z n=>by rw[ak (fun w=>by rw[w,e2] at z;cases z;exact n _ rfl)];exact z
  generalize hG:upd H2 ln (.lst (xs++[.int old]))=H3 at *;have S3:aQ H H3:=fun b o z=>by rw[<- hG,ak (ah z fln)];exact S2 _ _ z
  have e3:=eG hG;rw[zero_add];walk;refine⟨d,kvs,rfl,.inl (S3 _ _ hd),.inl ⟨.inl (i:Int),rfl,?_⟩⟩;rw[aA ay,m.val];by_cases ip:(i:Int)∈ps
  ·rw[av ip];obtain⟨n,qa,en,eq,kl,gl,i1,i2,i3⟩:=m.e _ ip;obtain⟨no,rts⟩:=nok _ n en;have s3:=s.trans S3;walk;refine dM (k:=Sum.inl (i:Int)) (S3 _ _ hd) eq ?_;walk;refine⟨qa,_,rfl,SqL.of (s3 _ _ i1),rfl,?_⟩;walk
   have fin:∀pg dx tk tg H4,H3 pg=none->H4 pg=some (.ins (c.pg.of n.lv) dx (PgF tk tg))->H4 tk=some (.tup (n.ks.map V.int))->H4 tg=some (.tup (n.gs.map V.int))->aQ H3 H4->∀tt,H4 tt=none->∀H5,H5=upd (upd H4 tt (.tup [.int n.lv,.ref pg,oV n.hi,oV n.rt,.int 1])) ln (.lst (xs++[.ref tt]))->aQ H H5/\H5 ln=some (.lst (xs++[.ref tt]))/\Tns c H5 (xs++[.ref tt]) (osf f (i+1)):=by
    rintro pg dx tk tg H4 fpg q1 q2 q3 S4 tt ftt H5 rfl;have e4:=S4 _ _ e3
    have up:∀{b:Addr} {o:HO},H4 b=some o->(∀ys,o≠.lst ys)->upd (upd H4 tt (.tup [.int n.lv,.ref pg,oV n.hi,oV n.rt,.int 1])) ln (.lst (xs++[.ref tt])) b=some o:=fun {b o} z nl=>by
     rw[ak (fun w=>by rw[w,e4] at z;cases z;exact nl _ rfl)];exact cm ftt z
    have ntl:tt≠ln:=fun w=>by rw[w,e4] at ftt;cases ftt
    refine⟨fun b o z=>?_,ae,?_⟩
    ·rw[ak (ah z fln)];exact cm ftt (S4 _ _ (S3 _ _ z))
    ·rw[p7];refine Tns.snoc ⟨ts.1,fun j x o a b=>(ts3 j x o a b).keep fun b' o' z nl=>up (S4 _ _ z) nl⟩ ?_;rw[en];exact .yes tt pg n (by rw[ak ntl,ae]) ⟨dx,tk,tg,up q1 nofun,up q2 nofun,up q3 nofun⟩ no.lv.1 no.lv.2 no.ho no.wr
   have ix:∀tt,ixN (xs++[V.int old]).length ((i:Nat):Int)=some i/\(xs++[V.int old]).set i (.ref tt)=xs++[.ref tt]:=fun tt=>by
    refine⟨?_,?_⟩
    ·unfold ixN;rw[aH (by lia),toNat_natCast,aH (by rw[am];simp;lia)]
    ·rw[<- lx,List.set_append_right _ _ (by lia),sub_self];rfl
   by_cases l0:n.lv=0
   ·refine iW (by lia) ?_;walk;refine xl (s3 _ _ i2) (s3 _ _ i3) no.ks (no.l l0 (by decide)) fun pg dx tk tg H4 fpg _ _ q1 q2 q3 S4=>?_;walk;refine⟨sz,fun tt ftt=>?_⟩;walk;refine pK (cm ftt (S4 _ _ e3)) (ix tt).1 ?_;rw[(ix tt).2];obtain⟨r1,r2,r3⟩:=fin pg dx tk tg H4 fpg (by rw[l0];exact q1) q2 q3 S4 tt ftt _ rfl;exact⟨_,_,_,_,_,_,_,_,rfl,r1,r2,r3⟩
   ·refine ik (by have:=no.lv;lia) ?_;walk;refine xl (s3 _ _ i2) (s3 _ _ i3) no.ks (no.gi l0) fun pg dx tk tg H4 fpg _ _ q1 q2 q3 S4=>?_;walk;refine⟨sz,fun tt ftt=>?_⟩;walk;refine pK (cm ftt (S4 _ _ e3)) (ix tt).1 ?_;rw[(ix tt).2];obtain⟨r1,r2,r3⟩:=fin pg dx tk tg H4 fpg (by unfold Cp.of;rw[aA l0];exact q1) q2 q3 S4 tt ftt _ rfl;exact⟨_,_,_,_,_,_,_,_,rfl,r1,r2,r3⟩
  ·rw[aF ip];walk;refine⟨_,_,_,_,_,_,_,_,rfl,S3,e3,?_⟩;rw[p7,m.o _ ip];exact Tns.snoc ⟨ts.1,ts3⟩ (.no _ a0 (by lia))
 ·rintro σ H2 ⟨xs,o4,o5,o6,o7,o8,o9,o10,rfl,S2,e2,ts⟩;rw[show (mx+1).toNat=mx.toNat+1 by lia] at ts;walk;refine⟨d,kvs,ps,f,h,rfl,m,s.trans S2,pne,fun p hp=>⟨(rg p hp).1,by have:=(rg p hp).2;lia⟩,fun l3 ys H3 fl3 e3 ly S3=>?_⟩;walk;refine⟨l3,ys,rfl,.inl (SqL.of e3),?_⟩;walk;have S03:=S2.trans S3;have rt:=rg tp tin;have etp:tp=((tp.toNat:Nat):Int):=by lia
  have gt:=gmx tp tin;refine⟨ln,most,ys.length,tp.toNat,xs,osf f (mx.toNat+1),by rw[<- etp];rfl,b0,b1,natCast_nonneg _,by lia,S3 _ _ e2,ts.same S3,fun z=>?_,by rw[ts.1,fj];lia,fun i n hi=>?_,?_,fun x a h' H4 t4 S4 o4 S34 vf vn=>?_⟩
  ·have:=ts.1;rw[z,fj] at this;cases this
  ·have il:i<mx.toNat+1:=by have:=(aq.mp hi).1;rwa[fj] at this
   rw[sD il] at hi;obtain⟨no,rts⟩:=nok _ n (aw hi);rcases no.ed with z|⟨k,p,e1,e2,kr⟩
   ·exact .inl z
   ·have pin:=rts p e2;have rp:=rg p pin;have gp:=gmx p pin;obtain⟨n',_,e',_⟩:=m.e p pin;refine .inr ⟨k,p.toNat,e1,by rw[e2];congr 1;lia,kr,by rw[fj];lia,?_⟩;rw[mK (by lia),show ((p.toNat:Nat):Int)=p by lia,e'];rfl
  ·obtain⟨n',_,e',_⟩:=m.e tp tin;rw[mK (by lia),<- etp,e'];rfl
  ·have tm:=wg m t4 (fun p n e=>(nok p n e).1) (N:=mx.toNat+1) (fun p hp=>⟨(rg p hp).1,by have:=gmx p hp;have:=(rg p hp).1;lia⟩) (by lia) (by rw[<- etp];exact tin) vf vn;rw[<- etp] at tm t4;exact q x a h' H4 _ t4 tm rfl S4 (o4.mono S03) (S03.trans S34)
theorem iZ {a}(h:H a=some (.lst xs))(hb:H b=some (.lst []))(q:Q (.bl (!xs.isEmpty)) H):Aj K true (.ref a) (.ref b) H Q:=by
 refine⟨a,b,xs,[],rfl,rfl,SqL.of h,SqL.of hb,fun _ j x y _ e=>(by cases e),?_⟩;cases xs with
 | nil=>exact q
 | cons x xs=>exact q
theorem lF {p:Int}(h:H b=some (.lst (ns.map V.int)))(q:Q (.bl (!decide (p∈ns))) H):rIn K true (.int p) (.ref b) H Q:=⟨b,_,rfl,.inl (SqL.of h),rfl,vq,by rw[aH rfl,u_];exact q⟩
def KRD (R:It->Hp->Prop)(vs:List V)(H1:Hp):Prop:=∃i j:Int,vs=[.int i,.int j,.int (-1)]/\(-(2 ^ 20)<=j/\j<=i/\i<2 ^ 20)/\R (Itd i (i - j).toNat) H1
theorem yA {ta:L2.TA}(h:ta σ H (KRD R)):zN ta σ H R:=h
theorem oo {t:TS}{n bk:St->Hp->Prop}(R:St->Hp->Prop)(mk:∀N:St->Hp->Prop,(∀σ' H',R σ' H'->N σ' H')->t ⟨N,rt,bk,ct⟩ σ H)(q:∀σ' H',R σ' H'->n σ' H'):t ⟨n,rt,bk,ct⟩ σ H:=mk n q
inductive spLLv (vs:List V)(H:Hp)(Q:VK)(E:XK):Prop
 | mk (d:Addr)(kvs:List (Key×V))(ps:List Int)(f:Int->Option ND)(h:Hp)(tp:Int)(nt:ND)(k:Nat):vs=[.ref d,.int tp]->IsM h d kvs ps f->aQ h H->f tp=some nt->nt.lv=k->k<=60->ps.length<64->(∀p n,f p=some n->0<n.lv->n.gs≠[]) ->
   (∀rows l as H',Lvs f k [] (some tp) rows->H l=none->(∀b∈as,H b=none)->H' l=some (.lst (as.map V.ref))->LL H' as rows->(∀r∈rows,r.length<64)->aQ H H'->Q (.ref l) H')->spLLv vs H Q E
theorem zc:Ok F F.r.d__law_levels 1 spLLv:=by
 refine F.r.d__law_levels.go fun sc H Q hr h=>?_;obtain⟨d,kvs,ps,f,h,tp,nt,k,rfl,m,s,ent,elv,hk,few,gne,q⟩:=h;have hu:=hr.units0;have hd:=s _ _ m.d;obtain⟨qt,et,klt,glt,i1,i2,i3⟩:=m.at ent
 refine⟨_,(ad (cD sc 2 (bw cy))
  (ad (cD sc 3 (bw cy))
  (ad (cD sc 4 (pv 1))
  (ad (dC PassesOwn.never rfl (sw rfl F.r.T.n_range (pa3 (pix aS (dL (dt hr) (pv 0) (pv 1) (fun _ _=>rfl)) ap) (ii eX ap) (ii eX ap))) (eO sc 5)
   (ad (cD sc 6 (bw cy))
  (ad (cD sc 7 (pv 4))
  (ad (iE PassesOwn.never (PW.pt (fM (dF mO (pv 7) (pv 0) (by with_unfolding_all rfl)) (fM (dF fQ (pv 7) (pv 3) (by with_unfolding_all rfl)) (d0 (pc fJ (pix aS (dL (dt hr) (pv 0) (pv 7) (fun _ _=>rfl)) ap) (pv 5))))))
   (ad (a_ (fU aX PySem.F.slot_list_append PySem.F.type_list_append cK (pv 6) (pa1 (pv 7))))
  (ad (a_ (fU aX PySem.F.slot_list_append PySem.F.type_list_append cK (pv 3) (pa1 (pv 7))))
  (ao (cD sc 7 (pix aS (dL (dt hr) (pv 0) (pv 7) (fun _ _=>rfl)) ap))))))
  (ad (cD sc 4 (dG (PW.pt (fM (pc (kK hu) (pv 6) (bw cy)) (d0 (pc i8 (pv 5) ap)))) (pix aS (pix aS (dL (dt hr) (pv 0) (pix aS (pv 6) ap) (fun _ _=>rfl)) ap) ap) bV))
  (ao (a_ (fU aX PySem.F.slot_list_append PySem.F.type_list_append cK (pv 2) (pa1 (pv 6))))))))))
  (ao (bc (pv 2))))))),?_⟩
 walk;refine⟨sz,fun lf flf=>?_⟩;generalize hG:upd H lf (.lst [])=H1 at *;have S1:=sG hG flf;have e1:=eG hG;walk;refine⟨sz,fun ls fls=>?_⟩;have n12:=ah e1 fls;generalize hG:upd H1 ls (.lst [])=H2 at *;have S2:=sG hG fls;have S02:=S1.trans S2;walk;refine yA ?_;walk;refine dM (k:=Sum.inl tp) (S02 _ _ hd) et ?_;walk;refine cG (S02 _ _ (s _ _ i1)) (v:=.int nt.lv) rfl ?_;walk
 refine⟨nt.lv,-1,rfl,⟨by decide,by lia,by lia⟩,?_⟩;rw[elv,show ((k:Int) - -1).toNat=k+1 by lia]
 refine jO (k+1) (fun i σ H3=>∃(acc:List (List Int)) (as:List Addr) (st:Option Int) (o5 o6 o7:Option V),σ=[some (.ref d),some (.int tp),some (.ref lf),some (.ref ls),some (oV st),o5,o6,o7]/\acc.length=i/\aQ H H3/\H3 lf=some (.lst (as.map V.ref))/\LL H3 as acc/\(∀b∈as,H b=none/\b≠lf/\b≠ls)/\(∀r∈acc,r.length<64) /\
   H3 ls=some (.lst (acc.flatten.map V.int))/\acc.flatten.length+(cY ps acc.flatten).length<=ps.length/\(∀j,i+j=k->∀rest,Lvs f j acc.flatten st rest->Lvs f k [] (some tp) (acc++rest))/\(i=k+1->Lvs f k [] (some tp) acc)) ?_ ?_ ?_
 ·refine⟨[],[],some tp,_,_,_,rfl,rfl,S02,(S2 _ _ e1),⟨rfl,nofun⟩,nofun,nofun,(eG hG),by rw[List.flatten_nil,sR];simp,fun j hj rest z=>?_,fun z=>by lia⟩;have:j=k:=by lia
  subst this;exact z
 ·rintro i σ H3 lt ⟨acc,as,st,o5,o6,o7,rfl,la,S3,elf,ll,fr,lr,els,cnt,cl,_⟩;refine⟨lt,fun v H3' y=>?_⟩;obtain⟨rfl,rfl⟩:=y;obtain⟨j,hj⟩:∃j,i+j=k:=⟨k - i,by lia⟩;rw[show ((k:Nat):Int) - (i:Nat)=(j:Nat) by lia];have cl':=cl j hj;walk;refine⟨sz,fun lw flw=>?_⟩;have S4:aQ H3' (upd H3' lw (.lst [])):=aQ.upd flw;have e4:upd H3' lw (.lst []) lw=some (.lst []):=ae
  have nwf:lw≠lf:=fun z=>by rw[z,elf] at flw;cases flw
  have nws:lw≠ls:=fun z=>by rw[z,els] at flw;cases flw
  have fw0:=S3.free flw;have S04:=S3.trans S4
  have asn:∀b∈as,b≠lw:=fun b hb=>by
   obtain⟨x,hx,ex⟩:=bD hb;have hx':x<acc.length:=by rw[<- ll.1];exact hx
   exact ah (ll.2 x b _ (by rw[aa hx,ex]) (aa hx')) flw
  have ll4:=ll.keep fun b _ o z=>S4 _ _ z;generalize upd H3' lw (.lst [])=H4 at *;walk
  refine oo (fun σ' H'=>∃(rr:List Int) (o7:Option V),σ'=[some (.ref d),some (.int tp),some (.ref lf),some (.ref ls),some (oV st),some (.int (j:Int)),some (.ref lw),o7]/\Chn f (j:Int) acc.flatten st rr/\(acc.flatten++rr).length+(cY ps (acc.flatten++rr)).length<=ps.length /\
   aQ H H'/\H' lf=some (.lst (as.map V.ref))/\LL H' as acc/\H' ls=some (.lst ((acc.flatten++rr).map V.int))/\H' lw=some (.lst (rr.map V.int))) (fun N z=>?_) ?_
  ·refine jM (fun mm σ H5=>∃(rr:List Int) (cur:Option Int),σ=[some (.ref d),some (.int tp),some (.ref lf),some (.ref ls),some (oV st),some (.int (j:Int)),some (.ref lw),some (oV cur)]/\mm=(cY ps (acc.flatten++rr)).length/\(acc.flatten++rr).length+mm<=ps.length/\(∀ch,Chn f (j:Int) (acc.flatten++rr) cur ch->Chn f (j:Int) acc.flatten st (rr++ch)) /\
    aQ H H5/\H5 lf=some (.lst (as.map V.ref))/\LL H5 as acc/\H5 ls=some (.lst ((acc.flatten++rr).map V.int))/\H5 lw=some (.lst (rr.map V.int))) (cY ps acc.flatten).length ?_ ?_
   ·refine⟨[],st,rfl,by rw[b_],by rw[b_];exact cnt,fun ch z=>by rw[b_] at z;exact z,S04,(S4 _ _ elf),ll4,by rw[b_];exact(S4 _ _ els),e4⟩
   rintro mm σ H5 ⟨rr,cur,rfl,rfl,cn,ck,S5,f5,l5,s5,w5⟩;have sm:=s.trans S5;have fin:Chn f (j:Int) (acc.flatten++rr) cur []->N [some (.ref d),some (.int tp),some (.ref lf),some (.ref ls),some (oV st),some (.int (j:Int)),some (.ref lw),some (oV cur)] H5:=fun y=>z _ _ ⟨rr,_,rfl,by have:=ck [] y;rwa[b_] at this,cn,S5,f5,l5,s5,w5⟩;walk;refine⟨d,kvs,rfl,.inl (S5 _ _ hd),?_⟩;cases cur with
   | none=>
    refine .inr ⟨rfl,?_⟩;walk;exact fin (.no _)
   | some p=>
    refine .inl ⟨.inl p,rfl,?_⟩;dsimp only[oV] at fin ⊢;rw[aA ay,m.val];by_cases hp:p∈ps
    ·rw[av hp];obtain⟨n,qa,en,eq,kl,gl,j1,j2,j3⟩:=m.e p hp;walk;refine lF s5 ?_;by_cases hs:p∈acc.flatten++rr
     ·rw[av hs];walk;exact fin (.off _ _ fun n' _ y _=>y hs)
     ·rw[aF hs];walk;refine dM (k:=Sum.inl p) (S5 _ _ hd) eq ?_;walk;by_cases el:n.lv=(j:Int)
      ·refine ik (bq V.int el) (wb ?_);walk;refine dh w5 (by rw[af];rw[am] at cn;have:=bp;lia) ?_;have s6:upd H5 lw (.lst (rr.map V.int++[.int p])) ls=some (.lst ((acc.flatten++rr).map V.int)):=by rw[ak nws.symm];exact s5
       walk;refine dh s6 (by rw[af];have:=bp;lia) ?_;have up:∀{b:Addr} {o:HO},H5 b=some o->b≠lw->b≠ls->upd (upd H5 lw (.lst (rr.map V.int++[.int p]))) ls (.lst ((acc.flatten++rr).map V.int++[.int p])) b=some o:=fun e a1 a2=>by rw[ak a2,ak a1];exact e
       have S7:aQ H (upd (upd H5 lw (.lst (rr.map V.int++[.int p]))) ls (.lst ((acc.flatten++rr).map V.int++[.int p]))):=fun b o y=>up (S5 _ _ y) (ah y fw0) (ah y (S1.free fls));generalize hG:upd (upd H5 lw _) ls _=H7 at *;have s7:H7 ls=some (.lst ((acc.flatten++(rr++[p])).map V.int)):=by rw[<- hG,ae];simp
       have w7:H7 lw=some (.lst ((rr++[p]).map V.int)):=by rw[<- hG,ak nws,ae,aW];rfl
       walk;refine dM (k:=Sum.inl p) (S7 _ _ hd) eq ?_;walk;refine cG (S7 _ _ (s _ _ j1)) (v:=oV n.rt) rfl ?_;walk
       have lt2:(cY ps (acc.flatten++(rr++[p]))).length<(cY ps (acc.flatten++rr)).length:=by
        rw[<- aO,<- j4];have:=(eC (show (cY ps (acc.flatten++rr)).Nodup from m.nd.filter _) (mU.mpr ⟨hp,hs⟩)).length_eq;rw[bf] at this
        have e:cY (cY ps (acc.flatten++rr)) [p]=(cY ps (acc.flatten++rr)).filter fun n=>decide (n≠p):=by
         conv=>lhs;unfold cY
         refine filter_congr fun x _=>?_;rw[decide_eq_decide,au]
        rw[e]
        lia
       refine⟨_,lt2,rr++[p],n.rt,rfl,rfl,?_,fun ch y=>?_,S7,(up f5 nwf.symm n12),(l5.keep fun b hb o y=>up y (asn b hb) (fr b hb).2.2),s7,w7⟩
       ·rw[<- aO,am];simp only[bf,xR];rw[aO];lia
       ·rw[aO];exact ck _ (.on en hs el (by rw[aO];exact y))
      ·refine iW (fun y=>el (V.int.inj y)) ?_;walk;refine fin (.off _ _ fun n' e' _ y=>el ?_);rw[en] at e';cases e';exact y
    ·rw[aF hp];walk;exact fin (.off _ _ fun n' e' _ _=>by rw[m.o p hp] at e';cases e')
  rintro σ5 H5 ⟨rr,o7,rfl,hch,cn,S5,f5,l5,s5,w5⟩;have sm:=s.trans S5;refine dB (by assumption) ?_;refine eK (fun σ' H'=>∃st':Option Int,σ'=[some (.ref d),some (.int tp),some (.ref lf),some (.ref ls),some (oV st'),some (.int (j:Int)),some (.ref lw),o7]/\(0<j->st'=nxt f rr)/\aQ H5 H') (fun N z=>?_) ?_
  ·walk;refine⟨sz,fun b0 fb0=>?_⟩;refine iZ (cm fb0 w5) ae ?_;generalize hG:upd H5 b0 (.lst [])=H6 at *;have S6:=sG hG fb0;walk;cases rr with
   | nil=>
    refine kR (c:=false) rfl (fY ?_);walk;exact z _ _ ⟨none,rfl,fun _=>rfl,S6⟩
   | cons p r=>
    obtain⟨_,n,en,el⟩:=hch.of p (.head _);obtain⟨qa,eq,kl,gl,j1,j2,j3⟩:=m.at en;refine kR (c:=true) rfl (gC ?_);walk;by_cases j0:j=0
    ·refine iW (by lia) ?_;walk;exact z _ _ ⟨none,rfl,fun y=>by lia,S6⟩
    ·refine ik (by lia) ?_;walk;refine cG (S6 _ _ w5) (kq rfl) ?_;walk;refine dM (k:=Sum.inl p) (S6 _ _ (S5 _ _ hd)) eq ?_;walk;refine cG (S6 _ _ (sm _ _ j1)) (v:=.ref gl) rfl ?_;walk;cases eg:n.gs with
     | nil=>exact aY eg (gne p n en (by lia))
     | cons g0 gr=>
      rw[eg] at j3;refine cG (S6 _ _ (sm _ _ j3)) (v:=.int g0) (kq rfl) ?_;walk;refine z _ _ ⟨some g0,rfl,fun _=>?_,S6⟩;unfold nxt;dsimp only;rw[en,bind_some,eg];rfl
  rintro σ6 H6 ⟨st',rfl,hst,S6⟩;walk;refine dh (S6 _ _ f5) (by rw[af,ll.1];have:=bp;lia) ?_;have up:∀{b:Addr} {o:HO},H6 b=some o->b≠lf->upd H6 lf (.lst (as.map V.ref++[.ref lw])) b=some o:=fun e a1=>by rw[ak a1];exact e
  refine⟨acc++[rr],as++[lw],st',_,_,_,rfl,?_,fun b o y=>up (S6 _ _ (S5 _ _ y)) (ah y flf),?_,?_,?_,?_,?_,?_,fun j' hj' rest y=>?_,fun y=>?_⟩
  ·rw[am,la];rfl
  ·rw[ae,aW];rfl
  ·refine LL.snoc (l5.keep fun b hb o y=>up (S6 _ _ y) (fr b hb).2.1) (up (S6 _ _ w5) nwf)
  ·intro b hb;rcases aT.mp hb with hb|hb
   ·exact fr b hb
   ·rw[au.mp hb];exact⟨fw0,nwf,nws⟩
  ·intro r hr';rcases aT.mp hr' with hr'|hr'
   ·exact lr r hr'
   ·rw[au.mp hr'];rw[am] at cn;lia
  ·rw[flatten_append];have:=up (S6 _ _ s5) n12.symm;simpa using this
  ·rw[flatten_append];simpa using cn
  ·rw[aO];refine cl' _ ?_;rw[flatten_append] at y;obtain⟨j2,rfl⟩:∃j2,j=j2+1:=⟨j - 1,by lia⟩;have:j'=j2:=by lia
   subst this;refine .s hch ?_;rw[<- hst (by lia)];simpa using y
  ·refine cl' [rr] ?_;have:j=0:=by lia
   subst this;exact .z hch
 ·rintro σ H3 ⟨acc,as,st,o5,o6,o7,rfl,la,S3,elf,ll,fr,lr,els,cnt,cl,ce⟩;refine⟨aE _,?_⟩;walk;exact q acc lf as H3 (ce rfl) flf (fun b hb=>(fr b hb).1) elf ll lr S3
section
variable {ta:L2.TA}{a:Addr}{zs:List V}
def KEN (K:Frag)(R:It->Hp->Prop)(vs:List V)(H1:Hp):Prop:=∃a,vs=[.ref a]/\(∃xs,SqL K H1 a xs)/\R (ItE K a) H1
theorem Ai (h:ta σ H (KEN K R)):vW K ta σ H R:=h
theorem Al (h:H a=some (.lst xs))(q:R (ItE K a) H):KEN K R [.ref a] H:=⟨a,rfl,⟨xs,SqL.of h⟩,q⟩
theorem wD (h:H a=some (.lst xs))(h':H b=some (.lst zs))(l:xs.length+zs.length<=sizeLine)(q:Q .non (upd H a (.lst (xs++zs)))):rV (.ref a) [.ref b] H Q:=⟨a,b,xs,zs,rfl,rfl,h,h',l,q⟩
end
def unq (f:Int->Option ND)(rows:List (List Int)):Nat->List Int
 | 0=>[]
 | i+1=>unp f rows i
def sel (i:Nat)(ab r:List Int)(j:Nat):List Int:=if i=0 then (r.take j).drop 1 else (r.take j).filter fun p=>decide (p∉ab)
theorem qo {f:Int->Option ND}(g7:∀p n,f p=some n->n.gs.length<=7):∀ps:List Int,(gu f ps).length<=7 * ps.length
 | []=>aE _
 | p::ps=>by
  have ih:=qo g7 ps;have e:gu f (p::ps)=(match f p with|some n=>n.gs|none=>[])++gu f ps:=by unfold gu;rw[List.flatMap_cons]<;>rfl
  rw[e,am,bf];cases q:f p with
  | none=>simp;lia
  | some n=>have:=g7 p n q;simp only;lia
theorem uu (h:rows[i]?=some r):unq f rows (i+1)=unq f rows i++sel i (gu f (if i=0 then [] else (rows[i - 1]?).getD [])) r r.length:=by
 cases i with
 | zero=>
  unfold unq sel unp;rw[aH rfl,take_length,h];simp
 | succ i=>
  have hi:i<rows.length:=by have:=(aq.mp h).1;lia
  show unp f rows (i+1)=unp f rows i++_;rw[pA (aa hi) h];unfold sel;rw[aA (Nat.succ_ne_zero _),take_length,aA (Nat.succ_ne_zero _),Nat.add_sub_cancel,aa hi];rfl
inductive spLUnp (vs:List V)(H:Hp)(Q:VK)(E:XK):Prop
 | mk (d:Addr)(kvs:List (Key×V))(ps:List Int)(f:Int->Option ND)(h:Hp)(l:Addr)(as:List Addr)(rows:List (List Int))(k:Nat):vs=[.ref d,.ref l]->IsM h d kvs ps f->aQ h H->H l=some (.lst (as.map V.ref))->LL H as rows->rows.length=k+1->k<=60->(∀r∈rows,r.length<64/\∀p∈r,∃n,f p=some n)->(∀p n,f p=some n->n.gs.length<=7) ->
   (∀lf H',H lf=none->H' lf=some (.lst ((unp f rows k).map V.int))->aQ H H'->Q (.ref lf) H')->spLUnp vs H Q E
theorem wZ:Ok F F.r.d__law_unposted 1 spLUnp:=by
 refine F.r.d__law_unposted.go fun sc H Q hr h=>?_;obtain⟨d,kvs,ps,f,h,l,as,rows,k,rfl,m,s,hl,ll,lr,hk,rm,g7,q⟩:=h;have rm64:∀r∈rows,r.length<64:=fun r hr=>(rm r hr).1
 refine⟨_,(ad (cD sc 2 (bw cy))
  (ad (dC PassesOwn.never rfl (gm rfl F.r.T.n_enumerate dw (pa1 (pv 1))) (gc rfl (bn (eO sc 3) (bn (eO sc 4) dS)))
   (ad (cD sc 5 (bw cy))
  (ad (cD sc 6 (dG (pc i8 (pv 3) ap) (pix aS (pv 1) (bN g_ (pv 3) ap)) (bw cy)))
  (ad (dC PassesOwn.never rfl (dm (pv 6)) (eO sc 7)
   (ao (a_ (fU aX slot_list_extend type_list_extend jZ (pv 5) (pa1 (pix aS (dL (dt hr) (pv 0) (pv 7) (fun _ _=>rfl)) ap))))))
  (ao (dC PassesOwn.never rfl (gm rfl F.r.T.n_enumerate dw (pa1 (pv 4))) (gc rfl (bn (eO sc 8) (bn (eO sc 7) dS)))
   (ao (bT (PW.pt (fM (dF fQ (pv 7) (pv 5) (by with_unfolding_all rfl)) (d0 (cO (PW.pt (fM (pc fJ (pv 3) ap) (d0 (pc fJ (pv 8) ap))))))))
   (ao (a_ (fU aX PySem.F.slot_list_append PySem.F.type_list_append cK (pv 2) (pa1 (pv 7)))))
   bd))))))))
  (ao (bc (pv 2))))),?_⟩
 walk;refine⟨sz,fun lf flf=>?_⟩;generalize hG:upd H lf (.lst [])=H1 at *;have S1:=sG hG flf;walk;refine Ai ?_;walk;refine Al (S1 _ _ hl) ?_;have oldn:∀{b:Addr} {o:HO},H b=some o->b≠lf:=fun z=>ah z flf
 refine jO rows.length (fun i σ H2=>∃o3 o4 o5 o6 o7 o8,σ=[some (.ref d),some (.ref l),some (.ref lf),o3,o4,o5,o6,o7,o8]/\aQ H H2/\H2 lf=some (.lst ((unq f rows i).map V.int))) ⟨_,_,_,_,_,_,rfl,S1,(eG hG)⟩ ?_ ?_
 ·rintro i σ H2 lt ⟨o3,o4,o5,o6,o7,o8,rfl,S2,e2⟩;have er:=aa lt;obtain⟨rm1,rm2⟩:=rm _ (getElem_mem lt);generalize rows[i]=r at *;have ia:i<(as.map V.ref).length:=by rw[af,ll.1];exact lt
  refine⟨kQ (S2 _ _ hl) ia,fun v H3 y=>?_⟩;obtain⟨tt,x,rfl,ftt,ex,rfl⟩:=jb (S2 _ _ hl) y;obtain⟨ar,ea,har⟩:=ll.at er;rw[aB,ea] at ex;cases ex;generalize hG:upd H2 tt _=H3 at *;have S3:=S2.trans (sG hG ftt);have e3:=nG hG ftt e2;have t3:=eG hG;walk;refine⟨sz,fun la fla=>?_⟩;have naf:la≠lf:=fun z=>by rw[z,e3] at fla;cases fla
  have fa0:=S3.free fla;generalize hG:upd H3 la _=H4 at *;have S4:=S3.trans (sG hG fla);have e4:=nG hG fla e3;have a4:=eG hG;refine dB (by assumption) ?_;generalize hov:(if i=0 then [] else (rows[i - 1]?).getD [])=ov
  have ovm:ov.length<64/\∀p∈ov,∃n,f p=some n:=by
   subst hov;split
   ·exact⟨by decide,nofun⟩
   ·have:i - 1<rows.length:=by lia
    rw[aa this];exact rm _ (getElem_mem this)
  refine eK (fun σ' H'=>∃lo,σ'=[some (.ref d),some (.ref l),some (.ref lf),some (.int (i:Int)),some (.ref ar),some (.ref la),some (.ref lo),o7,o8]/\aQ H4 H'/\H' lo=some (.lst (ov.map V.int))/\lo≠la/\lo≠lf) (fun N z=>?_) ?_
  ·walk;by_cases i0:i=0
   ·refine iW (by lia) ?_;walk;refine⟨sz,fun lo flo=>?_⟩;rw[aH i0] at hov;subst hov;walk;exact z _ _ ⟨lo,rfl,aQ.upd flo,ae,(fun w=>by rw[w,a4] at flo;cases flo),(fun w=>by rw[w,e4] at flo;cases flo)⟩
   ·refine ik (by lia) ?_;walk;have hi1:i - 1<rows.length:=by lia
    rw[aA i0,aa hi1] at hov;obtain⟨b1,eb1,hb1⟩:=ll.at (aa hi1);refine cG (S4 _ _ hl) (v:=.ref b1) ?_ ?_
    ·rw[show ((i:Nat):Int) - 1=((i - 1:Nat):Int) by lia];exact dN (by rw[aB,eb1];rfl)
    walk;refine z _ _ ⟨b1,rfl,aQ.refl _,?_,(fun w=>by rw[w,fa0] at hb1;cases hb1),oldn hb1⟩;rw[S4 _ _ hb1,<- hov];rfl
  rintro σ5 H5 ⟨lo,rfl,S45,eo,nlo,nlf⟩;have a5:=S45 _ _ a4;walk
  refine pM (xs:=ov.map V.int) (fun j σ H6=>∃o7,σ=[some (.ref d),some (.ref l),some (.ref lf),some (.int (i:Int)),some (.ref ar),some (.ref la),some (.ref lo),o7,o8]/\aQ H H6/\H6 lf=some (.lst ((unq f rows i).map V.int))/\H6 la=some (.lst ((gu f (ov.take j)).map V.int))/\H6 lo=some (.lst (ov.map V.int))) ⟨_,rfl,(S4.trans S45),(S45 _ _ e4),a5,eo⟩ (fun j σ H6 _ z=>let⟨_,_,_,_,_,e⟩:=z;e) ?_ ?_
  ·rintro j v σ H6 ev ⟨o7,rfl,S6,e6,a6,eo6⟩;rw[aB] at ev;obtain⟨p,ep,rfl⟩:=bt.mp ev;obtain⟨n,en⟩:=ovm.2 p (aK ep);obtain⟨qa,eq,kl,gl,j1,j2,j3⟩:=m.at en;have sm:=s.trans S6;walk;refine dM (k:=Sum.inl p) (S6 _ _ (s _ _ m.d)) eq ?_;walk;refine wD a6 (sm _ _ j3) ?_ ?_
   ·rw[af,af];have h1:=qo g7 (ov.take j);have h2:(ov.take j).length<=64:=by rw[bo];lia
    have h3:=g7 p n en;have:=bp
    lia
   walk;refine⟨_,rfl,fun b o y=>?_,?_,?_,?_⟩
   ·rw[ak (ah y fa0)];exact S6 _ _ y
   ·rw[ak naf.symm];exact e6
   ·rw[ae,dO ep,mZ en,aW]
   ·rw[ak nlo];exact eo6
  rintro σ6 H6 ⟨o7',rfl,S6,e6,a6,eo6⟩;rw[af,take_length] at a6;have us:=uu (f:=f) er;rw[hov] at us
  have ul:(unq f rows i).length<=64 * 64:=by
   cases i with
   | zero=>exact zero_le _
   | succ i=>have:=jL (f:=f) rm64 i;show (unp f rows i).length<=_;lia
  walk;refine Ai ?_;walk;refine Al (S6 _ _ har) ?_;refine jO r.length (fun j σ H7=>∃o7 o8,σ=[some (.ref d),some (.ref l),some (.ref lf),some (.int (i:Int)),some (.ref ar),some (.ref la),some (.ref lo),o7,o8]/\aQ H H7/\H7 lf=some (.lst ((unq f rows i++sel i (gu f ov) r j).map V.int))/\H7 la=some (.lst ((gu f ov).map V.int))) ⟨_,_,rfl,S6,?_,a6⟩ ?_ ?_
  ·rw[e6];unfold sel;split<;>simp
  ·rintro j σ H7 jl ⟨o7,o8,rfl,S7,e7,a7⟩;have ha7:=S7 _ _ har;refine⟨kQ ha7 (by rw[af];exact jl),fun v H8 y=>?_⟩;obtain⟨t8,x8,rfl,ft8,ex8,rfl⟩:=jb ha7 y;have ep:=aa jl;rw[aB,ep] at ex8;cases ex8;generalize r[j]=p at *;generalize hG:upd H7 t8 _=H8 at *;have S8:=S7.trans (sG hG ft8);have e8:=nG hG ft8 e7;have a8:=nG hG ft8 a7;have t88:=eG hG
   have sl:(sel i (gu f ov) r j).length<=64:=by
    unfold sel;split
    ·rw[bO,bo];lia
    ·exact bh (bF _ _) (by rw[bo];lia)
   have no:sel i (gu f ov) r (j+1)=sel i (gu f ov) r j->∃o7 o8,[some (V.ref d),some (V.ref l),some (V.ref lf),some (V.int (i:Int)),some (V.ref ar),some (V.ref la),some (V.ref lo),some (.int p),some (.int (j:Int))]=[some (V.ref d),some (V.ref l),some (V.ref lf),some (V.int (i:Int)),some (V.ref ar),some (V.ref la),some (V.ref lo),o7,o8]/\aQ H H8/\H8 lf=some (.lst ((unq f rows i++sel i (gu f ov) r (j+1)).map V.int))/\H8 la=some (.lst ((gu f ov).map V.int)):=fun z=>⟨_,_,rfl,S8,by rw[z];exact e8,a8⟩
   walk;refine lF a8 ?_;by_cases pk:p∈gu f ov
   ·rw[av pk];walk;refine no ?_;have i0:i≠0:=fun z=>by rw[aH z] at hov;subst hov;cases pk
    unfold sel;rw[aA i0,aA i0,dO ep,filter_append,filter_cons_of_neg (by rw[aF (fun z=>z pk)];exact ay)];simp
   ·rw[aF pk]
    have add:sel i (gu f ov) r (j+1)=sel i (gu f ov) r j++[p]->∃o7 o8,[some (V.ref d),some (V.ref l),some (V.ref lf),some (V.int (i:Int)),some (V.ref ar),some (V.ref la),some (V.ref lo),some (.int p),some (.int (j:Int))]=[some (V.ref d),some (V.ref l),some (V.ref lf),some (V.int (i:Int)),some (V.ref ar),some (V.ref la),some (V.ref lo),o7,o8]/\aQ H (upd H8 lf (.lst ((unq f rows i++sel i (gu f ov) r j).map V.int++[.int p])))/\upd H8 lf (.lst ((unq f rows i++sel i (gu f ov) r j).map V.int++[.int p])) lf=some (.lst ((unq f rows i++sel i (gu f ov) r (j+1)).map V.int))/\upd H8 lf (.lst ((unq f rows i++sel i (gu f ov) r j).map V.int++[.int p])) la=some (.lst ((gu f ov).map V.int)):=fun z=>⟨_,_,rfl,fun b o y=>by rw[ak (ah y flf)];exact S8 _ _ y,by rw[ae,z];simp,by rw[ak naf];exact a8⟩
    have lw:((unq f rows i++sel i (gu f ov) r j).map V.int).length<sizeLine:=by
     rw[af,am];have:(5000:Nat)<=sizeLine:=by decide
     lia
    walk;by_cases i0:i=0
    ·refine ik (bq V.int (by lia)) ?_;walk;by_cases j0:j=0
     ·refine kR (c:=false) (by rw[av (bq V.int (by lia))];rfl) (fY ?_);walk;refine no ?_;unfold sel;rw[aH i0,aH i0,j0];cases r<;>rfl
     ·refine kR (c:=true) (by rw[aF (fun z=>j0 (by have:=V.int.inj z;lia))];rfl) (gC ?_);walk;refine dh e8 lw ?_;walk;refine add ?_;unfold sel;rw[aH i0,aH i0,dO ep,List.drop_append_of_le_length (by rw[bo];lia)]
    ·refine iW (fun z=>i0 (by have:=V.int.inj z;lia)) ?_;walk;refine dh e8 lw ?_;walk;refine add ?_;unfold sel;rw[aA i0,aA i0,dO ep,filter_append,filter_cons_of_pos (by rw[av pk])];simp
  ·rintro σ H7 ⟨o7,o8,rfl,S7,e7,a7⟩;refine⟨?_,?_⟩
   ·have:=gX (K:=K) (S7 _ _ har)
    rwa[af] at this
   exact⟨_,_,_,_,_,_,rfl,S7,by rw[us];exact e7⟩
 ·rintro σ H2 ⟨o3,o4,o5,o6,o7,o8,rfl,S2,e2⟩;refine⟨?_,?_⟩
  ·have:=gX (K:=K) (S2 _ _ hl)
   rwa[af,ll.1] at this
  walk;rw[lr] at e2;exact q lf H2 flf e2 S2
structure Row where
 ks:List Int
 lo:Option Int
 hi:Option Int
 ch:List Nat
variable {LS:List (List K31.Row)}
def chL (ch:List Nat):List V:=ch.map fun i:Nat=>V.int (i:Int)
def ui (p:Addr)(H:Hp)(q:Addr)(up:Bool)(r:Row):Prop:=q≠p/\∃kl,kl≠p/\H kl=some (.lst (r.ks.map V.int))/\if up then ∃cl,cl≠p/\H cl=some (.lst (chL r.ch))/\H q=some (.lst [.ref kl,oV r.lo,oV r.hi,.ref cl]) else H q=some (.lst [.ref kl,oV r.lo,oV r.hi])
theorem ui.kb {r:Row}(i:ui p H q up r)(k:∀b xs,H b=some (.lst xs)->b≠p->H' b=some (.lst xs)):ui p H' q up r:=by
 obtain⟨n,kl,n1,e1,e2⟩:=i;refine⟨n,kl,n1,k _ _ e1 n1,?_⟩;cases up with
 | true=>obtain⟨cl,n2,e3,e4⟩:=e2;exact⟨cl,n2,k _ _ e3 n2,k _ _ e4 n⟩
 | false=>exact k _ _ e2 n
def Rows (p:Addr)(H:Hp)(as:List Addr)(up:Bool)(rs:List Row):Prop:=as.length=rs.length/\∀(i:Nat) a r,as[i]?=some a->rs[i]?=some r->ui p H a up r
theorem Rows.kb {rs:List Row}(i:Rows p H as up rs)(k:∀b xs,H b=some (.lst xs)->b≠p->H' b=some (.lst xs)):Rows p H' as up rs:=⟨i.1,fun j a r e f=>(i.2 j a r e f).kb k⟩
theorem Rows.snoc {rs:List Row}{r:Row}(x:Rows p H as up rs)(e:ui p H b up r):Rows p H (as++[b]) up (rs++[r]):=by
 refine⟨by rw[am,am,x.1];rfl,fun i a q f g=>?_⟩;by_cases hi:i<as.length
 ·rw[aN hi] at f;rw[aN (by rw[<- x.1];exact hi)] at g;exact x.2 i a q f g
 ·rw[aM (by lia)] at f;rw[aM (by rw[<- x.1];lia),<- x.1] at g;cases z:i - as.length with
  | zero=>rw[z] at f g;cases f;cases g;exact e
  | succ j=>rw[z] at f;cases f
theorem jN {a}(h:V.ref a::xs=ks.map V.int):False:=by
 cases ks with
 | nil=>cases h
 | cons k r=>cases(List.cons.inj h).1
theorem rS {t u}{D:Ends}(R:Bool->Hp->Prop)(mk:∀Q':Bool->Hp->Prop,(∀b H',R b H'->Q' b H')->tt σ H Q')(q:∀b H',R b H'->if b=true then t D σ H' else u D σ H'):Ax tt t u D σ H:=mk _ q
def jE (hs:List Int):Nat->Option Int
 | 0=>none
 | i+1=>hs[i]?
structure LvP (rs:List Row)(hs:List Int):Prop where
 pw:hs.Pairwise (· < ·)
 hk:∀x∈hs,lh x
 row:∀(i:Nat) r,rs[i]?=some r->r.lo=jE hs i/\r.hi=hs[i]?/\KeysOk r.ks/\r.ks.length<=5
structure LvOk (rs:List Row)(hs:List Int):Prop where
 p:LvP rs hs
 n:rs.length=hs.length+1
 few:rs.length<=8
inductive spLeaves (vs:List V)(H:Hp)(Q:VK)(E:XK):Prop
 | mk (p:Addr)(most:Int)(n:Nat):vs=[.ref p,.int most]->Box H p n->n<=900000->2<=most->most<=5 ->
   (∀rs hs l as H',LvOk rs hs->H l=none->H' l=some (.lst (as.map V.ref))->l≠p->Rows p H' as false rs->Box H' p (n+200)->KB p H H'->Q (.ref l) H')->spLeaves vs H Q E
theorem sI:Ok F F.r.d__law_leaves 2 spLeaves:=by
 refine F.r.d__law_leaves.go fun sc H Q hr h=>?_;obtain⟨p,most,n,rfl,bx,hn,m0,m1,q⟩:=h;have hu:=hr.units0
 refine⟨_,(ad (cD sc 2 (bN cH ap (cc (bS F) hr (pa2 (pv 0) (pix aS (bw (pa2 ap ap)) (cc (bS F) hr (pa2 (pv 0) ap)))))))
  (ad (cD sc 3 (pix aS (bw (pa3 ap ap ap)) (cc (bS F) hr (pa2 (pv 0) ap))))
  (ad (cD sc 4 (pix aS (bw (pa4 (ii eX ap) ap (bN g_ ap ap) (ii eX ap))) (cc (bS F) hr (pa2 (pv 0) ap))))
  (ad (cD sc 5 bV)
  (ad (cD sc 6 (bw cy))
  (ad (dC PassesOwn.never rfl (da rfl F.r.T.n_range (pa1 (pv 2))) (eO sc 7)
   (ad (cD sc 8 (bw cy))
  (ad (dC PassesOwn.never rfl (da rfl F.r.T.n_range (pa1 (cc (bS F) hr (pa2 (pv 0) (bN cH (pv 1) ap))))) (eO sc 9)
   (ad (bT (PW.pt (jP (pc (kK hu) (pv 8) (bw cy)) (jP (pc jq (pv 5) bV) (iC (pc fJ (cc (bS F) hr (pa2 (pv 0) ap)) ap)))))
   (ao (cD sc 4 (bN cH (bN cH (pv 4) ap) (cc (bS F) hr (pa2 (pv 0) (pv 3))))))
   bd)
  (ao (a_ (fU aX PySem.F.slot_list_append PySem.F.type_list_append cK (pv 8) (pa1 (pv 4)))))))
  (ad (cD sc 10 bV)
  (ad (bT (pc qS (pv 7) (bN g_ (pv 2) ap))
   (ad (cD sc 4 (bN cH (bN cH (pv 4) ap) (cc (bS F) hr (pa2 (pv 0) (pv 3)))))
  (ao (cD sc 10 (pv 4))))
   bd)
  (ad (a_ (fU aX PySem.F.slot_list_append PySem.F.type_list_append cK (pv 6) (pa1 (bw (pa3 (pv 8) (pv 5) (pv 10))))))
  (ao (cD sc 5 (pv 10)))))))))
  (ao (bc (pv 6))))))))),?_⟩
 walk;refine⟨sz,fun l1 f1=>?_⟩;walk;refine⟨p,2,n,rfl,bx.same (aQ.upd f1),by lia,by decide,by decide,fun r1 H1 a1 b1 bx1 kb1=>?_⟩;obtain⟨z1,hz1,ez1⟩:=eE (ns:=[3,8]) a1 (by simpa using b1);refine cG (kb1.get ae (bx.ne f1)) ez1 ?_;walk;have hz:z1=3\/z1=8:=by simpa using hz1
 refine⟨p,z1,n+1,rfl,bx1,by lia,by lia,by lia,fun r2 H2 a2 b2 bx2 kb2=>?_⟩;walk;generalize hmany:(1:Int)+r2=many;have hm8:many<=8:=by lia
 refine⟨sz,fun l2 f2=>?_⟩;walk;refine⟨p,3,n+2,rfl,bx2.same (aQ.upd f2),by lia,by decide,by decide,fun r3 H3 a3 b3 bx3 kb3=>?_⟩;obtain⟨gap,hg,eg⟩:=eE (ns:=[1,3,40]) a3 (by simpa using b3);refine cG (kb3.get ae (bx2.ne f2)) eg ?_
 have hgap:0<gap/\gap<=40:=by
  have:gap=1\/gap=3\/gap=40:=by simpa using hg
  lia
 walk;refine⟨sz,fun l4 f4=>?_⟩;walk;refine⟨p,4,n+3,rfl,bx3.same (aQ.upd f4),by lia,by decide,by decide,fun r4 H4 a4 b4 bx4 kb4=>?_⟩;have k4:=((((KB.refl.updN f1).trans kb1).trans kb2).trans ((KB.refl.updN f2).trans kb3)).trans ((KB.refl.updN f4).trans kb4);obtain⟨key0,hk0,ek0⟩:=eE (ns:=[-5,0,999999999 - 2100,-999999999]) a4 (by simpa using b4)
 refine cG (kb4.get ae (bx3.ne f4)) ek0 ?_
 have hkey:-999999999<=key0/\key0<=999997899:=by
  have:key0 = -5\/key0=0\/key0=999999999 - 2100\/key0 = -999999999:=by simpa using hk0
  lia
 walk;refine⟨sz,fun l f5=>?_⟩;have nl:=bx4.ne f5;have fl0:=c_ k4 f5 nl;have k5:=k4.updN (o:=.lst []) f5;generalize hG:upd H4 l (.lst [])=H5 at *;have e5:=eG hG;have bx5:=bx4.same (sG hG f5);walk;refine gA (by lia) (by lia) ?_
 refine iB (fun i σ H6=>∃(rs:List Row) (hs:List Int) (as:List Addr) (key:Int) (low:Option Int) (o7 o8 o9 o10:Option V),σ=[some (.ref p),some (.int most),some (.int many),some (.int gap),some (.int key),some (oV low),some (.ref l),o7,o8,o9,o10]/\LvP rs hs/\rs.length=i/\(i<many->hs.length=i)/\((i:Int)=many->rs.length=hs.length+1)/\low=jE hs i/\(∀x∈hs,x<=key)/\-999999999<=key/\key<=999997899+240 * i /\
   H6 l=some (.lst (as.map V.ref))/\Rows p H6 as false rs/\(∀b∈as,b≠l)/\Box H6 p (n+4+12 * i)/\KB p H H6) ?_ ?_ ?_
 ·refine⟨[],[],[],key0,none,_,_,_,_,rfl,⟨.nil,nofun,nofun⟩,rfl,fun _=>rfl,(fun z=>by lia),rfl,nofun,hkey.1,by lia,e5,⟨rfl,nofun⟩,nofun,bx5,k5⟩
 ·rintro i σ H6 lt ⟨rs,hs,as,key,low,o7,o8,o9,o10,rfl,lp,lrs,lhs,_,elow,hle,kl,kh,el,rw6,asl,bx6,k6⟩;have lhs:=lhs (by lia);rw[zero_add];walk;refine⟨sz,fun lk flk=>?_⟩;have nk:=bx6.ne flk;have nkl:lk≠l:=fun z=>by rw[z,el] at flk;cases flk
  generalize hG:upd H6 lk (.lst [])=H7 at *;have k7:KB p H6 H7:=hG▸KB.refl.updN flk;refine dB (by assumption) ?_
  refine eK (fun σ' H'=>∃(ks:List Int) (key':Int) (o9:Option V),σ'=[some (.ref p),some (.int most),some (.int many),some (.int gap),some (.int key'),some (oV low),some (.ref l),some (.int (i:Int)),some (.ref lk),o9,o10]/\ks.Pairwise (· < ·)/\(∀x∈ks,key<=x/\x<=key')/\key<=key'/\key'<=999997899+240 * i+200/\ks.length<=5/\H' lk=some (.lst (ks.map V.int))/\KB p H6 H'/\Box H' p (n+4+12 * i+11)) (fun N z=>?_) ?_
  ·walk;refine⟨p,most+1,n+4+12 * i,rfl,(bx6.same (sG hG flk)),by lia,by lia,by lia,fun r8 H8 a8 b8 bx8 kb8=>?_⟩;have e8:=kb8.get (eG hG) nk;have k8:=k7.trans kb8;walk;refine gA (by lia) (by lia) ?_
   refine iB (fun j σ H9=>∃(ks:List Int) (key':Int) (o9:Option V),σ=[some (.ref p),some (.int most),some (.int many),some (.int gap),some (.int key'),some (oV low),some (.ref l),some (.int (i:Int)),some (.ref lk),o9,o10]/\ks.Pairwise (· < ·)/\(∀x∈ks,key<=x/\x<=key')/\key<=key'/\key'<=999997899+240 * i+40 * j/\ks.length=j/\H9 lk=some (.lst (ks.map V.int))/\KB p H6 H9/\Box H9 p (n+4+12 * i+1+2 * j)) ⟨[],key,_,rfl,.nil,nofun,Int.le_refl _,by lia,rfl,e8,k8,bx8⟩ ?_ ?_
   ·rintro j σ H9 jl ⟨ks,key',o9,rfl,pw,kin,kk,kh',lks,e9,k9,bx9⟩;refine vX ?_
    refine eK (fun σ' H'=>∃key2:Int,σ'=[some (.ref p),some (.int most),some (.int many),some (.int gap),some (.int key2),some (oV low),some (.ref l),some (.int (i:Int)),some (.ref lk),some (.int (0+(j:Int))),o10]/\(key'<key2\/key2=key'/\ks=[])/\key2<=key'+40/\H' lk=some (.lst (ks.map V.int))/\KB p H6 H'/\Box H' p (n+4+12 * i+1+2 * j+2)) (fun N z=>?_) ?_
    ·refine rS (fun b H'=>(b=false->ks=[])/\H' lk=some (.lst (ks.map V.int))/\KB p H6 H'/\Box H' p (n+4+12 * i+1+2 * j+1)) (fun Q' z'=>?_) ?_
     ·walk;refine⟨sz,fun b0 fb0=>?_⟩;refine iZ (cm fb0 e9) ae ?_;have k10:=k9.updN (o:=.lst []) fb0;have bx10:=(bx9.same (aQ.upd (o:=.lst []) fb0)).mono (m:=n+4+12 * i+1+2 * j+1) (by lia);generalize hG:upd H9 b0 (.lst [])=H10 at *;have e10:=nG hG fb0 e9;walk;cases ks with
      | cons x xs=>
       exact kR (c:=true) rfl (gC (z' _ _ ⟨nofun,e10,k10,bx10⟩))
      | nil=>
       refine kR (c:=false) rfl (fY ?_);walk;refine⟨rfl,?_⟩;walk;cases low with
       | none=>
        exact ik rfl (z' _ _ ⟨nofun,e10,k10,bx10⟩)
       | some lw=>
        refine iW nofun ?_;walk;refine⟨p,2,_,rfl,(bx9.same (sG hG fb0)),by lia,by decide,by decide,fun r11 H11 a11 b11 bx11 kb11=>?_⟩;walk;exact z' _ _ ⟨fun _=>rfl,kb11.get e10 nk,k10.trans kb11,bx11⟩
     ·rintro b H11 ⟨hb,e11,k11,bx11⟩;cases b with
      | true=>
       refine gC ?_;walk;refine⟨p,gap,_,rfl,bx11,by lia,by lia,by lia,fun r12 H12 a12 b12 bx12 kb12=>?_⟩;walk;exact z _ _ ⟨_,rfl,.inl (by lia),by lia,kb12.get e11 nk,k11.trans kb12,bx12⟩
      | false=>
       refine fY ?_;walk;exact z _ _ ⟨key',rfl,.inr ⟨rfl,hb rfl⟩,by lia,e11,k11,bx11.mono (by lia)⟩
    rintro σ' H' ⟨key2,rfl,kc,kd,e',k',bx'⟩;walk;refine dh e' (by rw[af];have:=bp;lia) ?_;walk;have e2:upd H' lk (.lst (ks.map V.int++[.int key2])) lk=some (.lst ((ks++[key2]).map V.int)):=by rw[ae,aW];rfl
    refine⟨ks++[key2],key2,_,rfl,pairwise_append.mpr ⟨pw,by simp,fun a ha b hb=>?_⟩,fun x hx=>?_,by lia,by lia,by rw[am,lks];rfl,e2,fun b o y nb=>?_,bx'.to fun o y=>?_⟩
    ·rw[au.mp hb];have:=(kin a ha).2;rcases kc with kc|⟨_,kc⟩
     ·lia
     ·rw[kc] at ha;cases ha
    ·rcases aT.mp hx with hx|hx
     ·have:=kin x hx;lia
     ·rw[au.mp hx];lia
    ·rw[ak (ah y flk)];exact k' _ _ y nb
    ·rw[ak nk.symm];exact y
   ·rintro σ H9 ⟨ks,key',o9,rfl,pw,kin,kk,kh',lks,e9,k9,bx9⟩;exact z _ _ ⟨ks,key',o9,rfl,pw,kin,kk,by lia,by lia,e9,k9,bx9.mono (by lia)⟩
  rintro σ8 H8 ⟨ks,key',o9',rfl,pw,kin,kk,kh',lks,e8,k8,bx8⟩;have kok:KeysOk ks:=⟨fun x hx=>⟨by have:=(kin x hx).1;lia,by have:=(kin x hx).2;lia⟩,pw,by lia⟩;refine ji fun _ _=>?_;refine rR ?_;refine r_c ?_;refine dB (by assumption) ?_
  refine eK (fun σ' H'=>∃(key2:Int) (high:Option Int),σ'=[some (.ref p),some (.int most),some (.int many),some (.int gap),some (.int key2),some (oV low),some (.ref l),some (.int (i:Int)),some (.ref lk),o9',some (oV high)]/\((i:Int)<many - 1/\high=some key2/\key'<key2\/(i:Int)=many - 1/\high=none/\key2=key')/\key2<=key'+40/\H' lk=some (.lst (ks.map V.int))/\KB p H6 H'/\Box H' p (n+4+12 * i+12)) (fun N z=>?_) ?_
  ·walk;by_cases ci:(i:Int)<many - 1
   ·refine ik ci ?_;walk;refine⟨p,gap,_,rfl,bx8,by lia,by lia,by lia,fun r12 H12 a12 b12 bx12 kb12=>?_⟩;walk;exact z _ _ ⟨_,some _,rfl,.inl ⟨ci,rfl,by lia⟩,by lia,kb12.get e8 nk,k8.trans kb12,bx12⟩
   ·refine iW ci ?_;walk;exact z _ _ ⟨key',none,rfl,.inr ⟨by lia,rfl,rfl⟩,by lia,e8,k8,bx8.mono (by lia)⟩
  rintro σ9 H9 ⟨key2,high,rfl,hc,hd,e9,k9,bx9⟩;have el9:=k9.get el nl;walk;refine⟨sz,fun lr flr=>?_⟩;have nrl:lr≠l:=fun z=>by rw[z,el9] at flr;cases flr
  walk;refine dh (cm flr el9) (by rw[af,rw6.1];have:=bp;lia) ?_;walk;have up:∀b o,H9 b=some o->b≠l->upd (upd H9 lr (.lst [.ref lk,oV low,oV high])) l (.lst (as.map V.ref++[.ref lr])) b=some o:=fun b o y nb=>by rw[ak nb];exact cm flr y
  have newR:∀hs',LvP rs hs'->jE hs' i=jE hs i->hs'[i]?=high->LvP (rs++[⟨ks,low,high,[]⟩]) hs':=fun hs' lp' e1' e2'=>⟨lp'.pw,lp'.hk,fun j r hj=>by
   rcases lt_or_ge j rs.length with jl|jl
   ·rw[aN jl] at hj;exact lp'.row j r hj
   ·rw[aM jl] at hj;cases zj:j - rs.length with
    | zero=>
     rw[zj] at hj;cases hj;have ej:j=i:=by lia
     subst ej;exact⟨by rw[e1'];exact elow,e2'.symm,kok,lks⟩
    | succ j'=>rw[zj] at hj;cases hj⟩
  have rowsN:Rows p (upd (upd H9 lr (.lst [.ref lk,oV low,oV high])) l (.lst (as.map V.ref++[.ref lr]))) (as++[lr]) false (rs++[⟨ks,low,high,[]⟩]):=by
   refine Rows.snoc ?_ ⟨(bx9.ne flr),lk,nk,up _ _ e9 nkl,?_⟩
   ·refine⟨rw6.1,fun j a r hj hr'=>?_⟩;obtain⟨na,kl',nk',q1,q2⟩:=rw6.2 j a r hj hr'
    have nkl':kl'≠l:=fun w=>by
     rw[w,el] at q1;have:=HO.lst.inj (aw q1);cases as with
     | nil=>cases hj
     | cons a0 as'=>
      exact jN this
    exact⟨na,kl',nk',up _ _ (k9.get q1 nk') nkl',up _ _ (k9.get q2 na) (asl a (aK hj))⟩
   ·rw[aA ay,ak nrl,ae]
  have e10:upd (upd H9 lr (.lst [.ref lk,oV low,oV high])) l (.lst (as.map V.ref++[.ref lr])) l=some (.lst ((as++[lr]).map V.ref)):=by rw[ae,aW];rfl
  have bx10:Box (upd (upd H9 lr (.lst [.ref lk,oV low,oV high])) l (.lst (as.map V.ref++[.ref lr]))) p (n+4+12 * (i+1)):=(bx9.mono (by lia)).to fun o y=>up _ _ y nl.symm;have k10:KB p H (upd (upd H9 lr (.lst [.ref lk,oV low,oV high])) l (.lst (as.map V.ref++[.ref lr]))):=fun b o y nb=>up _ _ (k9.get (k6.get y nb) nb) (ah y fl0)
  have asN:∀b∈as++[lr],b≠l:=fun b hb=>by
   rcases aT.mp hb with hb|hb
   ·exact asl b hb
   ·rw[au.mp hb];exact nrl
  generalize upd (upd H9 lr _) l _=H10 at *;rcases hc with⟨ci,rfl,hlt⟩|⟨ci,rfl,rfl⟩
  ·have hl9:∀x∈hs,x<key2:=fun x hx=>by have:=hle x hx;lia
   have lpN:LvP rs (hs++[key2]):=by
    refine⟨pairwise_append.mpr ⟨lp.pw,by simp,fun a ha b hb=>by rw[au.mp hb];exact hl9 a ha⟩,fun x hx=>?_,fun j r hj=>?_⟩
    ·rcases aT.mp hx with hx|hx
     ·exact lp.hk x hx
     ·rw[au.mp hx];exact⟨by lia,by lia⟩
    ·have jl:j<hs.length:=by have:=(aq.mp hj).1;lia
     obtain⟨c1,c2,c3⟩:=lp.row j r hj;refine⟨?_,by rw[aN jl];exact c2,c3⟩;rw[c1];cases j with
     | zero=>rfl
     | succ j=>exact(aN (by lia)).symm
   refine⟨_,hs++[key2],as++[lr],key2,some key2,_,_,_,_,rfl,newR (hs++[key2]) lpN ?_ ?_,by rw[am,lrs];rfl,fun _=>by rw[am,lhs];rfl,fun y=>by lia,?_,fun x hx=>?_,by lia,by lia,e10,rowsN,asN,bx10,k10⟩
   ·cases i with
    | zero=>rfl
    | succ i=>exact aN (by lia)
   ·rw[aM (by lia),lhs,sub_self];rfl
   ·show _=(hs++[key2])[i]?;rw[aM (by lia),lhs,sub_self];rfl
   ·rcases aT.mp hx with hx|hx
    ·exact Int.le_of_lt (hl9 x hx)
    ·rw[au.mp hx];exact Int.le_refl _
  ·refine⟨_,hs,as++[lr],key2,none,_,_,_,_,rfl,newR hs lp rfl ?_,by rw[am,lrs];rfl,fun y=>by lia,fun _=>by rw[am,lrs,lhs];rfl,?_,fun x hx=>by have:=hle x hx;lia,by lia,by lia,e10,rowsN,asN,bx10,k10⟩
   ·exact List.getElem?_eq_none (by lia)
   ·exact(List.getElem?_eq_none (by lia)).symm
 ·rintro σ H6 ⟨rs,hs,as,key,low,o7,o8,o9,o10,rfl,lp,lrs,lhs,lhe,elow,hle,kl,kh,el,rw6,asl,bx6,k6⟩;walk;exact q rs hs l as H6 ⟨lp,lhe (by lia),by lia⟩ fl0 el nl rw6 (bx6.mono (by lia)) k6
theorem jF (e:X.K=K):IxR X (xS K):=by subst e;exact aS
theorem sE (e:X.K=K):OpR X (compareOp .NotIn) (rIn K true):=by subst e;exact fQ
theorem t_J {Q:Bool->Hp->Prop}(R:Bool->Hp->Prop)(mk:∀Q':Bool->Hp->Prop,(∀b H',R b H'->Q' b H')->tt σ H Q')(q:∀b H',R b H'->Q b H'):tt σ H Q:=mk _ q
def xX (nb:Nat)(rs:List Row):Prop:=∀r∈rs,r.ch.length=r.ks.length+1/\r.ch.Nodup/\∀k∈r.ch,k<nb
theorem pb:(chL ch).length=ch.length:=by unfold chL;rw[af]
theorem Rows.low {rs:List Row}(x:Rows p H as up rs)(lp:LvP rs hs){k:Nat}(hk:k<rs.length):∃a xs,as[k]?=some a/\H a=some (.lst xs)/\xs[1]?=some (oV (jE hs k)):=by
 have ka:k<as.length:=by rw[x.1];exact hk
 obtain⟨_,kl,_,_,e⟩:=x.2 k _ _ (aa ka) (aa hk);rw[<- ((lp.row k _ (aa hk)).1)];cases up with
 | true=>obtain⟨cl,_,_,e⟩:=e;exact⟨_,_,aa ka,e,rfl⟩
 | false=>exact⟨_,_,aa ka,e,rfl⟩
theorem gP {k:Nat}(h0:0<k)(h1:k<=hs.length):∃x,hs[k - 1]?=some x/\jE hs k=some x:=by
 cases k with
 | zero=>cases h0
 | succ k=>exact⟨hs[k],aa (by lia),aa (by lia)⟩
def qm (hs:List Int)(ns:List Nat):List Int:=ns.filterMap (jE hs)
theorem jD {hs:List Int}:∀{ns:List Nat},(∀k∈ns,0<k/\k<=hs.length)->(chL ns).map (fun v=>match v with|.int k=>oV (jE hs k.toNat)|v=>v)=(qm hs ns).map V.int/\(qm hs ns).length=ns.length
 | [],_=>⟨rfl,rfl⟩
 | k::ns,h=>by
  obtain⟨h1,h2⟩:=jD (ns:=ns) fun x hx=>h x (.tail _ hx);obtain⟨x,_,ex⟩:=gP (h k (.head _)).1 (h k (.head _)).2;have e:qm hs (k::ns)=x::qm hs ns:=by unfold qm;rw[filterMap_cons,ex]
  rw[e];refine⟨?_,by rw[bf,bf,h2]⟩;unfold chL at h1 ⊢;rw[bH,bH,bH,h1];show oV (jE hs (toNat (k:Int)))::_=_;rw[toNat_natCast,ex];rfl
theorem xh (pw:hs.Pairwise (· < ·))(hk:∀x∈hs,lh x){ns:List Nat}(pn:ns.Pairwise (· < ·))(h:∀k∈ns,0<k/\k<=hs.length)(l:ns.length<=5):KeysOk (qm hs ns):=by
 refine⟨fun x hx=>?_,?_,by rw[(jD h).2];lia⟩
 ·obtain⟨k,hk',e⟩:=mem_filterMap.mp hx;obtain⟨y,e1,e2⟩:=gP (h k hk').1 (h k hk').2;rw[e2] at e;cases e;exact hk _ (aK e1)
 ·unfold qm;rw[List.pairwise_filterMap];refine pn.imp_of_mem fun {a b} ha hb lt x ex y ey=>?_;obtain⟨u,e1,e2⟩:=gP (h a ha).1 (h a ha).2;obtain⟨v,e3,e4⟩:=gP (h b hb).1 (h b hb).2;rw[e2] at ex;rw[e4] at ey;cases ex;cases ey;obtain⟨l1,g1⟩:=aq.mp e1;obtain⟨l2,g2⟩:=aq.mp e3
  have:=List.pairwise_iff_getElem.mp pw (a - 1) (b - 1) l1 l2 (by have:=(h a ha).1;lia);rw[g1,g2] at this;exact this
inductive spOver (vs:List V)(H:Hp)(Q:VK)(E:XK):Prop
 | mk (p lb:Addr)(most:Int)(n:Nat)(as:List Addr)(up:Bool)(rs:List Row)(hs:List Int):vs=[.ref p,.int most,.ref lb]->Box H p n->n<=900000->2<=most->most<=5->LvOk rs hs->H lb=some (.lst (as.map V.ref))->lb≠p->Rows p H as up rs ->
   (∀rs' hs' l as' H',LvOk rs' hs'->xX rs.length rs'->H l=none->H' l=some (.lst (as'.map V.ref))->l≠p->Rows p H' as' true rs'->Box H' p (n+20)->KB p H H'->Q (.ref l) H')->spOver vs H Q E
theorem wX:Ok F F.r.d__law_over 2 spOver:=by
 refine F.r.d__law_over.go fun sc H Q hr h=>?_;obtain⟨p,lb,most,n,as,up,rs,hs,rfl,bx,hn,m0,m1,lv,hlb,nlb,rws,q⟩:=h;have hu:=hr.units0;have few:=lv.few;have ln:=lv.n
 refine⟨_,(ad (eT (i:=3) (dE ["_law_box_here"] [0]) rfl (da rfl F.r.T.n_range (pa1 (aR bj rfl F.r.T.n_len cS (pa1 (pv 2))))) (fun _ _ _ _ _=>(PTs.one (PW.pt (jP (pc fJ (pv 0) ap) (iC (pc i8 (cc (bS F) hr (pa2 (pv 1) ap)) ap)))))) (fun _ _ _ _ _=>(pv 0)) sc.nd rfl rfl)
  (ad (cD sc 4 (bw cy))
  (ad (iE PassesOwn.never (pc (kK hu) (pv 3) (bw cy))
   (ad (cD sc 5 (bN cH ap (cc (bS F) hr (pa2 (pv 0) (bN cH (pv 1) ap)))))
  (ad (cD sc 6 (dj dQ (pv 3) d9 (dJ (pv 5))))
  (ad (cD sc 3 (dj dQ (pv 3) (dJ (pv 5)) d9))
  (ad (eT (i:=7) (dE ["_law_beneath"] [2]) rfl (dm (dj dQ (pv 6) (dJ ap) d9)) (fun _ _ _ _ _=>PTs.nil) (fun _ _ _ _ _=>(pix (jF (K:=K) rfl) (pix (jF (K:=K) rfl) (pv 1) (pv 0)) ap)) sc.nd rfl rfl)
  (ad (cD sc 8 (dG (pc (kK hu) (pv 3) (bw cy)) (pix aS (pix aS (pv 2) (pix aS (pv 3) ap)) ap) bV))
  (ao (a_ (fU aX PySem.F.slot_list_append PySem.F.type_list_append cK (pv 4) (pa1 (bw (pa4 (pv 7) (pix aS (pix aS (pv 2) (pix aS (pv 6) ap)) ap) (pv 8) (pv 6)))))))))))))
  (ao (bc (pv 4)))))),?_⟩
 walk;refine fE (fun J H1=>J=Itr 0 rs.length/\H1=H) (fun R z=>?_) ?_
 ·walk;refine⟨lb,_,rfl,.inl (SqL.of hlb),?_⟩;walk;rw[af,rws.1];exact gA (by lia) (by lia) (z _ _ ⟨by rw[toNat_natCast],rfl⟩)
 rintro J H1 ⟨rfl,rfl⟩;refine fW (J:=Itr 0 rs.length) (H1:=H1) rs.length (fun R z=>z) (fun D i H2=>∃ns:List Nat,H2 D=some (.lst (chL ns))/\ns.Pairwise (· < ·)/\(∀k∈ns,k<i)/\(0<i->ns.head?=some 0)/\ns.length<=i/\KB p H1 H2/\Box H2 p (n+i)) (fun D f=>?_) (fun D i H2 fD lt ⟨ns,eD,pw,lt',hd0,ll,kb,bx2⟩=>?_) (fun D H2 fD ⟨ns,eD,pw,lt',hd0,ll,kb,bx2⟩=>?_)
 ·exact⟨[],ae,.nil,nofun,fun z=>aY z (lt_irrefl _),aE _,KB.refl.updN f,bx.same (aQ.upd f)⟩
 ·have nD:=bx.ne fD;refine⟨lt,fun v H3 y R z=>?_⟩;obtain⟨rfl,rfl⟩:=y;rw[zero_add];refine t_J (fun b H'=>(b=false->i≠0)/\H' D=some (.lst (chL ns))/\KB p H1 H'/\Box H' p (n+i+1)) (fun Q' z'=>?_) ?_
  ·walk;by_cases i0:i=0
   ·exact ik (bq V.int (by lia)) (z' _ _ ⟨nofun,eD,kb,bx2.mono (by lia)⟩)
   ·refine iW (fun y=>i0 (by have:=V.int.inj y;lia)) ?_;walk;refine⟨p,4,_,rfl,bx2,by lia,by decide,by decide,fun r4 H4 a4 b4 bx4 kb4=>?_⟩;walk;exact z' _ _ ⟨fun _=>i0,kb4.get eD nD,kb.trans kb4,bx4⟩
  rintro b H4 ⟨hb,eD4,k4,bx4⟩;cases b with
  | true=>
   refine gC ?_;walk;refine xU eD4 (by rw[pb];have:=bp;lia) (z _ ⟨ns++[i],?_,?_,fun k hk=>?_,fun _=>?_,?_,fun b o y nb=>?_,bx4.to fun o y=>?_⟩)
   ·rw[ae];unfold chL;rw[aW];rfl
   ·exact pairwise_append.mpr ⟨pw,by simp,fun a ha b hb=>by rw[au.mp hb];exact lt' a ha⟩
   ·rcases aT.mp hk with hk|hk
    ·have:=lt' k hk;lia
    ·rw[au.mp hk];lia
   ·by_cases i0:i=0
    ·subst i0;have:ns=[]:=List.eq_nil_of_length_eq_zero (by lia);rw[this];rfl
    ·have:=hd0 (by lia);cases ns with
     | nil=>cases this
     | cons x xs=>exact this
   ·rw[am];simp;lia
   ·rw[ak (ah y fD)];exact k4 _ _ y nb
   ·rw[ak nD.symm];exact y
  | false=>
   refine fY ?_;have i0:=hb rfl;exact z _ ⟨ns,eD4,pw,fun k hk=>by have:=lt' k hk;lia,fun _=>hd0 (by lia),by lia,k4,bx4⟩
 refine⟨aE _,?_⟩;have hd1:=hd0 (by lia);walk;refine⟨sz,fun lr flr=>?_⟩;have nlr:=bx2.ne flr;have k3:=kb.updN (o:=.lst []) flr;have fl0:=c_ kb flr nlr;generalize hG:upd H2 lr (.lst [])=H3 at *;have e3:=eG hG;have eD3:=nG hG flr eD;have bx3:=bx2.same (sG hG flr);walk
 refine oo (fun σ' H4=>∃(rs':List Row) (hs':List Int) (as':List Addr) (o3 o5 o6 o7 o8:Option V),σ'=[some (.ref p),some (.int most),some (.ref lb),o3,some (.ref lr),o5,o6,o7,o8]/\LvOk rs' hs'/\xX rs.length rs'/\H4 lr=some (.lst (as'.map V.ref))/\Rows p H4 as' true rs'/\Box H4 p (n+20)/\KB p H1 H4) (fun N z=>?_) ?_
 ·refine jM (fun mm σ H4=>∃(rem:List Nat) (lp:Addr) (rs':List Row) (hs':List Int) (as':List Addr) (o5 o6 o7 o8:Option V),σ=[some (.ref p),some (.int most),some (.ref lb),some (.ref lp),some (.ref lr),o5,o6,o7,o8]/\mm=rem.length/\H4 lp=some (.lst (chL rem))/\lp≠p/\rem.Pairwise (· < ·)/\(∀k∈rem,k<rs.length)/\LvP rs' hs'/\xX rs.length rs'/\rs'.length+rem.length<=8/\(∀r,rem.head?=some r->hs'.length=rs'.length/\jE hs' rs'.length=jE hs r)/\(rem=[]->rs'.length=hs'.length+1) /\
    (∀x∈hs',∃j:Nat,hs[j]?=some x/\∀k∈rem,j+1<=k)/\H4 lr=some (.lst (as'.map V.ref))/\Rows p H4 as' true rs'/\(∀b∈as',b≠lr)/\Box H4 p (n+8+rs'.length)/\KB p H1 H4) ns.length ?_ ?_
  ·refine⟨ns,D,[],[],[],none,none,none,none,rfl,rfl,eD3,(bx.ne fD),pw,lt',⟨.nil,nofun,nofun⟩,nofun,by simp;lia,fun r er=>?_,(fun z=>by rw[z] at hd1;cases hd1),nofun,e3,⟨rfl,nofun⟩,nofun,bx3.mono (by simp;lia),k3⟩;rw[hd1] at er;cases er;exact⟨rfl,rfl⟩
  rintro mm σ H4 ⟨rem,lp,rs',hs',as',o5,o6,o7,o8,rfl,rfl,elp,nlp,pw4,lt4,lp',ch',c8,hr0,hr1,hh,elr,rw4,asl,bx4,k4⟩;walk;refine⟨sz,fun b0 fb0=>?_⟩;refine iZ (cm fb0 elp) ae ?_;generalize hG:upd H4 b0 (.lst [])=H5 at *;have k5:KB p H4 H5:=hG▸KB.refl.updN fb0;have bx5:=bx4.same (sG hG fb0);walk;cases rem with
  | nil=>
   exact kR (c:=false) rfl (fY (z _ _ ⟨rs',hs',as',_,_,_,_,_,rfl,⟨lp',(hr1 rfl),by simpa using c8⟩,ch',k5.get elr nlr,rw4.kb fun b xs y nb=>k5.get y nb,bx5.mono (by simp at c8;lia),k4.trans k5⟩))
  | cons r0 rem=>
   refine kR (c:=true) rfl (gC (wb ?_));obtain⟨hl',hlo⟩:=hr0 r0 rfl;walk;refine⟨p,most+1,_,rfl,bx5,by simp at c8;lia,by lia,by lia,fun rr H6 a6 b6 bx6 kb6=>?_⟩;have k6:=k5.trans kb6;walk;obtain⟨s,hs0⟩:∃s:Nat,(1:Int)+rr=((s+1:Nat):Int):=⟨rr.toNat,by lia⟩;rw[hs0];have s5:s<=5:=by lia
   refine rX (k6.get elp nlp) (by lia) fun ls fls=>?_;have nsr:ls≠lr:=fun y=>by rw[y,k6.get elr nlr] at fls;cases fls
   have k7:=k6.updN (o:=.lst ((chL (r0::rem)).take ((s+1:Nat):Int).toNat)) fls
   have e7:upd H6 ls (.lst ((chL (r0::rem)).take ((s+1:Nat):Int).toNat)) ls=some (.lst (chL (r0::rem.take s))):=by
    rw[ae,toNat_natCast];unfold chL;rw[<- map_take];rfl
   generalize hG:upd H6 ls _=H7 at *;have bx7:=bx6.same (sG hG fls);walk;refine mF (k7.get elp nlp) (by lia) fun lq flq=>?_;have nlq:=bx7.ne flq;have nqr:lq≠lr:=fun y=>by rw[y,k7.get elr nlr] at flq;cases flq
   have k8:=k7.updN (o:=.lst ((chL (r0::rem)).drop ((s+1:Nat):Int).toNat)) flq
   have e8:upd H7 lq (.lst ((chL (r0::rem)).drop ((s+1:Nat):Int).toNat)) lq=some (.lst (chL (rem.drop s))):=by
    rw[ae,toNat_natCast];unfold chL;rw[<- map_drop];rfl
   generalize hG:upd H7 lq _=H8 at *;have e78:=nG hG flq e7;have bx8:=bx7.same (sG hG flq);have tk4:∀k∈rem,r0<k:=fun k hk=>(pairwise_cons.mp pw4).1 k hk
   have tkl:∀k∈rem.take s,0<k/\k<=hs.length:=fun k hk=>by
    have m:=mem_of_mem_take hk;have:=tk4 k m;have:=lt4 k (.tail _ m)
    lia
   walk;refine fE (fun J H'=>∃lz,J=Itl K lz/\H' lz=some (.lst (chL (rem.take s)))/\aQ H8 H') (fun R z=>?_) ?_
   ·walk;refine mF e78 (by decide) fun lz flz=>?_;walk;exact z _ _ ⟨lz,rfl,ae,aQ.upd flz⟩
   rintro J H9 ⟨lz,rfl,e9,S9⟩;have k9:KB p H4 H9:=fun b o y nb=>S9 _ _ (k8 _ _ y nb);refine jx (J:=Itl K lz) (H1:=H9) (chL (rem.take s)) (fun _=>true) (fun v=>match v with|.int k=>oV (jE hs k.toNat)|v=>v) (fun R z=>z) (j_ (tp:=false) e9) ?_ ?_ (by rw[pb,bo];lia) ?_
   ·exact fun _ _ H2 R _ r=>r H2 (aQ.refl _)
   ·intro x hx _ H10 R S10 r;unfold chL at hx;obtain⟨k,hk,rfl⟩:=bC.mp hx;have kl:=lt4 k (.tail _ (mem_of_mem_take hk));obtain⟨a,xs,ea,hxs,ex1⟩:=(rws.kb fun b xs y nb=>S10 _ _ (k9.get (k4.get y nb) nb)).low lv.p kl;walk;refine cG (S10 _ _ (k9.get (k4.get hlb nlb) nlb)) (dN (j:=k) (v:=.ref a) (by rw[aB,ea];rfl)) ?_;walk
    exact cG hxs (dN (j:=1) ex1) (r H10 (aQ.refl _))
   intro lk H10 flk S10 e10;rw[jI,(jD tkl).1] at e10;have S810:=S9.trans S10;have nlk:lk≠p:=fun y=>by obtain⟨xs,ep⟩:=bx8.lst;rw[y,S9 _ _ ep] at flk;cases flk
   have nkr:lk≠lr:=fun y=>by rw[y,k9.get elr nlr] at flk;cases flk
   have k10:KB p H4 H10:=fun b o y nb=>S10 _ _ (k9 _ _ y nb);have es10:=S810 _ _ e78;have eq10:=S810 _ _ e8;refine dB (by assumption) ?_
   have lowr:∀{H'':Hp},KB p H4 H''->∀{k:Nat},k<rs.length->∃a xs,H'' lb=some (.lst (as.map V.ref))/\atI (as.map V.ref) ((k:Nat):Int)=some (.ref a)/\H'' a=some (.lst xs)/\atI xs 1=some (oV (jE hs k)):=fun {H''} kk {k} kl=>by
    obtain⟨a,xs,ea,hxs,ex1⟩:=(rws.kb fun b xs y nb=>kk.get (k4.get y nb) nb).low lv.p kl;exact⟨a,xs,kk.get (k4.get hlb nlb) nlb,dN (j:=k) (by rw[aB,ea];rfl),hxs,dN (j:=1) ex1⟩
   generalize hhi:((rem.drop s).head?).bind (jE hs)=hi;refine eK (fun σ' H'=>σ'=[some (.ref p),some (.int most),some (.ref lb),some (.ref lq),some (.ref lr),some (.int ((s+1:Nat):Int)),some (.ref ls),some (.ref lk),some (oV hi)]/\aQ H10 H') (fun N z=>?_) ?_
   ·walk;refine⟨sz,fun b1 fb1=>?_⟩;refine iZ (cm fb1 eq10) ae ?_;generalize hG:upd H10 b1 (.lst [])=H11 at *;have S11:=sG hG fb1;walk;cases er:rem.drop s with
    | nil=>
     rw[er] at hhi;subst hhi;refine kR (c:=false) rfl (fY ?_);walk;exact z _ _ ⟨rfl,S11⟩
    | cons r1 rem1=>
     rw[er] at hhi eq10;subst hhi;have r1l:=lt4 r1 (.tail _ (mem_of_mem_drop (by rw[er];exact .head _)));refine kR (c:=true) rfl (gC ?_);obtain⟨a,xs,q1,q2,q3,q4⟩:=lowr (H'':=H11) (fun b o y nb=>S11 _ _ (k10 _ _ y nb)) r1l;walk;refine cG (S11 _ _ eq10) (v:=.int (r1:Int)) (kq rfl) ?_;walk;refine cG q1 q2 ?_;walk;refine cG q3 q4 ?_;walk;exact z _ _ ⟨rfl,S11⟩
   rintro σ' H11 ⟨rfl,S11⟩;have k11:KB p H4 H11:=fun b o y nb=>S11 _ _ (k10 _ _ y nb);have elr11:=k11.get elr nlr;have bx11:=(bx8.same S810).same S11;have r0l:=lt4 r0 (.head _);obtain⟨a,xs,q1,q2,q3,q4⟩:=lowr k11 r0l;walk;refine cG (S11 _ _ es10) (v:=.int (r0:Int)) (kq rfl) ?_;walk;refine cG q1 q2 ?_;walk;refine cG q3 q4 ?_;walk;refine⟨sz,fun lw flw=>?_⟩
   have nwr:lw≠lr:=fun y=>by rw[y,elr11] at flw;cases flw
   walk;refine dh (cm flw elr11) (by rw[af,rw4.1];have:=bp;simp at c8;lia) ?_;walk;have up12:∀b o,H11 b=some o->b≠lr->upd (upd H11 lw (.lst [.ref lk,oV (jE hs r0),oV hi,.ref ls])) lr (.lst (as'.map V.ref++[.ref lw])) b=some o:=fun b o y nb=>by rw[ak nb];exact cm flw y
   have rowsN:Rows p (upd (upd H11 lw (.lst [.ref lk,oV (jE hs r0),oV hi,.ref ls])) lr (.lst (as'.map V.ref++[.ref lw]))) (as'++[lw]) true (rs'++[(⟨qm hs (rem.take s),jE hs r0,hi,r0::rem.take s⟩:Row)]):=by
    refine Rows.snoc ?_ ⟨(bx11.ne flw),lk,nlk,up12 _ _ (S11 _ _ e10) nkr,?_⟩
    ·refine⟨rw4.1,fun j a r hj hr'=>?_⟩;obtain⟨na,kl',nk',q1',cl',nc',q2',q3'⟩:=rw4.2 j a r hj hr';have asc:∃a0 as0,as'=a0::as0:=by cases as' with|nil=>cases hj|cons a0 as0=>exact⟨a0,as0,rfl⟩
     obtain⟨a0,as0,eas⟩:=asc;rw[eas,bH] at elr
     have nkl':kl'≠lr:=fun w=>by
      rw[w,elr] at q1';exact jN (HO.lst.inj (aw q1'))
     have ncl':cl'≠lr:=fun w=>by
      rw[w,elr] at q2';have:=HO.lst.inj (aw q2');unfold chL at this;rw[show (r.ch.map fun i:Nat=>V.int (i:Int))=(r.ch.map fun i:Nat=>(i:Int)).map V.int by rw[map_map];rfl] at this;exact jN this
     exact⟨na,kl',nk',up12 _ _ (k11.get q1' nk') nkl',cl',nc',up12 _ _ (k11.get q2' nc') ncl',up12 _ _ (k11.get q3' na) (asl a (aK hj))⟩
    ·rw[aH rfl];exact⟨ls,(bx6.ne fls),up12 _ _ (S11 _ _ es10) nsr,by rw[ak nwr,ae]⟩
   have qN:=up12 _ _ (S11 _ _ eq10) nqr;generalize hG:upd (upd H11 lw _) lr _=HN at *;have kN:KB p H1 HN:=fun b o y nb=>up12 _ _ (k11.get (k4.get y nb) nb) (ah y fl0);have eN:HN lr=some (.lst ((as'++[lw]).map V.ref)):=by rw[<- hG,ae,aW];rfl
   have bxN:Box HN p (n+8+(rs'++[(⟨qm hs (rem.take s),jE hs r0,hi,r0::rem.take s⟩:Row)]).length):=(bx11.mono (by rw[am];exact aE _)).to fun o y=>up12 _ _ y nlr.symm
   have asN:∀b∈as'++[lw],b≠lr:=fun b hb=>by
    rcases aT.mp hb with hb|hb
    ·exact asl b hb
    ·rw[au.mp hb];exact nwr
   have pwr:=(pairwise_cons.mp pw4).2;have kok:=xh lv.p.pw lv.p.hk (pwr.sublist (List.take_sublist s rem)) tkl (by rw[bo];lia);have klen:=(jD tkl).2;have k5l:(qm hs (rem.take s)).length<=5:=by rw[klen,bo];lia
   have chN:xX rs.length (rs'++[(⟨qm hs (rem.take s),jE hs r0,hi,r0::rem.take s⟩:Row)]):=fun r hr'=>by
    rcases aT.mp hr' with h'|h'
    ·exact ch' r h'
    ·rw[au.mp h'];refine⟨by show _=_+1;rw[klen];rfl,?_,fun k hk=>?_⟩
     ·exact((List.Pairwise.sublist (List.Sublist.cons₂ r0 (List.take_sublist s rem)) pw4).imp fun h=>aP h)
     ·rcases bm.mp hk with rfl|hk
      ·exact r0l
      ·exact lt4 k (.tail _ (mem_of_mem_take hk))
   have newR:∀hs'',LvP rs' hs''->jE hs'' rs'.length=jE hs r0->hs''[rs'.length]?=hi->LvP (rs'++[(⟨qm hs (rem.take s),jE hs r0,hi,r0::rem.take s⟩:Row)]) hs'':=fun hs'' lp'' e1' e2'=>⟨lp''.pw,lp''.hk,fun j r hj=>by
    rcases lt_or_ge j rs'.length with jl|jl
    ·rw[aN jl] at hj;exact lp''.row j r hj
    ·rw[aM jl] at hj;cases zj:j - rs'.length with
     | zero=>
      rw[zj] at hj;cases hj;have ej:j=rs'.length:=by lia
      subst ej;exact⟨e1'.symm,e2'.symm,kok,k5l⟩
     | succ j'=>rw[zj] at hj;cases hj⟩
   have lenN:(rs'++[(⟨qm hs (rem.take s),jE hs r0,hi,r0::rem.take s⟩:Row)]).length=rs'.length+1:=by rw[am];rfl
   refine⟨(rem.drop s).length,by rw[bO,bf];lia,rem.drop s,lq,rs'++[(⟨qm hs (rem.take s),jE hs r0,hi,r0::rem.take s⟩:Row)],?_⟩;have c8':rs'.length+1+(rem.drop s).length<=8:=by rw[bO];simp at c8;lia
   cases er:rem.drop s with
   | nil=>
    rw[er] at hhi qN c8';refine⟨hs',as'++[lw],_,_,_,_,rfl,rfl,qN,nlq,.nil,nofun,newR hs' lp' hlo (by rw[hhi.symm];exact List.getElem?_eq_none (by lia)),chN,by rw[lenN];exact c8',nofun,fun _=>by rw[lenN,hl'],fun x hx=>?_,eN,rowsN,asN,bxN,kN⟩;obtain⟨j,ej,_⟩:=hh x hx;exact⟨j,ej,nofun⟩
   | cons r1 rem1=>
    have r1m:=mem_of_mem_drop (by rw[er];exact .head _);have r01:=tk4 r1 r1m;have r1l:=lt4 r1 (.tail _ r1m);obtain⟨x,ex1,ex2⟩:=gP (hs:=hs) (k:=r1) (by lia) (by lia);rw[er] at hhi qN c8';have hiS:hi=some x:=by rw[<- hhi];exact ex2
    have pwd:(r1::rem1).Pairwise (· < ·):=by rw[<- er];exact pwr.sublist (List.drop_sublist s rem)
    have less:∀y∈hs',y<x:=fun y hy=>by
     obtain⟨j,ej,hj⟩:=hh y hy;have:=hj r0 (.head _);obtain⟨l1,g1⟩:=aq.mp ej;obtain⟨l2,g2⟩:=aq.mp ex1;have:=List.pairwise_iff_getElem.mp lv.p.pw j (r1 - 1) l1 l2 (by lia);rw[g1,g2] at this;exact this
    have lpN:LvP rs' (hs'++[x]):=by
     refine⟨pairwise_append.mpr ⟨lp'.pw,by simp,fun a ha b hb=>by rw[au.mp hb];exact less a ha⟩,fun y hy=>?_,fun j r hj=>?_⟩
     ·rcases aT.mp hy with hy|hy
      ·exact lp'.hk y hy
      ·rw[au.mp hy];exact lv.p.hk _ (aK ex1)
     ·have jl:j<hs'.length:=by have:=(aq.mp hj).1;lia
      obtain⟨c1,c2,c3⟩:=lp'.row j r hj;refine⟨?_,by rw[aN jl];exact c2,c3⟩;rw[c1];cases j with
      | zero=>rfl
      | succ j=>exact(aN (by lia)).symm
    have at1:(hs'++[x])[rs'.length]?=some x:=by rw[aM (by lia),hl',sub_self];rfl
    refine⟨hs'++[x],as'++[lw],_,_,_,_,rfl,rfl,qN,nlq,pwd,fun k hk=>lt4 k (.tail _ (mem_of_mem_drop (by rw[er];exact hk))),newR (hs'++[x]) lpN ?_ (by rw[hiS];exact at1),chN,by rw[lenN];exact c8',fun r er'=>?_,nofun,fun y hy=>?_,eN,rowsN,asN,bxN,kN⟩
    ·rw[<- hlo];cases zr:rs'.length with
     | zero=>rfl
     | succ i=>exact aN (by lia)
    ·cases er';refine⟨by rw[lenN,am,hl'];rfl,?_⟩;rw[lenN,ex2];exact at1
    ·rcases aT.mp hy with hy|hy
     ·obtain⟨j,ej,hj⟩:=hh y hy
      exact⟨j,ej,fun k hk=>by
       have:=hj r0 (.head _);have:=tk4 k (mem_of_mem_drop (by rw[er];exact hk))
       lia⟩
     ·rw[au.mp hy];refine⟨r1 - 1,ex1,fun k hk=>?_⟩;rcases bm.mp hk with rfl|hk
      ·lia
      ·have:=(pairwise_cons.mp pwd).1 k hk;lia
 rintro σ' H4 ⟨rs',hs',as',o3,o5,o6,o7,o8,rfl,lv',ch',e4,rw4,bx4,k4⟩;walk;exact q rs' hs' lr as' H4 lv' ch' fl0 e4 nlr rw4 bx4 k4
def vt (p:Addr)(H:Hp)(bs:List Addr)(LS:List (List Row)):Prop:=bs.length=LS.length/\∀(i:Nat) b rs,bs[i]?=some b->LS[i]?=some rs->b≠p/\∃as,H b=some (.lst (as.map V.ref))/\Rows p H as (decide (0<i)) rs
theorem vt.kb {bs}(x:vt p H bs LS)(k:∀b xs,H b=some (.lst xs)->b≠p->H' b=some (.lst xs)):vt p H' bs LS:=⟨x.1,fun i b rs e f=>let⟨n,as,h,r⟩:=x.2 i b rs e f;⟨n,as,k _ _ h n,r.kb k⟩⟩
inductive Sps (H:Hp):List V->List (Option (Int×Int))->Prop
 | nil:Sps H [] []
 | cons {y:V} {o:Option (Int×Int)} {ys:List V} {os:List (Option (Int×Int))}:Spot H y o->Sps H ys os->Sps H (y::ys) (o::os)
section
variable {os:List (Option (Int×Int))}
theorem Sps.len (s:Sps H ys os):ys.length=os.length:=by
 induction s with
 | nil=>rfl
 | cons _ _ ih=>rw[bf,bf,ih]
theorem Sps.keep (s:Sps H ys os)(k:∀b xs,H b=some (.tup xs)->H' b=some (.tup xs)):Sps H' ys os:=by
 induction s with
 | nil=>exact .nil
 | cons a _ ih=>
  refine .cons ?_ ih;cases a with
  | no=>exact .no
  | «at» t a b h=>exact .at t a b (k _ _ h)
theorem Sps.ins (s:Sps H ys os):∀i:Nat,Sps H (ys.take i++.non::ys.drop i) (os.take i++none::os.drop i):=by
 induction s with
 | nil=>intro i;rw[List.take_nil,List.drop_nil,List.take_nil,List.drop_nil];exact .cons .no .nil
 | cons a s ih=>
  intro i;cases i with
  | zero=>exact .cons .no (.cons a s)
  | succ i=>exact .cons a (ih i)
theorem Sps.at (s:Sps H ys os):∀(i:Nat) y o,ys[i]?=some y->os[i]?=some o->Spot H y o:=by
 induction s with
 | nil=>intro i y o e;cases e
 | cons a _ ih=>
  intro i y o e f;cases i with
  | zero=>cases e;cases f;exact a
  | succ i=>exact ih i y o e f
end
def rC (LS:List (List Row))(i:Nat):List (Int×Int):=(List.range i).flatMap fun l:Nat=>(List.range ((LS[l]?).getD []).length).map fun k:Nat=>((l:Int),(k:Int))
theorem nW {rs:List Row}(h:LS[i]?=some rs):rC LS (i+1)=rC LS i++(List.range rs.length).map fun k:Nat=>((i:Int),(k:Int)):=by
 unfold rC;rw[range_succ,flatMap_append];simp[h]
theorem mq {a b:Int}:∀{i:Nat},(a,b)∈rC LS i ↔ ∃(l k:Nat) (rs:List Row),l<i/\LS[l]?=some rs/\k<rs.length/\a=l/\b=k:=by
 intro i;unfold rC;rw[mem_flatMap];constructor
 ·rintro⟨l,hl,h⟩;obtain⟨k,hk,e⟩:=bC.mp h;cases e;cases q:LS[l]? with
  | none=>rw[q] at hk;cases(mem_range.mp hk)
  | some rs=>rw[q] at hk;exact⟨l,k,rs,mem_range.mp hl,q,mem_range.mp hk,rfl,rfl⟩
 ·rintro⟨l,k,rs,hl,q,hk,rfl,rfl⟩;exact⟨l,mem_range.mpr hl,bC.mpr ⟨k,by rw[q];exact mem_range.mpr hk,rfl⟩⟩
theorem mt {LS:List (List Row)}(h:∀rs∈LS,rs.length<=8):∀i:Nat,i<=LS.length->(rC LS i).length<=8 * i
 | 0,_=>aE _
 | i+1,l=>by
  have ih:=mt h i (by lia);rw[nW (aa (show i<LS.length by lia)),am,af,length_range];have:=h _ (getElem_mem (show i<LS.length by lia))
  lia
theorem qM {ps:List (Int×Int)}(h:jy H ts ps)(k:Nat):jy H (ts.eraseIdx k) (ps.eraseIdx k):=by
 refine⟨by rw[List.length_eraseIdx,List.length_eraseIdx,h.1],fun j t x e f=>?_⟩;rw[List.getElem?_eraseIdx] at e f;split at e
 ·next hj=>rw[aH hj] at f;exact h.2 j t x e f
 ·next hj=>rw[aA hj] at f;exact h.2 (j+1) t x e f
theorem six (h0:0<=z)(h1:z<n):seqIndex? z n=some z.toNat:=by
 show (if (decide (0<=(if z<0 then z+n else z))&&decide ((if z<0 then z+n else z)<n))=true then some (if z<0 then z+n else z).toNat else none)=_;rw[aA (show ¬z<0 by lia),av h0,av h1];rfl
theorem kJ {α:Type}:∀{l:List α} {i:Nat} (h:i<l.length),(l[i]::l.eraseIdx i).Perm l
 | x::l,0,_=>.refl _
 | x::l,i+1,h=>by
  have hi:i<l.length:=by simpa using h
  exact(List.Perm.swap x _ _).trans ((kJ hi).cons x)
theorem mV {α β:Type}{f:α->β}:∀{l:List α} {i:Nat},(l.map f).eraseIdx i=(l.eraseIdx i).map f
 | [],_=>rfl
 | x::l,0=>rfl
 | x::l,i+1=>by
  show f x::(l.map f).eraseIdx i=f x::(l.eraseIdx i).map f;rw[mV]
theorem vD {H:Hp}:∀{us:List Addr} {rs:List (Int×Int)},jy H us rs->Sps H (us.map V.ref) (rs.map some)
 | [],[],_=>.nil
 | [],_::_,h=>nomatch h.1
 | _::_,[],h=>nomatch h.1
 | u::us,r::rs,h=>.cons (.at u r.1 r.2 (h.2 0 u r rfl rfl)) (vD ⟨Nat.succ.inj h.1,fun j t x e f=>h.2 (j+1) t x e f⟩)
inductive spOrder (vs:List V)(H:Hp)(Q:VK)(E:XK):Prop
 | mk (p lb:Addr)(n:Nat)(bs:List Addr)(LS:List (List Row)):vs=[.ref p,.ref lb]->Box H p n->n<=900000->H lb=some (.lst (bs.map V.ref))->lb≠p->vt p H bs LS->LS.length<=4->(∀rs∈LS,rs.length<=8/\rs≠[])->LS≠[] ->
   (∀l ys os H',H l=none->l≠p->H' l=some (.lst ys)->Sps H' ys os->(∀x,some x∈os ↔ x∈rC LS LS.length)->os.length<=34->Box H' p (n+50)->KB p H H'->Q (.ref l) H')->spOrder vs H Q E
theorem uP:Ok F F.r.d__law_order 2 spOrder:=by
 have T:=F.r.T;refine F.r.d__law_order.go fun sc H Q hr h=>?_;obtain⟨p,lb,n,bs,LS,rfl,bx,hn,hlb,nlb,lv,l4,l8,lne,q⟩:=h;have hu:=hr.units0;have al32:=mt (fun rs h=>(l8 rs h).1) LS.length (by lia)
 refine⟨_,(ad (cD sc 2 (bw cy))
  (ad (dC PassesOwn.never rfl (da rfl T.n_range (pa1 (aR bj rfl T.n_len cS (pa1 (pv 1))))) (gG (i:=3) sc.nd rfl (Or.inr rfl))
   (ao (a_ (fU aX slot_list_extend type_list_extend jZ (pv 2) (pa1 (i5 (dE ["_law_level"] [3]) rfl (da rfl T.n_range (pa1 (aR bj rfl T.n_len cS (pa1 (pix aS (pv 1) (pv 3)))))) (fun _ _ _ _ _=>PTs.nil) (fun _ _ _ _ _=>(dU (pa2 (pv 1) (pv 0))))))))))
  (ad (cD sc 4 (bw cy))
  (ad (iE PassesOwn.never (pc (kK hu) (pv 2) (bw cy))
   (ao (a_ (fU aX PySem.F.slot_list_append PySem.F.type_list_append cK (pv 4) (pa1 (fU aX PySem.F.slot_list_pop PySem.F.type_list_pop uY (pv 2) (pa1 (cc (bS F) hr (pa2 (pv 0) (aR bj rfl T.n_len cS (pa1 (pv 2))))))))))))
  (ad (dC PassesOwn.never rfl (da rfl T.n_range (pa1 (cc (bS F) hr (pa2 (pv 0) ap)))) (eO sc 5)
   (ao (a_ (fU aX PySem.F.slot_list_insert PySem.F.type_list_insert sP (pv 4) (pa2 (cc (bS F) hr (pa2 (pv 0) (aR bj rfl T.n_len cS (pa1 (pv 4))))) bV)))))
  (ao (bc (pv 4)))))))),?_⟩
 walk;refine⟨sz,fun ll fll=>?_⟩;have nll:=bx.ne fll;generalize hG:upd H ll (.lst [])=H1 at *;have S1:=sG hG fll;walk;refine⟨lb,_,rfl,.inl (SqL.of (S1 _ _ hlb)),?_⟩;walk;rw[af,lv.1];refine gA (by lia) (by lia) ?_;rw[toNat_natCast]
 refine iB (fun i σ H2=>∃ts o3,σ=[some (.ref p),some (.ref lb),some (.ref ll),o3,none,none]/\H2 ll=some (.lst (ts.map V.ref))/\jy H2 ts (rC LS i)/\aQ H H2) ⟨[],_,rfl,(eG hG),⟨rfl,nofun⟩,S1⟩ ?_ ?_
 ·rintro i σ H2 lt ⟨ts,o3,rfl,e2,tu,S2⟩;have ea:=aa lt;have l8i:=(l8 _ (getElem_mem lt)).1;generalize LS[i]=rs at *;have ib:i<bs.length:=by rw[lv.1];exact lt
  obtain⟨nb,as,hb,rws⟩:=lv.2 i _ rs (aa ib) ea;have tl:=mt (fun rs h=>(l8 rs h).1) i (by lia);rw[zero_add];walk;refine fE (fun J H'=>J=Itr 0 rs.length/\H'=H2) (fun R z=>?_) ?_
  ·walk;refine cG (S2 _ _ hlb) (dN (j:=i) (v:=.ref bs[i]) (by rw[aB,aa ib];rfl)) ?_;walk;refine⟨bs[i],_,rfl,.inl (SqL.of (S2 _ _ hb)),?_⟩;walk;rw[af,rws.1];exact gA (by lia) (by lia) (z _ _ ⟨by rw[toNat_natCast],rfl⟩)
  rintro J H2' ⟨rfl,rfl⟩;refine fW (J:=Itr 0 rs.length) (H1:=H2') rs.length (fun R z=>z) (fun D j H3=>∃us,H3 D=some (.lst (us.map V.ref))/\jy H3 us ((List.range j).map fun k:Nat=>((i:Int),(k:Int)))/\aQ H2' H3) (fun D f=>⟨[],ae,⟨rfl,nofun⟩,aQ.upd f⟩) (fun D j H3 fD jl ⟨us,eD,tu3,S3⟩=>?_) (fun D H3 fD ⟨us,eD,tu3,S3⟩=>?_)
  ·refine⟨jl,fun v H4 y R z=>?_⟩;obtain⟨rfl,rfl⟩:=y;rw[zero_add,aH rfl];walk;refine⟨sz,fun u fu=>?_⟩;have nuD:u≠D:=fun w=>by rw[w,eD] at fu;cases fu
   refine xU (cm fu eD) (by rw[af,tu3.1,af,length_range];have:=bp;lia) (z _ ⟨us++[u],?_,?_,fun b o y=>?_⟩)
   ·rw[ae,aW];rfl
   ·rw[range_succ,aW];refine(tu3.keep fun b xs y=>?_).snoc ?_
    ·rw[ak (cJ y eD nofun)];exact cm fu y
    ·rw[ak nuD,ae]
   ·rw[ak (ah y fD)];exact cm fu (S3 _ _ y)
  ·refine⟨aE _,?_⟩;walk;refine wD (S3 _ _ e2) eD ?_ ?_
   ·rw[af,af,tu.1,tu3.1,af,length_range];have:=bp;lia
   refine⟨ts++us,_,rfl,by rw[ae,aW],?_,fun b o y=>?_⟩
   ·rw[nW ea];exact lB (tu.keep fun b xs y=>by rw[ak (cJ (S3 _ _ y) (S3 _ _ e2) nofun)];exact S3 _ _ y) (tu3.keep fun b xs y=>by rw[ak (cJ y (S3 _ _ e2) nofun)];exact y)
   ·rw[ak (ah y fll)];exact S3 _ _ (S2 _ _ y)
 rintro σ H2 ⟨ts0,o3,rfl,e2,tu0,S2⟩;have bx2:=bx.same S2;walk;refine⟨sz,fun lf flf=>?_⟩;have nlf:=bx2.ne flf;have nfl:lf≠ll:=fun w=>by rw[w,e2] at flf;cases flf
 have k3:KB p H (upd H2 lf (.lst [])):=fun b o y nb=>cm flf (S2 _ _ y);have f0:=S2.free flf;have tu3:=tu0.keep (H':=upd H2 lf (.lst [])) fun b xs y=>cm flf y;generalize hG:upd H2 lf (.lst [])=H3 at *;have ef3:=eG hG;have bx3:=bx2.same (sG hG flf);walk
 refine oo (fun σ' H'=>∃ys os o3 ,σ'=[some (.ref p),some (.ref lb),some (.ref ll),o3,some (.ref lf),none]/\H' lf=some (.lst ys)/\Sps H' ys os/\(∀x,some x∈os ↔ x∈rC LS LS.length)/\os.length<=32/\Box H' p (n+40)/\KB p H H') (fun N z=>?_) ?_
 ·refine jM (fun mm σ H4=>∃(ts:List Addr) (qs:List (Int×Int)) (us:List Addr) (rs:List (Int×Int)),σ=[some (.ref p),some (.ref lb),some (.ref ll),o3,some (.ref lf),none]/\mm=qs.length/\H4 ll=some (.lst (ts.map V.ref))/\jy H4 ts qs/\H4 lf=some (.lst (us.map V.ref))/\jy H4 us rs/\(∀x,x∈rC LS LS.length ↔ x∈qs\/x∈rs)/\qs.length+rs.length<=32/\Box H4 p (n+rs.length)/\KB p H H4) (rC LS LS.length).length ⟨ts0,_,[],[],rfl,rfl,(nG hG flf e2),tu3,ef3,⟨rfl,nofun⟩,fun x=>⟨.inl,fun y=>y.elim id nofun⟩,by simp;lia,bx3,k3⟩ ?_
  rintro mm σ H4 ⟨ts,qs,us,rs,rfl,rfl,el,tq,ef,tr,me,c32,bx4,k4⟩;walk;refine⟨sz,fun b0 fb0=>?_⟩;refine iZ (cm fb0 el) ae ?_;have k5:=k4.updN (o:=.lst []) fb0;have tq5:=tq.keep (H':=upd H4 b0 (.lst [])) fun b xs y=>cm fb0 y;have tr5:=tr.keep (H':=upd H4 b0 (.lst [])) fun b xs y=>cm fb0 y;generalize hG:upd H4 b0 (.lst [])=H5 at *;have bx5:=bx4.same (sG hG fb0);have el5:=nG hG fb0 el
  have ef5:=nG hG fb0 ef;walk;cases ts with
  | nil=>
   refine kR (c:=false) rfl (fY ?_);refine z _ _ ⟨_,rs.map some,_,rfl,ef5,vD tr5,fun x=>?_,by rw[af];lia,bx5.mono (by lia),k5⟩;rw[me,(List.eq_nil_of_length_eq_zero tq.1.symm)];constructor
   ·intro y;obtain⟨x',hx,ex⟩:=bC.mp y;cases ex;exact .inr hx
   ·rintro(y|y)
    ·cases y
    ·exact bC.mpr ⟨x,y,rfl⟩
  | cons t0 ts'=>
   refine kR (c:=true) rfl (gC (wb ?_));have lts:=tq.1;have lpos:0<qs.length:=by rw[<- lts,bf];lia
   walk;refine⟨ll,_,rfl,.inl (SqL.of el5),?_⟩;rw[af,lts];walk;refine⟨p,_,_,rfl,bx5,by lia,by lia,by lia,fun r6 H6 a6 b6 bx6 kb6=>?_⟩;have kp6:∀b o,H5 b=some o->b≠p->H6 b=some o:=fun b o y nb=>kb6.get y nb;have nep:∀{b:Addr} {xs:List V},H5 b=some (.tup xs)->b≠p:=fun {b xs} y w=>by obtain⟨zs,ez⟩:=bx5.lst;rw[w,ez] at y;cases y
   have el6:=kp6 _ _ el5 nll;have ef6:=kp6 _ _ ef5 nlf;have tq6:=tq5.keep fun b xs y=>kp6 _ _ y (nep y);have rk:r6.toNat<(t0::ts').length:=by rw[lts];lia
   have rk':r6.toNat<qs.length:=by lia
   refine⟨ll,_,r6,r6.toNat,.ref (t0::ts')[r6.toNat],rfl,rfl,el6,by lia,by lia,?_,?_,?_⟩
   ·exact six a6 (by rw[af,lts];lia)
   ·rw[aB,aa rk];rfl
   have et:=tq6.2 r6.toNat _ _ (aa rk) (aa rk');have pe:=kJ rk';have te:=qM tq6 r6.toNat
   have lne:=nfl.symm;have el7:upd H6 ll (.lst (((t0::ts').map V.ref).eraseIdx r6.toNat)) ll=some (.lst (((t0::ts').eraseIdx r6.toNat).map V.ref)):=by rw[ae,mV]
   have ef7:upd H6 ll (.lst (((t0::ts').map V.ref).eraseIdx r6.toNat)) lf=some (.lst (us.map V.ref)):=by rw[ak nfl];exact ef6
   walk;refine dh ef7 (by rw[af,tr.1];have:=bp;lia) ?_;walk;have up:∀b o,H6 b=some o->b≠ll->b≠lf->upd (upd H6 ll (.lst (((t0::ts').map V.ref).eraseIdx r6.toNat))) lf (.lst (us.map V.ref++[.ref (t0::ts')[r6.toNat]])) b=some o:=fun b o y n1 n2=>by rw[ak n2,ak n1];exact y
   have upT:∀b xs,H6 b=some (.tup xs)->upd (upd H6 ll (.lst (((t0::ts').map V.ref).eraseIdx r6.toNat))) lf (.lst (us.map V.ref++[.ref (t0::ts')[r6.toNat]])) b=some (.tup xs):=fun b xs y=>up b _ y (cJ y el6 nofun) (cJ y ef6 nofun);have lq:=pe.length_eq;rw[bf] at lq
   refine⟨(qs.eraseIdx r6.toNat).length,by lia,(t0::ts').eraseIdx r6.toNat,qs.eraseIdx r6.toNat,us++[(t0::ts')[r6.toNat]],rs++[qs[r6.toNat]],rfl,rfl,?_,te.keep upT,?_,((tr5.keep fun b xs y=>kp6 _ _ y (nep y)).keep upT).snoc (upT _ _ et),fun x=>?_,?_,?_,?_⟩
   ·rw[ak lne];exact el7
   ·rw[ae,aW];rfl
   ·rw[me,<- pe.mem_iff,bm,aT,au];constructor
    ·rintro((y|y)|y)
     ·exact .inr (.inr y)
     ·exact .inl y
     ·exact .inr (.inl y)
    ·rintro(y|y|y)
     ·exact .inl (.inr y)
     ·exact .inr y
     ·exact .inl (.inl y)
   ·rw[am];simp;lia
   ·rw[am];exact(bx6.to fun o y=>up _ _ y nll.symm nlf.symm)
   ·exact fun b o y nb=>up _ _ (kp6 _ _ (k5.get y nb) nb) (ah y fll) (ah y f0)
 rintro σ' H4 ⟨ys,os,o3',rfl,e4,sp,al,ol,bx4,k4⟩
 have one:os≠[]:=fun w=>by
  have:((0:Int),(0:Int))∈rC LS LS.length:=mq.mpr (by
   cases LS with
   | nil=>exact aY rfl lne
   | cons rs LS'=>exact⟨0,0,rs,by simp,rfl,length_pos_iff.mpr (l8 rs (.head _)).2,rfl,rfl⟩)
  rw[<- al,w] at this;cases this
 walk;refine⟨p,3,_,rfl,bx4,by lia,by decide,by decide,fun r5 H5 a5 b5 bx5 kb5=>?_⟩;have nep:∀{H:Hp} {m:Nat} {b:Addr} {xs:List V},Box H p m->H b=some (.tup xs)->b≠p:=fun {H m b xs} bx y w=>by obtain⟨zs,ez⟩:=bx.lst;rw[w,ez] at y;cases y
 walk;refine gA (by lia) (by lia) ?_;refine iB (fun i σ H6=>∃ys os o5,σ=[some (.ref p),some (.ref lb),some (.ref ll),o3',some (.ref lf),o5]/\H6 lf=some (.lst ys)/\Sps H6 ys os/\(∀x,some x∈os ↔ x∈rC LS LS.length)/\os≠[]/\os.length<=32+i/\Box H6 p (n+41+i)/\KB p H H6) ⟨ys,os,_,rfl,kb5.get e4 nlf,sp.keep fun b xs y=>kb5.get y (nep bx4 y),al,one,ol,bx5,k4.trans kb5⟩ ?_ ?_
 ·rintro i σ H6 lt ⟨ys,os,o5,rfl,e6,sp,al,one,ol,bx6,k6⟩;have ln:=sp.len;have lp:=length_pos_iff.mpr one;walk;refine⟨lf,_,rfl,.inl (SqL.of e6),?_⟩;walk;refine⟨p,_,_,rfl,bx6,by lia,by lia,by lia,fun r7 H7 a7 b7 bx7 kb7=>?_⟩;have e7:=kb7.get e6 nlf;walk;refine⟨lf,ys,r7,.non,rfl,rfl,e7,a7,by lia,by have:=bp;lia,?_⟩;walk
  refine⟨_,os.take r7.toNat++none::os.drop r7.toNat,_,rfl,ae,(sp.keep fun b xs y=>?_).ins r7.toNat,fun x=>?_,by simp,?_,?_,?_⟩
  ·have y7:=kb7.get y (nep bx6 y);rw[ak (cJ y7 e7 nofun)];exact y7
  ·rw[<- al,aT,bm]
   conv=>rhs;rw[<- take_append_drop r7.toNat os,aT]
   constructor
   ·rintro(y|y|y)
    ·exact .inl y
    ·cases y
    ·exact .inr y
   ·rintro(y|y)
    ·exact .inl y
    ·exact .inr (.inr y)
  ·rw[am,bf,bo,bO];lia
  ·exact bx7.to fun o y=>by rw[ak nlf.symm];exact y
  ·exact fun b o y nb=>by rw[ak (ah y f0)];exact kb7.get (k6.get y nb) nb
 ·rintro σ H6 ⟨ys,os,o5,rfl,e6,sp,al,one,ol,bx6,k6⟩;walk;exact q lf ys os H6 f0 nlf e6 sp al (by lia) (bx6.mono (by lia)) k6
theorem wL {o to}{t:L2.TA}(ek:X.K=K)(hu:X.A.in1.units<cLine)(ho:PE X o to)(ha:PA X [e] t)(hbase:attributeBase o "index" X.env (eval o X.env)=eval o X.env:=by rfl)
  (hfew:((backTo cpos (starEach [e] X.env)).all (fun x=>!x.1)&&(backToKw cpos (keywordEach [] X.env)).all (fun x=>x.1.isSome)&&decide ([e].length+([]:List Keyword).length+(if ([]:List Keyword).isEmpty then 0 else 1)<30))=true:=by rfl)
  (hline:(apos.endLine==cpos.line)=true:=by rfl) (hs:starEach [e] X.env=(false,eval e X.env)::starEach [] X.env:=by rfl) (hplain:(backTo cpos (starEach [] X.env)).any (·.1)=false:=by rfl):PE X (.Call (.Attribute o "index" apos) [e] [] cpos) (tBM K "list" ou to t):=
 ek▸fU aX slot_list_index type_list_index (jY hu) ho ha hbase hfew hline hs hplain
def pos (x:Int×Int):List (Option (Int×Int))->Nat
 | []=>0
 | o::os=>if o=some x then 0 else pos x os+1
theorem jQ {x:Int×Int}:∀{os:List (Option (Int×Int))},some x∈os->os[pos x os]?=some (some x)
 | o::os,h=>by
  unfold pos;by_cases e:o=some x
  ·rw[aH e,e];rfl
  ·rw[aA e];exact jQ ((bm.mp h).resolve_left fun z=>e z.symm)
theorem sr {x:Int×Int}:∀{os:List (Option (Int×Int))} {m:Nat},m<pos x os->os[m]?≠some (some x)
 | o::os,m,h=>by
  unfold pos at h;by_cases e:o=some x
  ·rw[aH e] at h;lia
  ·rw[aA e] at h;cases m with
   | zero=>exact fun z=>e (aw z)
   | succ m=>exact sr (os:=os) (m:=m) (by lia)
theorem Sps.fresh {os:List (Option (Int×Int))}(s:Sps H ys os)(f:H u=none):V.ref u∉ys:=by
 induction s with
 | nil=>exact nofun
 | cons a _ ih=>
  intro z;rcases bm.mp z with e|z
  ·cases a with
   | no=>cases e
   | «at» t a b h=>cases e;rw[f] at h;cases h
  ·exact ih z
theorem wC {l}{os:List (Option (Int×Int))}{a b:Int}(h:H l=some (.lst ys))(s:Sps H ys os)(f:H u=none)(m:some (a,b)∈os)(q:Q (.int (pos (a,b) os:Nat)) (upd H u (.tup [.int a,.int b]))):ou (.ref l) [.ref u] (upd H u (.tup [.int a,.int b])) Q:=by
 have s2:Sps (upd H u (.tup [.int a,.int b])) ys os:=s.keep fun b xs y=>cm f y;exact⟨l,ys,u,a,b,os,pos (a,b) os,rfl,rfl,cm f h,ae,s2.len,s2.at,s.fresh f,jQ m,fun m h=>sr h,q⟩
def ptN (H H':Hp):Hp:=fun b=>match H b with
 | some _=>none
 | none=>match H' b with
  | some (.lst xs)=>some (.lst xs)
  | some (.dK k)=>some (.dK k)
  | _=>none
theorem rZ (n:H b=none)(e:H' b=some (.lst xs)):ptN H H' b=some (.lst xs):=by unfold ptN;rw[n,e]
theorem wG {k}(n:H b=none)(e:H' b=some (.dK k)):ptN H H' b=some (.dK k):=by unfold ptN;rw[n,e]
theorem gF (e:ptN H H' b=some o):H b=none/\H' b=some o/\((∃xs,o=.lst xs)\/∃k,o=.dK k):=by
 unfold ptN at e;split at e
 ·cases e
 ·next n=>
  split at e
  ·next q=>cases e;exact⟨n,q,.inl ⟨_,rfl⟩⟩
  ·next q=>cases e;exact⟨n,q,.inr ⟨_,rfl⟩⟩
  ·cases e
theorem uK:aQ (ptN H H') H':=fun b o e=>(gF e).2.1
theorem zf {o:Option Int}{a}(h:oV o=.ref a):False:=by cases o<;>cases h
theorem Rows.out {bs:List Addr}{rs:List Row}(x:Rows p H as up rs)(e:H lb=some (.lst (bs.map V.ref)))(ne:bs≠[]):Rows p (upd H lb o) as up rs:=by
 obtain⟨b0,bs0,rfl⟩:∃b0 bs0,bs=b0::bs0:=by cases bs with|nil=>exact aY rfl ne|cons b0 bs0=>exact⟨b0,bs0,rfl⟩
 rw[bH] at e;refine⟨x.1,fun i a r ea er=>?_⟩;obtain⟨na,kl,nk,q1,q2⟩:=x.2 i a r ea er;have nkl:kl≠lb:=fun w=>by rw[w,e] at q1;exact jN (HO.lst.inj (aw q1))
 refine⟨na,kl,nk,by rw[ak nkl];exact q1,?_⟩
 have nol:∀{v:V} {xs:List V},H a=some (.lst (v::oV r.lo::xs))->a≠lb:=fun {v xs} q w=>by
  rw[w,e] at q;have:=(List.cons.inj (HO.lst.inj (aw q))).2;cases bs0 with
  | nil=>cases this
  | cons b1 bs1=>
   exact zf (List.cons.inj this).1.symm
 cases up with
 | true=>
  obtain⟨cl,nc,q3,q4⟩:=q2
  have ncl:cl≠lb:=fun w=>by
   rw[w,e] at q3;have:=HO.lst.inj (aw q3);unfold chL at this;rw[show (r.ch.map fun i:Nat=>V.int (i:Int))=(r.ch.map fun i:Nat=>(i:Int)).map V.int by rw[map_map];rfl] at this;exact jN this
  exact⟨cl,nc,by rw[ak ncl];exact q3,by rw[ak (nol q4)];exact q4⟩
 | false=>show upd H lb o a=_;rw[ak (nol q2)];exact q2
def Ar (LS:List (List Row)):Prop:=∀(i:Nat) rs,LS[i]?=some rs->(∃hs,LvOk rs hs)/\∀(j:Nat) rs',i=j+1->LS[j]?=some rs'->xX rs'.length rs
theorem Ar.snoc {rs:List Row}(x:Ar LS)(l:LvOk rs hs)(ch:∀(j:Nat) rs',LS.length=j+1->LS[j]?=some rs'->xX rs'.length rs):Ar (LS++[rs]):=fun i r e=>by
 rcases lt_or_ge i LS.length with h|h
 ·rw[aN h] at e;obtain⟨a,b⟩:=x i r e;exact⟨a,fun j rs' ej er=>b j rs' ej (by rwa[aN (by lia)] at er)⟩
 ·rw[aM h] at e;cases z:i - LS.length with
  | zero=>
   rw[z] at e;cases e;refine⟨⟨hs,l⟩,fun j rs' ej er=>ch j rs' (by lia) ?_⟩
   rwa[aN (by lia)] at er
  | succ j=>rw[z] at e;cases e
theorem vt.snoc {bs}{rs:List Row}(x:vt p H bs LS)(n:b≠p)(e:H b=some (.lst (as.map V.ref)))(r:Rows p H as (decide (0<LS.length)) rs):vt p H (bs++[b]) (LS++[rs]):=by
 refine⟨by rw[am,am,x.1];rfl,fun i a q f g=>?_⟩;rcases lt_or_ge i bs.length with h|h
 ·rw[aN h] at f;rw[aN (by rw[<- x.1];exact h)] at g;exact x.2 i a q f g
 ·rw[aM h] at f;rw[aM (by rw[<- x.1];exact h),<- x.1] at g;cases z:i - bs.length with
  | zero=>
   rw[z] at f g;cases f;cases g;refine⟨n,as,e,?_⟩;rw[show i=LS.length by have:=x.1;lia];exact r
  | succ j=>rw[z] at f;cases f
theorem Cr {l:Nat}(h:l<4):(l:Int)<=60:=by lia
theorem iO:∀{l m:List Int},l.Nodup->(∀x∈l,x∈m)->l.length<=m.length
 | [],_,_,_=>zero_le _
 | x::l,m,nd,h=>by
  obtain⟨n1,n2⟩:=bJ.mp nd;have hx:=h x (.head _);have ih:=iO (m:=m.erase x) n2 fun y hy=>(List.mem_erase_of_ne (fun(e:y=x)=>n1 (e▸hy))).mpr (h y (.tail _ hy));rw[List.length_erase_of_mem hx] at ih;have:0<m.length:=List.length_pos_of_mem hx;rw[bf]
  lia
theorem jv {α β:Type}{f:α->β}:∀{l:List α},l.Nodup->(∀a∈l,∀b∈l,f a=f b->a=b)->(l.map f).Nodup
 | [],_,_=>.nil
 | x::l,nd,h=>by
  obtain⟨n1,n2⟩:=bJ.mp nd;rw[bH,bJ];refine⟨fun z=>?_,jv n2 fun a ha b hb=>h a (.tail _ ha) b (.tail _ hb)⟩;obtain⟨y,hy,e⟩:=bC.mp z;exact n1 (h x (.head _) y (.tail _ hy) e.symm▸hy)
structure Mdl (g H:Hp)(d:Addr)(kvs:List (Key×V))(ps:List Int)(f:Int->Option ND):Prop where
 m:IsM g d kvs ps f
 s:aQ g H
 k:∀b o,g b=some o->(∃xs,o=.lst xs)\/∃k,o=.dK k
inductive spModel (vs:List V)(H:Hp)(Q:VK)(E:XK):Prop
 | mk (p:Addr)(most:Int)(n:Nat):vs=[.ref p,.int most]->Box H p n->n<=800000->2<=most->most<=5 ->
   (∀tt d tp kvs ps f g H',H' tt=some (.tup [.ref d,.int tp])->Mdl g H' d kvs ps f->(∀b o,g b=some o->H b=none)->(∀x∈ps,0<=x/\x<35)->(∀x n,f x=some n->(NOk 0 n/\∀r,n.rt=some r->r∈ps)/\(n.lv≠0->∀g∈n.gs,g∈ps/\g≠x))->tp∈ps->Box H' p (n+1000)->KB p H H'->Q (.ref tt) H')->spModel vs H Q E
theorem uQ:Ok F F.r.d__law_model 3 spModel:=by
 refine F.r.d__law_model.go fun sc H Q hr h=>?_;obtain⟨p,most,n,rfl,bx,hn,m0,m1,q⟩:=h;have hu1:=hr.in1.units0
 refine⟨_,(ad (cD sc 2 (bw (pa1 (cc (sI F) hr (pa2 (pv 0) (pv 1))))))
  (ad (dC PassesOwn.never rfl (da rfl F.r.T.n_range (pa1 (bN jp (cc (bS F) hr (pa2 (pv 0) ap)) ap))) (eO sc 3)
   (ao (a_ (fU aX PySem.F.slot_list_append PySem.F.type_list_append cK (pv 2) (pa1 (cc (wX F) hr (pa3 (pv 0) (pv 1) (pix aS (pv 2) (ii eX ap)))))))))
  (ad (kF (i:=4) sc.nd rfl (Or.inr rfl) (cc (uP F) hr (pa2 (pv 0) (pv 2))))
  (ad (cD sc 5 fO)
  (ad (dC PassesOwn.never rfl (gm rfl F.r.T.n_enumerate dw (pa1 (pv 4))) (gc rfl (bn (eO sc 6) (bn (eO sc 7) dS)))
   (ao (bT (pc i7 (pv 7) bV)
   (ad (iF (pv 7) (gc rfl (bn (gG (i:=8) sc.nd rfl (Or.inr rfl)) (bn (eO sc 9) dS))))
  (ad (cD sc 10 (pix aS (pix aS (pv 2) (pv 8)) (pv 9)))
  (ad (eT (i:=11) (dE ["_law_box_here"] [0]) rfl (dm (pix aS (pv 10) ap)) (fun _ _ _ _ _=>PTs.nil) (fun _ _ _ _ _=>(bN g_ (cc (bS F) hr (pa2 (pv 1) ap)) ap)) sc.nd rfl rfl)
  (ad (bT (pc i8 (pv 8) ap)
   (ao (eT (i:=11) (dE ["_law_order_here","_law_level"] [4,8]) rfl (dm (pix aS (pv 10) ap)) (fun _ _ _ _ _=>PTs.nil) (fun _ _ _ _ _=>(wL (K:=K) rfl hu1 (pv 1) (pa1 (dU (pa2 (bN g_ (pv 2) ap) (pv 0)))))) sc.nd rfl rfl))
   bd)
  (ad (cD sc 12 bV)
  (ad (bT (pc i7 (pix aS (pv 10) ap) bV)
   (ao (cD sc 12 (fU aX slot_list_index type_list_index (jY hu1) (pv 4) (pa1 (dU (pa2 (pv 8) (bN cH (pv 9) ap)))))))
   bd)
  (ao (dH (dt hr) (pv 5) (pv 6) (bw (pa5 (pv 8) (cF cM rfl F.r.T.n_list dX (pa1 (pix aS (pv 10) ap))) (pv 11) (pix aS (pv 10) ap) (pv 12))) rfl))))))))
   bd)))
  (ao (bc (dU (pa2 (pv 5) (fU aX slot_list_index type_list_index (jY hu1) (pv 4) (pa1 (dU (pa2 (bN g_ (aR bj rfl F.r.T.n_len cS (pa1 (pv 2))) ap) ap))))))))))))),?_⟩
 walk;refine⟨p,most,n,rfl,bx,by lia,m0,m1,fun rs hs l1 as H1 lv fl1 e1 nl1 rw1 bx1 k1=>?_⟩;walk;refine⟨sz,fun lb flb=>?_⟩;have nlb:=bx1.ne flb;have k2:=k1.updN (o:=.lst [.ref l1]) flb;have rw2:=rw1.kb (H':=upd H1 lb (.lst [.ref l1])) fun b xs y _=>cm flb y;generalize hG:upd H1 lb (.lst [.ref l1])=H2 at *;have e2:=eG hG;walk
 refine⟨p,5,_,rfl,(bx1.same (sG hG flb)),by lia,by decide,by decide,fun r3 H3 a3 b3 bx3 kb3=>?_⟩;walk;have r4:r3 % 4<=3/\0<=r3 % 4:=by lia
 generalize r3 % 4=r4 at *;refine gA (by lia) (by lia) ?_;refine iB (fun i σ H4=>∃(LS:List (List Row)) (bs:List Addr) (o3:Option V),σ=[some (.ref p),some (.int most),some (.ref lb),o3,none,none,none,none,none,none,none,none,none]/\LS.length=i+1/\Ar LS/\H4 lb=some (.lst (bs.map V.ref))/\vt p H4 bs LS/\(∀b∈bs,b≠lb)/\Box H4 p (n+201+20 * i)/\KB p H H4) ?_ ?_ ?_
 ·refine⟨[rs],[l1],_,rfl,rfl,?_,kb3.get e2 nlb,?_,?_,bx3,k2.trans kb3⟩
  ·intro i r e;cases i with
   | zero=>cases e;exact⟨⟨hs,lv⟩,fun j rs' ej=>by lia⟩
   | succ i=>cases e
  ·refine⟨rfl,fun i b r e f=>?_⟩;cases i with
   | zero=>cases e;cases f;exact⟨nl1,as,kb3.get (nG hG flb e1) nl1,rw2.kb fun b xs y nb=>kb3.get y nb⟩
   | succ i=>cases e
  ·intro b hb;rw[au.mp hb];exact(ah e1 flb)
 ·rintro i σ H4 lt ⟨LS,bs,o3,rfl,ll,lok,e4,lvs,nbl,bx4,k4⟩;have ib:i<bs.length:=by rw[lvs.1];lia
  have iL:i<LS.length:=by lia
  obtain⟨nb,as4,hb4,rw4⟩:=lvs.2 i _ _ (aa ib) (aa iL);obtain⟨⟨hs4,lv4⟩,_⟩:=lok i _ (aa iL);have bne:bs≠[]:=fun z=>by rw[z] at ib;cases ib
  walk;refine cG e4 (v:=.ref bs[i]) (mj (k:=i) (by rw[af,lvs.1,ll]) (by rw[aB,aa ib];rfl)) ?_;walk;refine⟨p,bs[i],most,_,as4,_,LS[i],hs4,rfl,bx4,by lia,m0,m1,lv4,hb4,nb,rw4,fun rs' hs' l5 as5 H5 lv5 ch5 fl5 e5 nl5 rw5 bx5 k5=>?_⟩;have e45:=k5.get e4 nlb;have n5b:l5≠lb:=fun w=>by rw[w,e4] at fl5;cases fl5
  walk;refine dh e45 (by rw[af,lvs.1,ll];have:=bp;lia) ?_;walk
  have lv5':vt p (upd H5 lb (.lst (bs.map V.ref++[.ref l5]))) bs LS:=by
   refine⟨lvs.1,fun j b r e f=>?_⟩;obtain⟨nb',as',hb',rw'⟩:=lvs.2 j b r e f;refine⟨nb',as',?_,(rw'.kb fun b xs y nb=>k5.get y nb).out e45 bne⟩;rw[ak (nbl b (aK e))];exact k5.get hb' nb'
  refine⟨LS++[rs'],bs++[l5],_,rfl,by rw[am,ll];rfl,lok.snoc lv5 fun j r' ej er=>?_,by rw[ae,aW];rfl,lv5'.snoc nl5 (by rw[ak n5b];exact e5) ?_,?_,?_,?_⟩
  ·have:j=i:=by lia
   subst this;rw[aa iL] at er;cases er;exact ch5
  ·rw[av (by lia)];exact rw5.out e45 bne
  ·intro b hb;rcases aT.mp hb with hb|hb
   ·exact nbl b hb
   ·rw[au.mp hb];exact n5b
  ·exact bx5.to fun o y=>by rw[ak nlb.symm];exact y
  ·exact fun b o y nb'=>by rw[ak (ah y (c_ k1 flb nlb))];exact k5.get (k4.get y nb') nb'
 rintro σ H4 ⟨LS,bs,o3,rfl,ll,lok,e4,lvs,nbl,bx4,k4⟩;have l4:LS.length<=4:=by lia
 have l8:∀rs∈LS,rs.length<=8/\rs≠[]:=fun rs hrs=>by
  obtain⟨i,hi,ei⟩:=bD hrs;obtain⟨⟨hs,lv⟩,_⟩:=lok i rs (by rw[aa hi,ei]);exact⟨lv.few,fun z=>by have:=lv.n;rw[z] at this;simp at this⟩
 walk;refine⟨p,lb,_,bs,LS,rfl,bx4,by lia,e4,nlb,lvs,by lia,l8,(fun z=>by rw[z] at ll;cases ll),fun lo ys os H5 flo nlo e5 sp al ol bx5 k5=>?_⟩;have k05:=k4.trans k5;have e45:=k5.get e4 nlb;walk;refine fun d fd=>?_;have nd:=bx5.ne fd;have fd0:=c_ k05 fd nd;generalize hG:upd H5 d (.dK [])=H6 at *;have k6:KB p H5 H6:=hG▸KB.refl.updN fd;have bx6:=bx5.same (sG hG fd);walk;refine Ai ?_;walk
 refine Al (k6.get e5 nlo) ?_;have olen:=sp.len;have isAll:∀{l k:Nat} {rs:List Row},LS[l]?=some rs->k<rs.length->some ((l:Int),(k:Int))∈os:=fun {l k rs} h1 h2=>(al _).mpr (mq.mpr ⟨l,k,rs,(aq.mp h1).1,h1,h2,rfl,rfl⟩)
 refine jO os.length (fun i σ H7=>∃(ps:List Int) (f:Int->Option ND) (kvs:List (Key×V)) (o6 o7 o8 o9 o10 o11 o12:Option V),σ=[some (.ref p),some (.int most),some (.ref lb),o3,some (.ref lo),some (.ref d),o6,o7,o8,o9,o10,o11,o12]/\IsM (ptN H H7) d kvs ps f/\(∀x:Int,x∈ps ↔ ∃j:Nat,j<i/\x=j/\∃y,os[j]?=some (some y))/\(∀x n,f x=some n->(NOk 0 n/\∀r,n.rt=some r->∃j:Nat,r=j/\∃y,os[j]?=some (some y))/\(n.lv≠0->∀g∈n.gs,g≠x/\∃j:Nat,g=j/\∃y,os[j]?=some (some y)))/\Box H7 p (n+320+10 * i)/\(∀b o,H5 b=some o->b≠p->H7 b=some o)/\KB p H H7) ?_ ?_ ?_
 ·refine⟨[],fun _=>none,[],_,_,_,_,_,_,_,rfl,⟨wG fd0 (eG hG),rfl,.nil,nofun,fun _ _=>rfl⟩,fun x=>⟨nofun,fun⟨j,z,_⟩=>aY z (not_lt_zero _)⟩,(fun _ _ z=>by cases z),bx6.mono (by lia),fun b o y nb=>k6.get y nb,k05.trans k6⟩
 ·rintro i σ H7 lt ⟨ps,f,kvs,o6,o7,o8,o9,o10,o11,o12,rfl,m7,pin,nok,bx7,k57,k7⟩;have eo7:=k57 _ _ e5 nlo;have iy:i<ys.length:=by rw[olen];exact lt
  refine⟨kQ eo7 iy,fun v H8 y=>?_⟩;obtain⟨tt,x,rfl,ftt,ex,rfl⟩:=jb eo7 y;generalize hG:upd H7 tt (.tup [.int i,x])=H8 at *;have S8:=sG hG ftt;have t8:=eG hG;have sp0:=sp.at i x _ ex (aa lt);have eoi:=aa lt;generalize os[i]=oi at *
  have up8:∀b o,ptN H H7 b=some o->ptN H H8 b=some o:=fun b o y=>by
   obtain⟨n0,y7,kd⟩:=gF y;rcases kd with⟨xs,rfl⟩|⟨kk,rfl⟩
   ·exact rZ n0 (S8 _ _ y7)
   ·exact wG n0 (S8 _ _ y7)
  walk;cases sp0 with
  | no=>
   refine⟨rfl,?_⟩;walk;refine l_ rfl ?_;walk;refine⟨ps,f,kvs,_,_,_,_,_,_,_,rfl,m7.same up8,fun x=>?_,nok,(bx7.same S8).mono (by lia),fun b o y nb=>S8 _ _ (k57 _ _ y nb),fun b o y nb=>S8 _ _ (k7 _ _ y nb)⟩;rw[pin];constructor
   ·rintro⟨j,h1,h2,h3⟩;exact⟨j,by lia,h2,h3⟩
   ·rintro⟨j,h1,h2,y,h3⟩;refine⟨j,?_,h2,y,h3⟩;rcases lt_or_ge j i with z|z
    ·exact z
    ·have:j=i:=by lia
     rw[this,eoi] at h3;cases h3
  | «at» ta ai bi hta=>
   refine⟨rfl,?_⟩;walk;refine u7 nofun ?_;obtain⟨lv0,kk,rs,hl,eLS,hk,rfl,rfl⟩:=mq.mp ((al _).mp (aK eoi));have S58:∀b o,H5 b=some o->b≠p->H8 b=some o:=fun b o y nb=>S8 _ _ (k57 _ _ y nb);have bx8:=bx7.same S8;have ta8:=S58 _ _ hta (fun w=>by obtain⟨zs,ez⟩:=bx5.lst;rw[w,ez] at hta;cases hta);have bl:lv0<bs.length:=by rw[lvs.1];exact hl
   obtain⟨nb0,as0,hb0,rw0⟩:=(lvs.kb fun b xs y nb=>k5.get y nb).2 lv0 _ rs (aa bl) eLS;have ka:kk<as0.length:=by rw[rw0.1];exact hk
   have row8:=(rw0.kb (H':=H8) fun b xs y nb=>S58 _ _ y nb).2 kk _ _ (aa ka) (aa hk);obtain⟨⟨hs,lvo⟩,chO⟩:=lok lv0 rs eLS;obtain⟨rlo,rhi,rks,rk5⟩:=lvo.p.row kk _ (aa hk)
   have chr:0<lv0->∃nb:Nat,(∀k∈(rs[kk]).ch,k<nb)/\(rs[kk]).ch.length=(rs[kk]).ks.length+1/\(rs[kk]).ch.Nodup/\∃rs',LS[lv0 - 1]?=some rs'/\rs'.length=nb:=fun h0=>by
    have h1:lv0 - 1<LS.length:=by lia
    obtain⟨c1,c2,c3⟩:=chO (lv0 - 1) _ (by lia) (aa h1) _ (getElem_mem hk);exact⟨_,c3,c1,c2,_,aa h1,rfl⟩
   have hiN:(rs[kk]).hi≠none->kk+1<rs.length:=fun h=>by
    rw[rhi] at h;have:=lvo.n;rcases lt_or_ge kk hs.length with z|z
    ·lia
    ·exact aY (List.getElem?_eq_none z) h
   have hiK:∀x,(rs[kk]).hi=some x->lh x:=fun x h=>by rw[rhi] at h;exact lvo.p.hk x (aK h)
   have ear:=aa ka;generalize rs[kk]=row at *;generalize as0[kk]=ar at *;obtain⟨nar,kl,nkl,ekl,rest⟩:=row8
   obtain⟨xs,exs,x0,x2,x3⟩:∃xs,H8 ar=some (.lst xs)/\xs[0]?=some (.ref kl)/\xs[2]?=some (oV row.hi)/\(0<lv0->∃cl,xs[3]?=some (.ref cl)/\cl≠p/\H8 cl=some (.lst (chL row.ch))):=by
    by_cases h0:0<lv0
    ·rw[av h0,aH rfl] at rest;obtain⟨cl,nc,ec,er⟩:=rest;exact⟨_,er,rfl,rfl,fun _=>⟨cl,rfl,nc,ec⟩⟩
    ·rw[aF h0,aA ay] at rest;exact⟨_,rest,rfl,rfl,fun z=>aY z h0⟩
   walk;refine cG (S58 _ _ e45 nlb) (v:=.ref bs[lv0]) (dN (by rw[aB,aa bl];rfl)) ?_;walk;refine cG (S58 _ _ hb0 nb0) (v:=.ref ar) (dN (j:=kk) ?_) ?_
   ·rw[aB,ear];rfl
   walk;refine fE (fun J H'=>J=Itl K kl/\H'=H8) (fun R z=>?_) ?_
   ·walk;refine cG exs (kq x0) ?_;walk;exact z _ _ ⟨rfl,rfl⟩
   rintro J H8' ⟨rfl,rfl⟩;refine fW (J:=Itl K kl) (H1:=H8') row.ks.length (fun R z=>z) (fun D j H9=>∃gs:List Int,H9 D=some (.lst (gs.map V.int))/\gs.length=j/\(∀g∈gs,-50<=g/\g<=49)/\KB p H8' H9/\Box H9 p (n+320+10 * i+j)) (fun D f=>⟨[],ae,rfl,nofun,KB.refl.updN f,bx8.same (aQ.upd f)⟩) (fun D j H9 fD jl ⟨gs,eD,gl,gb,k9,bx9⟩=>?_) (fun D H9 fD ⟨gs,eD,gl,gb,k9,bx9⟩=>?_)
   ·have nD:=bx8.ne fD;have kl9:=k9.get ekl nkl;refine⟨qu kl9 (by rw[af];exact jl),fun v H10 y R z=>?_⟩;obtain⟨rfl,_⟩:=lZ kl9 y;rw[aH rfl];walk;refine⟨p,100,_,rfl,bx9,by lia,by decide,by decide,fun r10 H11 a10 b10 bx10 kb10=>?_⟩;walk;refine xU (kb10.get eD nD) (by rw[af];have:=bp;lia) (z _ ⟨gs++[r10 - 50],?_,?_,fun g hg=>?_,fun b o y nb=>?_,?_⟩)
    ·rw[ae,aW];rfl
    ·rw[am,gl];rfl
    ·rcases aT.mp hg with hg|hg
     ·exact gb g hg
     ·rw[au.mp hg];lia
    ·rw[ak (ah y fD)];exact kb10.get (k9.get y nb) nb
    ·exact bx10.to fun o y=>by rw[ak nD.symm];exact y
   refine⟨by have:=jG (K:=K) (k9.get ekl nkl);rwa[af] at this,?_⟩;have nD:=bx8.ne fD;have sp9:∀{H'':Hp},KB p H8' H''->Sps H'' ys os:=fun {H''} kk'=>sp.keep fun b xs y=>kk'.get (S58 _ _ y (fun w=>by obtain⟨zs,ez⟩:=bx5.lst;rw[w,ez] at y;cases y)) (fun w=>by obtain⟨zs,ez⟩:=bx5.lst;rw[w,ez] at y;cases y);have eo8:=S58 _ _ e5 nlo;refine dB (by assumption) ?_
   refine eK (fun σ' H'=>∃(gl:Addr) (gs:List Int),σ'=[some (.ref p),some (.int most),some (.ref lb),o3,some (.ref lo),some (.ref d),some (.int (i:Int)),some (.ref ta),some (.int (lv0:Int)),some (.int (kk:Int)),some (.ref ar),some (.ref gl),o12]/\H' gl=some (.lst (gs.map V.int))/\H8' gl=none/\gl≠p/\(lv0=0->gs.length=row.ks.length/\∀g∈gs,-100<=g/\g<=100)/\(lv0≠0->okI row.ks.length gs/\∀g∈gs,g≠(i:Int)/\∃j:Nat,g=j/\∃y,os[j]?=some (some y))/\KB p H8' H'/\Box H' p (n+320+10 * i+5)) (fun N z=>?_) ?_
   ·walk;by_cases l0:lv0=0
    ·refine iW (by lia) ?_;walk;exact z _ _ ⟨D,gs,rfl,eD,fD,nD,fun _=>⟨gl,fun g hg=>by have:=gb g hg;lia⟩,fun y=>aY l0 y,k9,bx9.mono (by lia)⟩
    ·refine ik (by lia) ?_;obtain⟨cl,x3',nc,ec⟩:=x3 (by lia);obtain⟨nb,c1,c2,c3,rs',eR,lR⟩:=chr (by lia)
     have mm:∀k∈row.ch,some ((lv0:Int) - 1,(k:Int))∈os:=fun k hk'=>by
      rw[show (lv0:Int) - 1=((lv0 - 1:Nat):Int) by lia];exact isAll eR (by rw[lR];exact c1 k hk')
     walk;refine fE (fun J H'=>J=Itl K cl/\H'=H9) (fun R z=>?_) ?_
     ·walk;refine cG (k9.get exs nar) (dN (j:=3) x3') ?_;walk;exact BQ (k9.get ec nc) (z _ _ ⟨rfl,rfl⟩)
     rintro J H9' ⟨rfl,rfl⟩;have ec9:=k9.get ec nc;refine jx (J:=Itl K cl) (H1:=H9') (chL row.ch) (fun _=>true) (fun v=>match v with|.int k=>.int (pos ((lv0:Int) - 1,k) os:Nat)|v=>v) (fun R z=>z) (j_ (tp:=false) ec9) ?_ ?_ (by rw[pb];lia) ?_
     ·exact fun _ _ H2 R _ r=>r H2 (aQ.refl _)
     ·intro x hx _ H10 R S10 r;unfold chL at hx;obtain⟨k,hk',rfl⟩:=bC.mp hx;have k10:KB p H8' H10:=fun b o y nb=>S10 _ _ (k9 _ _ y nb);have eo10:=k10.get eo8 nlo;walk;refine⟨sz,fun u fu=>?_⟩;walk;exact wC eo10 (sp9 k10) fu (mm k hk') (r _ (aQ.upd fu))
     intro D2 H10 fD2 S10 eD2;rw[jI] at eD2;walk;refine z _ _ ⟨D2,row.ch.map fun k:Nat=>((pos ((lv0:Int) - 1,(k:Int)) os:Nat):Int),rfl,?_,?_,?_,fun y=>aY y l0,fun _=>⟨⟨by rw[af];exact c2,fun g hg=>?_,?_⟩,fun g hg=>?_⟩,fun b o y nb=>S10 _ _ (k9 _ _ y nb),(bx9.same S10).mono (by lia)⟩
     ·rw[eD2];unfold chL;rw[map_map,map_map];rfl
     ·exact c_ k9 fD2 (bx9.ne fD2)
     ·exact bx9.ne fD2
     ·obtain⟨k,_,rfl⟩:=bC.mp hg;lia
     ·refine jv c3 fun a ha b hb e=>?_;have p1:=jQ (mm a ha);have p2:=jQ (mm b hb);have e':pos ((lv0:Int) - 1,(a:Int)) os=pos ((lv0:Int) - 1,(b:Int)) os:=by lia
      rw[e',p2] at p1;have:=(Prod.mk.inj (aw (aw p1))).2
      lia
     ·obtain⟨k,hk',rfl⟩:=bC.mp hg;have p1:=jQ (mm k hk');refine⟨fun e=>?_,_,rfl,_,p1⟩;have e':pos ((lv0:Int) - 1,(k:Int)) os=i:=by lia
      rw[e',eoi] at p1;have:=(Prod.mk.inj (aw (aw p1))).1
      lia
   rintro σ9 H10 ⟨gl1,gs1,rfl,eg,fg,ng,gz,gi,k10,bx10⟩;refine ji fun _ _=>?_;refine rR ?_;refine r_c ?_;refine dB (by assumption) ?_
   refine eK (fun σ' H'=>∃(rt:Option Int),σ'=[some (.ref p),some (.int most),some (.ref lb),o3,some (.ref lo),some (.ref d),some (.int (i:Int)),some (.ref ta),some (.int (lv0:Int)),some (.int (kk:Int)),some (.ref ar),some (.ref gl1),some (oV rt)]/\(row.hi=none->rt=none)/\(∀x,row.hi=some x->∃j:Nat,rt=some (j:Int)/\∃y,os[j]?=some (some y))/\aQ H10 H') (fun N z=>?_) ?_
   ·walk;refine cG (k10.get exs nar) (dN (j:=2) x2) ?_;walk;refine⟨rfl,?_⟩;walk;cases ehi:row.hi with
    | none=>
     refine l_ rfl ?_;walk;exact z _ _ ⟨none,rfl,fun _=>rfl,(fun x y=>by rw[ehi] at y;cases y),aQ.refl _⟩
    | some hx=>
     refine u7 nofun ?_;have k1r:=hiN (by rw[ehi];exact nofun);have m2:=isAll eLS k1r;have eo10:=k10.get eo8 nlo;walk;refine⟨sz,fun u fu=>?_⟩;walk;refine wC (a:=(lv0:Int)) (b:=(kk:Int)+1) eo10 (sp9 k10) fu (by rw[show (kk:Int)+1=((kk+1:Nat):Int) by lia];exact m2) ?_;walk
     refine z _ _ ⟨some _,rfl,(fun y=>by rw[ehi] at y;cases y),fun x _=>⟨_,rfl,_,jQ (x:=((lv0:Int),(kk:Int)+1)) (by rw[show (kk:Int)+1=((kk+1:Nat):Int) by lia];exact m2)⟩,aQ.upd fu⟩
   rintro σ9 H11 ⟨rt,rfl,rn,rsome,S11⟩;have k11:KB p H8' H11:=fun b o y nb=>S11 _ _ (k10 _ _ y nb);have bx11:=bx10.same S11;have d11:=k11.get (S8 _ _ (gF m7.d).2.1) nd;walk;refine cG (k11.get exs nar) (kq x0) ?_;walk;refine⟨kl,_,rfl,.inl (SqL.of (k11.get ekl nkl)),fun l2 fl2=>?_⟩;have nl2:=bx11.ne fl2;walk;refine cG (cm fl2 (k11.get exs nar)) (dN (j:=2) x2) ?_;walk
   refine⟨sz,fun qn fqn=>?_⟩;have nqn:=(bx11.same (aQ.upd (o:=.lst (row.ks.map V.int)) fl2)).ne fqn;have fqn1:=(aQ.upd (o:=.lst (row.ks.map V.int)) fl2).free fqn;have n2q:l2≠qn:=fun w=>by rw[<- w,ae] at fqn;cases fqn
   walk
   have lkv:kvs.length<sizeLine:=by
    have:=m7.len
    have h2:ps.length<=os.length:=by
     have nd':=m7.nd
     have:∀x∈ps,x∈(List.range os.length).map (fun j:Nat=>(j:Int)):=fun x hx=>by
      obtain⟨j,h1,rfl,_⟩:=(pin x).mp hx;exact bC.mpr ⟨j,mem_range.mpr (by lia),rfl⟩
     have:=iO nd' this
     rwa[af,length_range] at this
    have:=bp
    lia
   refine eF (k:=Sum.inl (i:Int)) (cm fqn (cm fl2 d11)) lkv ?_;have up:∀{b:Addr} {o:HO},H11 b=some o->b≠d->upd (upd (upd H11 l2 (.lst (row.ks.map V.int))) qn (.lst [.int (lv0:Int),.ref l2,.ref gl1,oV row.hi,oV rt])) d (.dK (db kvs (Sum.inl (i:Int)) (.ref qn))) b=some o:=fun y nb=>by rw[ak nb];exact cm fqn (cm fl2 y)
   have nqd:qn≠d:=fun w=>by rw[w,d11] at fqn1;cases fqn1
   have n2d:l2≠d:=fun w=>by rw[w,d11] at fl2;cases fl2
   have ngd:gl1≠d:=fun w=>by rw[w,S8 _ _ (gF m7.d).2.1] at fg;cases fg
   have fr8:∀{b:Addr},H8' b=none->H b=none:=fun {b} y=>by
    by_cases w:b=p
    ·obtain⟨zs,ez⟩:=bx8.lst;rw[w,ez] at y;cases y
    ·exact c_ k7 (S8.free y) w
   have fq0:=fr8 (c_ k11 fqn1 nqn);have f20:=fr8 (c_ k11 fl2 nl2);have fg0:=fr8 fg;generalize hHN:upd (upd (upd H11 l2 (.lst (row.ks.map V.int))) qn (.lst [.int (lv0:Int),.ref l2,.ref gl1,oV row.hi,oV rt])) d (.dK (db kvs (Sum.inl (i:Int)) (.ref qn)))=HN at *;have eN:HN d=some (.dK (db kvs (Sum.inl (i:Int)) (.ref qn))):=by rw[<- hHN,ae]
   have qN:HN qn=some (.lst [.int (lv0:Int),.ref l2,.ref gl1,oV row.hi,oV rt]):=by rw[<- hHN,ak nqd,ae]
   have lN:HN l2=some (.lst (row.ks.map V.int)):=by rw[<- hHN,ak n2d,ak n2q,ae]
   have gN:=up (S11 _ _ eg) ngd
   have kpN:∀b ys',ptN H H7 b=some (.lst ys')->ptN H HN b=some (.lst ys'):=fun b ys' y=>by
    obtain⟨n0,y7,_⟩:=gF y;refine rZ n0 (up (k11.get (S8 _ _ y7) (fun w=>?_)) (cJ y7 (gF m7.d).2.1 nofun));obtain⟨zs,ez⟩:=bx.lst;rw[w,ez] at n0;cases n0
   have mN:=m7.put (h':=ptN H HN) (n:=⟨lv0,row.ks,gs1,row.hi,rt,none,false⟩) kpN (wG fd0 eN) ⟨l2,gl1,rZ fq0 qN,rZ f20 lN,rZ fg0 gN⟩;refine⟨_,_,_,_,_,_,_,_,_,_,rfl,mN,fun x=>?_,fun x nn hx=>?_,?_,fun b o y nb=>?_,fun b o y nb=>?_⟩
   ·rw[gZ,pin];constructor
    ·rintro(⟨j,h1,h2,h3⟩|h)
     ·exact⟨j,by lia,h2,h3⟩
     ·exact⟨i,by lia,h,_,eoi⟩
    ·rintro⟨j,h1,h2,y,h3⟩;rcases lt_or_ge j i with z|z
     ·exact .inl ⟨j,z,h2,y,h3⟩
     ·exact .inr (by rw[h2];lia)
   ·by_cases ex':x=(i:Int)
    ·rw[aH ex'] at hx;cases hx;refine⟨⟨⟨⟨natCast_nonneg _,Cr (ba hl l4)⟩,rks,fun h0=>?_,fun h0=>?_,?_,rfl,rfl⟩,fun r hr'=>?_⟩,fun h0=>?_⟩
     ·have:lv0=0:=by have h0':(lv0:Int)=0:=h0;lia
      exact⟨(gz this).1,fun g hg=>by have:=(gz this).2 g hg;lia⟩
     ·exact(gi fun z=>h0 (show (lv0:Int)=0 by lia)).1
     ·show (row.hi=none/\rt=none)\/_;cases ehi:row.hi with
      | none=>exact .inl ⟨rfl,rn ehi⟩
      | some hx=>
       obtain⟨j,e1',_⟩:=rsome hx ehi;exact .inr ⟨hx,j,rfl,e1',hiK hx ehi⟩
     ·have hr2:=hr';cases ehi:row.hi with
      | none=>rw[rn ehi] at hr2;cases hr2
      | some hx=>
       obtain⟨j,e1',e2'⟩:=rsome hx ehi;rw[e1'] at hr2;exact⟨j,(aw hr2).symm,e2'⟩
     ·rw[ex'];exact(gi fun z=>h0 (show (lv0:Int)=0 by lia)).2
    ·rw[aA ex'] at hx;exact nok x nn hx
   ·exact(bx11.to fun o y=>up y nd.symm).mono (by lia)
   ·exact up (k11.get (S58 _ _ y nb) nb) (ah y fd)
   ·exact up (k11.get (S8 _ _ (k7.get y nb)) nb) (ah y fd0)
 ·rintro σ H7 ⟨ps,f,kvs,o6,o7,o8,o9,o10,o11,o12,rfl,m7,pin,nok,bx7,k57,k7⟩;have eo7:=k57 _ _ e5 nlo;have el7:=k57 _ _ e45 nlb;have sp7:=sp.keep fun b xs y=>k57 _ _ y (fun w=>by obtain⟨zs,ez⟩:=bx5.lst;rw[w,ez] at y;cases y);refine⟨by have:=gX (K:=K) eo7;rwa[olen] at this,?_⟩
  have tpin:some ((((LS.length - 1:Nat):Int)),((0:Nat):Int))∈os:=by
   have h1:LS.length - 1<LS.length:=by lia
   exact isAll (aa h1) (length_pos_iff.mpr (l8 _ (getElem_mem h1)).2)
  walk;refine⟨lb,_,rfl,.inl (SqL.of el7),?_⟩;rw[af,lvs.1];walk;refine⟨sz,fun u fu=>?_⟩;walk;have e0:((LS.length:Nat):Int) - 1=((LS.length - 1:Nat):Int):=by lia
  rw[e0];refine wC (b:=0) eo7 sp7 fu tpin ?_;walk;refine⟨sz,fun tt ftt=>?_⟩;have S9:aQ H7 (upd (upd H7 u (.tup [.int ((LS.length - 1:Nat):Int),.int 0])) tt (.tup [.ref d,.int (pos (((LS.length - 1:Nat):Int),0) os:Nat)])):=(aQ.upd fu).trans (aQ.upd ftt);have pa:=jQ tpin
  refine q tt d _ kvs ps f (ptN H H7) _ ae ⟨m7,uK.trans S9,fun b o y=>(gF y).2.2⟩ (fun b o y=>(gF y).1) (fun x hx=>?_) (fun x nn hx=>⟨⟨(nok x nn hx).1.1,fun r hr'=>?_⟩,fun h0 g hg=>?_⟩) ?_ ((bx7.same S9).mono (by lia)) (fun b o y nb=>S9 _ _ (k7.get y nb))
  ·obtain⟨j,h1,rfl,_⟩:=(pin x).mp hx;exact⟨by lia,by lia⟩
  ·obtain⟨j,h1,y,h2⟩:=(nok x nn hx).1.2 r hr';exact(pin r).mpr ⟨j,(aq.mp h2).1,h1,y,h2⟩
  ·obtain⟨g1,j,h1,y,h2⟩:=(nok x nn hx).2 h0 g hg;exact⟨(pin g).mpr ⟨j,(aq.mp h2).1,h1,y,h2⟩,g1⟩
  ·exact(pin _).mpr ⟨_,(aq.mp pa).1,rfl,_,pa⟩
theorem wE {a}(h:H a=some (.lst xs))(hb:H b=some (.lst []))(q:Q (.bl xs.isEmpty) H):Aj K false (.ref a) (.ref b) H Q:=by
 refine⟨a,b,xs,[],rfl,rfl,SqL.of h,SqL.of hb,fun _ j x y _ e=>(by cases e),?_⟩;cases xs with
 | nil=>exact q
 | cons x xs=>exact q
structure Cont (t:Nat)(lv:Int)(ks gs:List Int):Prop where
 kk:KeysOk ks
 gl:lv=0->gs.length=ks.length/\∀g∈gs,-100<=g/\g<=100+t
 gi:lv≠0->okI ks.length gs
theorem NOk.cont {t:Nat}{n:ND}(o:NOk t n):Cont t n.lv n.ks n.gs:=⟨o.ks,o.gl,o.gi⟩
theorem Cont.mono {t:Nat}(o:Cont t lv ks gs)(h:t<=s):Cont s lv ks gs:=⟨o.kk,fun z=>⟨(o.gl z).1,fun g hg=>by have:=(o.gl z).2 g hg;lia⟩,o.gi⟩
theorem je {l:List Int}:(l.take i++l.drop (i+1)).Sublist l:=by
 conv=>rhs;rw[<- take_append_drop i l]
 refine(List.Sublist.refl _).append ?_;rw[<- List.drop_drop];exact List.drop_sublist _ _
theorem oZ {l:List Int}(h:i<l.length):(l.take i++l.drop (i+1)).length+1=l.length:=by rw[am,bo,bO];lia
theorem KeysOk.sub {l:List Int}(o:KeysOk ks)(s:l.Sublist ks):KeysOk l:=⟨fun i h=>o.r i (s.mem h),o.p.sublist s,bh s.length_le o.l⟩
theorem Cont.cut {t:Nat}(o:Cont t lv ks gs)(h:i<ks.length):Cont t lv (ks.take i++ks.drop (i+1)) (gs.take i++gs.drop (i+1)):=by
 have lk:=oZ h;refine⟨o.kk.sub je,fun z=>?_,fun z=>?_⟩
 ·obtain⟨g1,g2⟩:=o.gl z;have lg:=oZ (l:=gs) (i:=i) (by lia);exact⟨by lia,fun g hg=>g2 g (je.mem hg)⟩
 ·obtain⟨g1,g2,g3⟩:=o.gi z;have lg:=oZ (l:=gs) (i:=i) (by lia);exact⟨by lia,fun g hg=>g2 g (je.mem hg),g3.sublist je⟩
theorem oR {l:List Int}:y∈l.take i++[x]++l.drop i ↔ y∈l\/y=x:=by
 rw[aT,aT,au]
 conv=>rhs;rw[<- take_append_drop i l,aT]
 constructor
 ·rintro((h|h)|h)
  ·exact .inl (.inl h)
  ·exact .inr h
  ·exact .inl (.inr h)
 ·rintro((h|h)|h)
  ·exact .inl (.inl h)
  ·exact .inr h
  ·exact .inl (.inr h)
theorem zK {l:List Int}(nd:l.Nodup)(n:x∉l):(l.take i++[x]++l.drop i).Nodup:=by
 have p:(l.take i++[x]++l.drop i).Perm (x::l):=by
  refine(List.perm_append_comm.append_right _).trans ?_;rw[aO,take_append_drop];exact .refl _
 exact p.nodup_iff.mpr (bJ.mpr ⟨n,nd⟩)
theorem Cont.add {t:Nat}(o:Cont t lv ks gs){m:Int}(hi:i<=ks.length)(hl:ks.length<6)(hx:lh x)(nx:x∉ks)(pn:ns.Perm (ks++[x]))(sn:ns.Pairwise (· <= ·))(hm:m∈gs++[40])(hg:∀g∈gs++[40],g<=m):Cont (t+1) lv ns (gs.take i++[m+1]++gs.drop i):=by
 have nd:=pn.nodup_iff.mpr (bW.mpr ⟨o.kk.p.imp fun h=>Int.ne_of_lt h,by simp,fun a ha b hb e=>nx (by rw[<- au.mp hb,<- e];exact ha)⟩);have ln:ns.length=ks.length+1:=by rw[pn.length_eq,am];rfl
 have lg:(gs.take i++[m+1]++gs.drop i).length=gs.length+1:=by
  rw[am,am,bo,bO];simp
  lia
 have m40:=hg 40 (aU _ (au.mpr rfl));have nm:m+1∉gs:=fun z=>by have:=hg _ (bE _ z);lia
 refine⟨⟨fun y hy=>?_,?_,by lia⟩,fun z=>⟨?_,fun g hg'=>?_⟩,fun z=>⟨?_,fun g hg'=>?_,?_⟩⟩
 ·rcases aT.mp (pn.mem_iff.mp hy) with h|h
  ·exact o.kk.r y h
  ·rw[au.mp h];exact hx
 ·exact(List.pairwise_and_iff.mpr ⟨sn,nd⟩).imp fun⟨a,b⟩=>by lia
 ·rw[lg,ln,(o.gl z).1]
 ·rcases oR.mp hg' with h|h
  ·have:=(o.gl z).2 g h;lia
  ·rw[h];rcases aT.mp hm with h'|h'
   ·have:=(o.gl z).2 m h';lia
   ·rw[au.mp h'];lia
 ·rw[lg,ln,(o.gi z).1]
 ·rcases oR.mp hg' with h|h
  ·exact(o.gi z).2.1 g h
  ·rw[h];lia
 ·exact zK (o.gi z).2.2 nm
def BkG (gs gs':List Int):Prop:=((∀g∈gs',g∈gs)/\gs'.length<=gs.length)\/∃m,m∈gs++[40]/\40<=m/\(∀g∈gs',g∈gs\/g=m+1)/\gs'.length=gs.length+1
theorem rT:∀{l:List Int},(∀(i:Nat) a b,l[i]?=some a->l[i+1]?=some b->a<b)->l.Pairwise (· < ·)
 | [],_=>.nil
 | [x],_=>by simp
 | x::y::l,h=>by
  have ih:=rT (l:=y::l) fun i a b e f=>h (i+1) a b e f;have xy:=h 0 x y rfl rfl;refine pairwise_cons.mpr ⟨fun z hz=>?_,ih⟩;rcases bm.mp hz with rfl|hz
  ·exact xy
  ·exact Int.lt_trans xy ((pairwise_cons.mp ih).1 z hz)
def mvd (st:Int)(k:Nat)(x:Int):Int:=if (if x+st<999999999 - 6+(k:Int) then x+st else 999999999 - 6+(k:Int)) > -999999999+(k:Int) then (if x+st<999999999 - 6+(k:Int) then x+st else 999999999 - 6+(k:Int)) else -999999999+(k:Int)
theorem A6 {st:Int}{k:Nat}(h:k<6):lh (mvd st k x):=by
 unfold mvd;refine⟨?_,?_⟩
 ·split
  ·lia
  ·lia
 ·split
  ·split<;>lia
  ·lia
inductive spBK (vs:List V)(H:Hp)(Q:VK)(E:XK):Prop
 | mk (p qa:Addr)(n:ND)(nb t:Nat)(h:Hp):vs=[.ref p,.ref qa]->Box H p nb->nb<=900000->um h qa n->aQ h H->h p=none->NOk t n->t<=100 ->
   (∀tt kl gl ks gs H',H' tt=some (.tup [.ref kl,.ref gl])->H' kl=some (.lst (ks.map V.int))->H' gl=some (.lst (gs.map V.int))->H tt=none/\H kl=none/\H gl=none->Cont (t+1) n.lv ks gs->BkG n.gs gs->Box H' p (nb+10)->KB p H H'->Q (.ref tt) H')->spBK vs H Q E
theorem A1:Ok F F.r.d__law_bent_keys 2 spBK:=by
 have T:=F.r.T;refine F.r.d__law_bent_keys.go fun sc H Q hr h=>?_;obtain⟨p,qa,n,nb,t,h,rfl,bx,hn,⟨kl0,gl0,i1,i2,i3⟩,s,np,no,t100,q⟩:=h;have hu:=hr.units0;have co:=no.cont;have k6:=co.kk.l
 have g8:n.gs.length<=7:=by
  by_cases z:n.lv=0
  ·have:=(co.gl z).1;lia
  ·have:=(co.gi z).1;lia
 refine⟨_,(ad (yQ (i:=2) (j:=3) rfl sc.nd rfl rfl (by decide) rfl rfl (pa2 (cF cM rfl T.n_list dX (pa1 (pix aS (pv 1) ap))) (cF cM rfl T.n_list dX (pa1 (pix aS (pv 1) ap)))) rfl)
  (ad (cD sc 4 (cc (bS F) hr (pa2 (pv 0) (bN cH (aR bj rfl T.n_len cS (pa1 (pv 2))) ap))))
  (ad (cD sc 5 (cc (bS F) hr (pa2 (pv 0) ap)))
  (ad (bT (PW.pt (fM (pc fJ (pv 5) ap) (d0 (pc qS (pv 4) (aR bj rfl T.n_len cS (pa1 (pv 2)))))))
   (ao (bc (dU (pa2 (bN hV (dj dQ (pv 2) d9 (dJ (pv 4))) (dj dQ (pv 2) (dJ (bN cH (pv 4) ap)) d9)) (bN hV (dj dQ (pv 3) d9 (dJ (pv 4))) (dj dQ (pv 3) (dJ (bN cH (pv 4) ap)) d9))))))
   bd)
  (ad (bT (PW.pt (fM (pc fJ (pv 5) ap) (d0 (pc qS (aR bj rfl T.n_len cS (pa1 (pv 2))) ap))))
   (ad (cD sc 6 (aR (iR rfl) rfl T.n_min nQ (pa2 ap (bN cH (pix aS (bN hV (pv 2) (bw (pa1 ap))) (pv 4)) ap))))
  (ad (bT (pc fJ (cc (bS F) hr (pa2 (pv 0) ap)) ap)
   (ao (cD sc 6 (pix aS (bw (pa2 (ii eX ap) ap)) (cc (bS F) hr (pa2 (pv 0) ap)))))
   bd)
  (ao (bT (dF fQ (pv 6) (pv 2) (by with_unfolding_all rfl))
   (ad (cD sc 2 (aR rA rfl T.n_sorted gQ (pa1 (bN hV (pv 2) (bw (pa1 (pv 6)))))))
  (ao (bc (dU (pa2 (pv 2) (bN hV (bN hV (dj dQ (pv 3) d9 (dJ (pv 4))) (bw (pa1 (bN cH (aR (tZ (hr.hd rfl)) rfl T.n_max ko (pa1 (bN hV (pv 3) (bw (pa1 ap))))) ap)))) (dj dQ (pv 3) (dJ (pv 4)) d9)))))))
   bd))))
   bd)
  (ad (kF (i:=7) sc.nd rfl (Or.inr rfl) (pix aS (bw (pa4 ap (ii eX ap) ap (ii eX ap))) (cc (bS F) hr (pa2 (pv 0) ap))))
  (ad (jn (i:=8) (dE ["_law_step"] [7]) rfl (gm rfl T.n_enumerate dw (pa1 (pv 2))) (fun _ _ _ _ _=>PTs.nil) (fun _ _ _ _ _=>(aR (iS rfl) rfl T.n_max ko (pa2 (bN cH (ii eX ap) (pv 0)) (aR (iR rfl) rfl T.n_min nQ (pa2 (bN cH (bN g_ ap ap) (pv 0)) (bN cH (pv 1) (pv 2))))))) sc.nd rfl rfl)
  (ad (cD sc 9 (eB (y3 hu) (pY (dE [] []) rfl (su rfl F.r.nz qH (pa2 (pv 8) (dj dQ (pv 8) (dJ ap) d9))) (fun _ _ _ _ _=>(PTs.one (pc wQ (pv 0) (pv 1)))) (fun _ _ _ _ _=>(pv 0))) (bw cy) (gw _)))
  (ao (bc (dU (pa2 (dG (cv (pv 9)) (pv 8) (pv 2)) (pv 3))))))))))))),?_⟩
 walk;refine⟨kl0,_,rfl,.inl (SqL.of (s _ _ i2)),fun kl fk=>?_⟩;have nk:=bx.ne fk;generalize hG:upd H kl (.lst (n.ks.map V.int))=H1 at *;have S1:=sG hG fk;have e1:=eG hG;walk;refine cG (S1 _ _ (s _ _ i1)) (v:=.ref gl0) rfl ?_;walk;refine⟨gl0,_,rfl,.inl (SqL.of (S1 _ _ (s _ _ i3))),fun gl fg=>?_⟩;have ng:=(bx.same S1).ne fg;generalize hG:upd H1 gl (.lst (n.gs.map V.int))=H2 at *;have S2:=sG hG fg
 have e12:=S2 _ _ e1;have S02:=S1.trans S2;walk;refine⟨kl,_,rfl,.inl (SqL.of e12),?_⟩;rw[af];walk;refine⟨p,_,_,rfl,(bx.same S02),by lia,by lia,by lia,fun at' H3 a3 b3 bx3 kb3=>?_⟩;obtain⟨a,ea⟩:∃a:Nat,at'=(a:Int):=⟨at'.toNat,by lia⟩;subst ea;have al:a<=n.ks.length:=by lia
 walk;refine⟨p,4,_,rfl,bx3,by lia,by decide,by decide,fun way H4 a4 b4 bx4 kb4=>?_⟩;have k4:KB p H H4:=fun b o y nb'=>kb4.get (kb3.get (S02 _ _ y) nb') nb';have ek:=kb4.get (kb3.get e12 nk) nk;have eg:=kb4.get (kb3.get (eG hG) ng) ng;refine dB (by assumption) ?_;refine ji fun _ _=>?_;refine rS (fun b H'=>(b=true->a<n.ks.length)/\H'=H4) (fun Q' z=>?_) ?_
 ·walk;by_cases w0:way=0
  ·refine ik (bq V.int w0) ?_;walk;refine⟨kl,_,rfl,.inl (SqL.of ek),?_⟩;rw[af];walk;exact z _ _ ⟨fun y=>by have:=bB y;lia,rfl⟩
  ·refine iW (fun y=>w0 (V.int.inj y)) ?_;walk;exact z _ _ ⟨nofun,rfl⟩
 rintro b H4' ⟨hb,rfl⟩;cases b with
 | true=>
  refine gC ?_;walk;refine rX ek (natCast_nonneg _) fun l5 f5=>?_;walk;refine mF (z:=(a:Int)+1) (cm f5 ek) (by lia) fun l6 f6=>?_;generalize hG:upd (upd H4' l5 _) l6 _=H6 at *;have S6:aQ H4' H6:=hG▸(aQ.upd f5).trans (aQ.upd f6);have e5:H6 l5=some (.lst ((n.ks.take a).map V.int)):=by rw[<- hG,cm f6 ae,map_take];rfl
  have e6:H6 l6=some (.lst ((n.ks.drop (a+1)).map V.int)):=by rw[<- hG,ae,map_drop,show toNat ((a:Int)+1)=a+1 by lia]
  refine kz e5 e6 (by rw[af,af,bo,bO];have:=bp;lia) fun l7 f7=>?_;generalize hG:upd H6 l7 _=H7 at *;have S7:=S6.trans (sG hG f7);have e7:H7 l7=some (.lst ((n.ks.take a++n.ks.drop (a+1)).map V.int)):=by rw[<- hG,ae,aW]
  have n7:=(bx4.same S6).ne f7;have eg7:=S7 _ _ eg;walk;refine rX eg7 (natCast_nonneg _) fun l8 f8=>?_;walk;refine mF (z:=(a:Int)+1) (cm f8 eg7) (by lia) fun l9 f9=>?_;generalize hG:upd (upd H7 l8 _) l9 _=H9 at *;have S9:aQ H7 H9:=hG▸(aQ.upd f8).trans (aQ.upd f9);have e8:H9 l8=some (.lst ((n.gs.take a).map V.int)):=by rw[<- hG,cm f9 ae,map_take];rfl
  have e9:H9 l9=some (.lst ((n.gs.drop (a+1)).map V.int)):=by rw[<- hG,ae,map_drop,show toNat ((a:Int)+1)=a+1 by lia]
  refine kz e8 e9 (by rw[af,af,bo,bO];have:=bp;lia) fun l10 f10=>?_;have n10:=(bx4.same (S7.trans S9)).ne f10;generalize hG:upd H9 l10 _=H10 at *;have S10:=sG hG f10;have e10:H10 l10=some (.lst ((n.gs.take a++n.gs.drop (a+1)).map V.int)):=by rw[<- hG,ae,aW]
  walk;refine⟨sz,fun tt ft=>?_⟩;have S11:=(S9.trans S10).trans (aQ.upd (o:=.tup [.ref l7,.ref l10]) ft)
  exact q tt l7 l10 _ _ _ ae (S11 _ _ e7) (cm ft e10) ⟨c_ k4 (S7.free ((S9.trans S10).free ft)) ((bx4.same (S7.trans (S9.trans S10))).ne ft),c_ k4 (S6.free f7) n7,c_ k4 ((S7.trans S9).free f10) n10⟩ ((co.cut (hb rfl)).mono (by lia)) (.inl ⟨fun g hg=>je.mem hg,je.length_le⟩) ((bx4.same (S7.trans S11)).mono (by lia)) fun b o y nb'=>S11 _ _ (S7 _ _ (k4.get y nb'))
 | false=>
  refine fY ?_;refine pI ?_;refine dB (by assumption) ?_;refine eK (fun σ' H'=>∃o6,σ'=[some (.ref p),some (.ref qa),some (.ref kl),some (.ref gl),some (.int (a:Int)),some (.int way),o6,none,none,none]/\H' kl=some (.lst (n.ks.map V.int))/\H' gl=some (.lst (n.gs.map V.int))/\KB p H H'/\Box H' p (nb+4)) (fun N z=>?_) ?_
  ·refine rS (fun b H'=>(b=true->n.ks.length<6)/\H'=H4') (fun Q' z'=>?_) ?_
   ·walk;by_cases w0:way=1
    ·refine ik (bq V.int w0) ?_;walk;refine⟨kl,_,rfl,.inl (SqL.of ek),?_⟩;rw[af];walk;exact z' _ _ ⟨fun y=>by have:=bB y;lia,rfl⟩
    ·refine iW (fun y=>w0 (V.int.inj y)) ?_;walk;exact z' _ _ ⟨nofun,rfl⟩
   rintro b H5 ⟨hb2,rfl⟩;cases b with
   | false=>
    refine fY ?_;walk;exact z _ _ ⟨_,rfl,ek,eg,k4,bx4.mono (by lia)⟩
   | true=>
    have k5:=hb2 rfl;refine gC ?_;walk;refine⟨sz,fun l5 f5=>?_⟩;walk;refine kz (cm f5 ek) ae (by rw[af];have:=bp;simp;lia) fun l6 f6=>?_;generalize hG:upd (upd H5 l5 _) l6 _=H6 at *;have S6:aQ H5 H6:=hG▸(aQ.upd f5).trans (aQ.upd f6);have e6:H6 l6=some (.lst ((n.ks++[0]).map V.int)):=by rw[<- hG,ae,aW];rfl
    have ax:a<(n.ks++[0]).length:=by rw[am];simp;lia
    walk;refine cG e6 (v:=.int (n.ks++[0])[a]) (dN (j:=a) (by rw[aB,aa ax];rfl)) ?_
    have xr:lh (n.ks++[0])[a]:=by
     rcases aT.mp (getElem_mem ax) with y|y
     ·exact co.kk.r _ y
     ·rw[au.mp y];exact⟨by decide,by decide⟩
    generalize (n.ks++[0])[a]=x at *;walk;refine⟨_,_,rfl,?_⟩
    have mr:lh (if x+1<999999999 then x+1 else 999999999):=by
     have:=xr.1;split
     ·exact⟨by lia,by lia⟩
     ·exact⟨by decide,by decide⟩
    generalize (if x+1<999999999 then x+1 else 999999999)=more at *;refine dB (by assumption) ?_;refine eK (fun σ' H'=>∃more,lh more/\σ'=[some (.ref p),some (.ref qa),some (.ref kl),some (.ref gl),some (.int (a:Int)),some (.int way),some (.int more),none,none,none]/\KB p H5 H'/\Box H' p (nb+4)) (fun N2 z2=>?_) ?_
    ·walk;refine⟨p,2,_,rfl,bx4.same S6,by lia,by decide,by decide,fun r7 H7 a7 b7 bx7 kb7=>?_⟩;have k7:KB p H5 H7:=fun b o y nb'=>kb7.get (S6 _ _ y) nb';walk;by_cases r0:r7=0
     ·refine ik (bq V.int r0) ?_;walk;refine⟨sz,fun l8 f8=>?_⟩;walk;refine⟨p,2,_,rfl,bx7.same (aQ.upd f8),by lia,by decide,by decide,fun r9 H9 a9 b9 bx9 kb9=>?_⟩;obtain⟨z1,hz1,ez1⟩:=eE (ns:=[-999999999,999999999]) a9 (by simpa using b9);refine cG (kb9.get ae (bx7.ne f8)) ez1 ?_;walk;have:z1 = -999999999\/z1=999999999:=by simpa using hz1
      exact z2 _ _ ⟨z1,⟨by lia,by lia⟩,rfl,k7.trans ((KB.refl.updN f8).trans kb9),bx9⟩
     ·refine iW (fun y=>r0 (V.int.inj y)) ?_;walk;exact z2 _ _ ⟨more,mr,rfl,k7,bx7.mono (by lia)⟩
    rintro σ7 H7 ⟨more,mr,rfl,k7,bx7⟩;have ek7:=k7.get ek nk;have eg7:=k7.get eg ng;walk;refine lF ek7 ?_;by_cases mk:more∈n.ks
    ·rw[av mk];walk;exact z _ _ ⟨_,rfl,ek7,eg7,k4.trans k7,bx7⟩
    ·rw[aF mk];walk;refine⟨sz,fun l8 f8=>?_⟩;walk;refine kz (cm f8 ek7) ae (by rw[af];have:=bp;simp;lia) fun l9 f9=>?_;generalize hG:upd (upd H7 l8 _) l9 _=H9 at *;have S9:aQ H7 H9:=hG▸(aQ.upd f8).trans (aQ.upd f9);have e9:H9 l9=some (.lst ((n.ks++[more]).map V.int)):=by rw[<- hG,ae,aW];rfl
     walk;refine⟨l9,n.ks++[more],rfl,SqL.of e9,by rw[am];simp;lia,fun ns pn sn l10 f10=>?_⟩;generalize hG:upd H9 l10 _=H10 at *;have S10:=S9.trans (sG hG f10);have e10:=eG hG;have eg10:=S10 _ _ eg7;walk;refine rX eg10 (natCast_nonneg _) fun l11 f11=>?_;walk;refine⟨sz,fun l12 f12=>?_⟩;walk
     refine kz (cm f12 (cm f11 eg10)) ae (by rw[af];have:=bp;simp;lia) fun l13 f13=>?_;generalize hG:upd (upd (upd H10 l11 _) l12 _) l13 _=H13 at *;have S13:aQ H10 H13:=hG▸(aQ.upd f11).trans ((aQ.upd f12).trans (aQ.upd f13));have e13:H13 l13=some (.lst ((n.gs++[40]).map V.int)):=by rw[<- hG,ae,aW];rfl
     have e11:H13 l11=some (.lst ((n.gs.take a).map V.int)):=by rw[<- hG,cm f13 (cm f12 ae),map_take];rfl
     walk;refine⟨l13,n.gs++[40],rfl,SqL.of e13,by simp,fun mx mm mg'=>?_⟩;walk;refine⟨sz,fun l14 f14=>?_⟩;generalize hG:upd H13 l14 _=H14 at *;have S14:=S13.trans (sG hG f14);have e14:=eG hG;have e11':=nG hG f14 e11;walk;refine kz e11' e14 (by rw[af,bo];have:=bp;simp;lia) fun l15 f15=>?_;generalize hG:upd H14 l15 _=H15 at *;have S15:=S14.trans (sG hG f15)
     have e15:H15 l15=some (.lst ((n.gs.take a++[mx+1]).map V.int)):=by rw[<- hG,ae,aW];rfl
     walk;refine mF (S15 _ _ eg10) (natCast_nonneg _) fun l16 f16=>?_;generalize hG:upd H15 l16 _=H16 at *;have e16:H16 l16=some (.lst ((n.gs.drop a).map V.int)):=by rw[<- hG,ae,map_drop];rfl
     have e15':=nG hG f16 e15;have S16:=S15.trans (sG hG f16);refine kz e15' e16 (by rw[af,af,am,bo,bO];have:=bp;simp;lia) fun l17 f17=>?_;have n17:=((bx7.same S10).same S16).ne f17;generalize hG:upd H16 l17 _=H17 at *;have e17:H17 l17=some (.lst ((n.gs.take a++[mx+1]++n.gs.drop a).map V.int)):=by rw[<- hG,ae,<- aW]
     have S17:=S16.trans (sG hG f17);walk;refine⟨sz,fun tt ft=>?_⟩;have S18:=S17.trans (aQ.upd (o:=.tup [.ref l10,.ref l17]) ft)
     exact q tt l10 l17 _ _ _ ae (S18 _ _ e10) (cm ft e17) ⟨c_ (k4.trans k7) (S10.free (S17.free ft)) (((bx7.same S10).same S17).ne ft),c_ (k4.trans k7) (S9.free f10) ((bx7.same S9).ne f10),c_ (k4.trans k7) (S10.free (S16.free f17)) n17⟩ (co.add al k5 mr mk pn sn mm mg') (.inr ⟨mx,mm,mg' 40 (aU _ (au.mpr rfl)),fun g hg=>oR.mp hg,by rw[am,am,bo,bO];simp;lia⟩) (((bx7.same S10).same S18).mono (by lia)) fun b o y nb'=>S18 _ _ (S10 _ _ (k7.get (k4.get y nb') nb'))
  rintro σ5 H5 ⟨o6,rfl,ek5,eg5,k5,bx5⟩;walk;refine⟨sz,fun l6 f6=>?_⟩;have n6:=bx5.ne f6;walk;refine⟨p,4,_,rfl,bx5.same (aQ.upd f6),by lia,by decide,by decide,fun r7 H7 a7 b7 bx7 kb7=>?_⟩;obtain⟨st,hst,est⟩:=eE (ns:=[1,-1,5,-5]) a7 (by simpa using b7);refine cG (kb7.get ae n6) est ?_;have k7:=(KB.refl.updN f6).trans kb7;have ek7:=k7.get ek5 nk;have eg7:=k7.get eg5 ng
  have k07:=k5.trans k7;walk;generalize hmv:n.ks.mapIdx (fun k x=>mvd st k x)=mv;have lmv:mv.length=n.ks.length:=by rw[<- hmv,List.length_mapIdx]
  have mvr:∀x∈mv,lh x:=fun x hx=>by
   rw[<- hmv] at hx;obtain⟨i,hi,e⟩:=bD hx;rw[List.length_mapIdx] at hi;rw[List.getElem_mapIdx] at e;rw[<- e];exact A6 (by lia)
  refine fE (fun J H'=>J=ItE K kl/\H'=H7) (fun R z=>?_) ?_
  ·refine Ai ?_;walk;exact Al ek7 (z _ _ ⟨rfl,rfl⟩)
  rintro J H7' ⟨rfl,rfl⟩;refine fW (J:=ItE K kl) (H1:=H7') n.ks.length (fun R z=>z) (fun D i H8=>aQ H7' H8/\H8 D=some (.lst ((mv.take i).map V.int))) (fun D f=>⟨aQ.upd f,ae⟩) (fun D i H8 fD il ⟨S8,eD⟩=>?_) (fun D H8 fD ⟨S8,eD⟩=>?_)
  ·have ek8:=S8 _ _ ek7;refine⟨kQ ek8 (by rw[af];exact il),fun v H9 y R z=>?_⟩;obtain⟨t9,x9,rfl,ft,ex,rfl⟩:=jb ek8 y;rw[aB,aa il] at ex;cases ex;refine⟨t9,.int i,.int n.ks[i],rfl,SqT.of ae,?_⟩;have emi:mv[i]?=some (mvd st i n.ks[i]):=by rw[<- hmv,List.getElem?_mapIdx,aa il];rfl
   generalize hG:upd H8 t9 _=H9 at *;have eD9:=nG hG ft eD;have S9:=S8.trans (sG hG ft);refine gC ?_;walk;refine⟨_,_,rfl,?_⟩;walk;refine⟨_,_,rfl,?_⟩;refine xU eD9 (by rw[af,bo];have:=bp;lia) (z _ ⟨fun b o y=>?_,?_⟩)
   ·rw[ak (ah y fD)];exact S9 _ _ y
   ·rw[ae,dO emi,aW];rfl
  refine⟨by have:=gX (K:=K) (S8 _ _ ek7);rwa[af] at this,?_⟩;rw[take_of_length_le (by lia)] at eD;have nD:=bx7.ne fD;refine dB (by assumption) ?_;refine ji fun _ _=>?_;refine rR ?_;refine BD ?_;refine fE (fun J H'=>∃lz,J=ItZ K D lz/\H' lz=some (.lst ((mv.drop 1).map V.int))/\aQ H8 H') (fun R z=>?_) ?_
  ·walk;refine mF eD (by decide) fun lz flz=>?_;walk;exact BO (cm flz eD) ae (z _ _ ⟨lz,rfl,by rw[ae,map_drop];rfl,aQ.upd flz⟩)
  rintro J H9 ⟨lz,rfl,ez,S9⟩;have eD9:=S9 _ _ eD
  refine fW (J:=ItZ K D lz) (H1:=H9) (mv.length - 1) (fun R z=>z) (fun D2 i H10=>aQ H9 H10/\∃ls,H10 D2=some (.lst ls)/\ls.length<=i/\(ls=[]->∀(j:Nat) a b,j<i->mv[j]?=some a->mv[j+1]?=some b->a<b)) (fun D2 f=>⟨aQ.upd f,[],ae,aE _,fun _ j a b z=>aY z (not_lt_zero _)⟩) (fun D2 i H10 fD2 il ⟨S10,ls,eD2,ll,hl⟩=>?_) (fun D2 H10 fD2 ⟨S10,ls,eD2,ll,hl⟩=>?_)
  ·have eDx:=S10 _ _ eD9;have ezx:=S10 _ _ ez;have i1:i<mv.length:=by lia
   have i2:i+1<mv.length:=by lia
   refine⟨vS eDx ezx (by rw[af];exact i1) (by rw[af,bO];exact il),fun v H11 y R z=>?_⟩;obtain⟨t11,x1,x2,rfl,ft,ex1,ex2,rfl⟩:=tj eDx ezx y;rw[aB,aa i1] at ex1;rw[aB,List.getElem?_drop,Nat.add_comm,aa i2] at ex2;cases ex1;cases ex2;refine⟨t11,.int mv[i],.int mv[i+1],rfl,SqT.of ae,?_⟩
   generalize hG:upd H10 t11 _=H11 at *;have e11:=nG hG ft eD2;have S11:=S10.trans (sG hG ft);walk;by_cases ge:mv[i+1]<=mv[i]
   ·rw[av (show mv[i] ≥ mv[i+1] from ge)];refine gC ?_;walk;refine xU e11 (by have:=bp;lia) (z _ ⟨fun b o y=>?_,_,ae,?_,fun y=>aY y (by simp)⟩)
    ·rw[ak (ah y fD2)];exact S11 _ _ y
    ·rw[am];simp;lia
   ·rw[aF (show ¬mv[i] ≥ mv[i+1] from ge)];refine fY ?_;refine z _ ⟨S11,ls,e11,by lia,fun l0 j a' b' jl ea eb=>?_⟩;rcases lt_or_ge j i with w|w
    ·exact hl l0 j a' b' w ea eb
    ·have:j=i:=by lia
     subst this;rw[aa i1] at ea;rw[aa i2] at eb;cases ea;cases eb
     lia
  refine⟨qw (S10 _ _ eD9) (S10 _ _ ez) (.inr (by rw[af,bO])),?_⟩;walk;refine⟨sz,fun b0 fb0=>?_⟩;refine wE (cm fb0 eD2) ae ?_;generalize hG:upd H10 b0 (.lst [])=H12 at *;have S11:=S10.trans (sG hG fb0);have Sall:=S8.trans (S9.trans S11);have eDf:=S9.trans S11 _ _ eD;have bx12:=bx7.same Sall;have ek12:=Sall _ _ ek7;have eg12:=Sall _ _ eg7;walk
  cases hls:ls.isEmpty with
  | true=>
   have l0:=List.isEmpty_iff.mp hls;refine gC ?_;walk;refine⟨sz,fun tt ft=>?_⟩;have pm:=rT fun i a' b' ea eb=>hl l0 i a' b' (by have:=(aq.mp eb).1;lia) ea eb
   refine q tt D gl mv n.gs _ ae (cm ft eDf) (cm ft eg12) ⟨c_ k07 (Sall.free ft) (bx12.ne ft),c_ k07 fD nD,S1.free fg⟩ ⟨⟨mvr,pm,by lia⟩,fun y=>?_,fun y=>?_⟩ (.inl ⟨fun g hg=>hg,aE _⟩) ((bx12.same (aQ.upd ft)).mono (by lia)) fun b o y nb'=>cm ft (Sall _ _ (k07.get y nb'))
   ·obtain⟨g1,g2⟩:=co.gl y;exact⟨by lia,fun g hg=>by have:=g2 g hg;lia⟩
   ·rw[lmv];exact co.gi y
  | false=>
   refine fY ?_;walk;exact⟨sz,fun tt ft=>q tt kl gl n.ks n.gs _ ae (cm ft ek12) (cm ft eg12) ⟨c_ k07 (Sall.free ft) (bx12.ne ft),fk,S1.free fg⟩ (co.mono (by lia)) (.inl ⟨fun g hg=>hg,aE _⟩) ((bx12.same (aQ.upd ft)).mono (by lia)) fun b o y nb'=>cm ft (Sall _ _ (k07.get y nb'))⟩
def eOf (x:Int)(gs:List Int):Nat:=(if x∈gs then 1 else 0)+(if (99:Int)∈gs then 1 else 0)
def Gd (t:Nat)(m:Nat)(x lv:Int)(gs:List Int):Prop:=lv≠0->gs.length+1+eOf x gs<=m+t/\∀g∈gs,g<=40+t\/99<=g
theorem xI (h:∀g∈gs',g∈gs):eOf x gs'<=eOf x gs:=by
 unfold eOf
 have h1:(if x∈gs' then 1 else 0)<=(if x∈gs then 1 else 0):=by
  split
  ·next z=>rw[aH (h _ z)];exact aE _
  ·exact zero_le _
 have h2:(if (99:Int)∈gs' then 1 else 0)<=(if (99:Int)∈gs then 1 else 0):=by
  split
  ·next z=>rw[aH (h _ z)];exact aE _
  ·exact zero_le _
 lia
theorem xK (h:∀g∈gs',g∈gs\/g=y)(nx:x≠99):eOf x gs'<=eOf x gs+1:=by
 unfold eOf;by_cases e:y=x
 ·have h2:(if (99:Int)∈gs' then 1 else 0)<=(if (99:Int)∈gs then 1 else 0):=by
   split
   ·next z=>
    rw[aH ((h _ z).resolve_right fun w=>nx (by rw[<- e,<- w]))];exact aE _
   ·exact zero_le _
  have h1:(if x∈gs' then 1 else 0)<=1:=by split<;>lia
  lia
 ·have h1:(if x∈gs' then 1 else 0)<=(if x∈gs then 1 else 0):=by
   split
   ·next z=>rw[aH ((h _ z).resolve_right fun w=>e w.symm)];exact aE _
   ·exact zero_le _
  have h2:(if (99:Int)∈gs' then 1 else 0)<=1:=by split<;>lia
  lia
theorem xJ (h:∀g∈gs',g∈gs\/g=y)(nx:y≠x)(ny:y≠99):eOf x gs'<=eOf x gs:=by
 unfold eOf
 have h1:(if x∈gs' then 1 else 0)<=(if x∈gs then 1 else 0):=by
  split
  ·next z=>rw[aH ((h _ z).resolve_right fun w=>nx w.symm)];exact aE _
  ·exact zero_le _
 have h2:(if (99:Int)∈gs' then 1 else 0)<=(if (99:Int)∈gs then 1 else 0):=by
  split
  ·next z=>rw[aH ((h _ z).resolve_right fun w=>ny w.symm)];exact aE _
  ·exact zero_le _
 lia
theorem Gd.lacks {t:Nat}(g:Gd t ps.length x lv gs)(l:lv≠0)(t3:t<=3)(xp:x∈ps)(nd:ps.Nodup)(n99:(99:Int)∉ps):∃y,(y∈ps\/y=99)/\y∉gs:=by
 refine Classical.byContradiction fun no=>?_;have all:∀y,(y∈ps\/y=99)->y∈gs:=fun y hy=>Classical.byContradiction fun z=>no ⟨y,hy,z⟩;have e2:eOf x gs=2:=by unfold eOf;rw[aH (all x (.inl xp)),aH (all 99 (.inr rfl))]
 have h:=(g l).1
 have:=iO (m:=gs) (bJ.mpr ⟨n99,nd⟩) fun y hy=>by
  rcases bm.mp hy with rfl|hy
  ·exact all _ (.inr rfl)
  ·exact all y (.inl hy)
 rw[bf] at this
 lia
theorem lE {l:List Int}{g:Int}(h:g∈l.set i y):g∈l\/g=y:=by
 rcases List.mem_or_eq_of_mem_set h with z|z
 ·exact .inl z
 ·exact .inr z
theorem mT:∀{l:List Int} {i:Nat} {y:Int},l.Nodup->y∉l->(l.set i y).Nodup
 | [],_,_,_,_=>.nil
 | x::l,0,y,nd,h=>bJ.mpr ⟨fun z=>h (.tail _ z),(bJ.mp nd).2⟩
 | x::l,i+1,y,nd,h=>by
  obtain⟨n1,n2⟩:=bJ.mp nd;refine bJ.mpr ⟨fun z=>?_,mT n2 fun z=>h (.tail _ z)⟩;rcases lE z with w|w
  ·exact n1 w
  ·exact h (by rw[<- w];exact .head _)
inductive spBG (vs:List V)(H:Hp)(Q:VK)(E:XK):Prop
 | mk (p d qa:Addr)(kvs:List (Key×V))(ps:List Int)(f:Int->Option ND)(x:Int)(n:ND)(nb t:Nat)(h:Hp):vs=[.ref p,.ref d,.ref qa]->Box H p nb->nb<=900000->IsM h d kvs ps f->f x=some n->um h qa n->aQ h H->h p=none->NOk t n->t<=3->n.lv≠0->Gd t ps.length x n.lv n.gs->(∀y∈ps,0<=y/\y<45)->ps.length<=60->(∀y∈ps,y<=40+t)->ps.length<=40+t ->
   (∀tt kl gl gs H',H' tt=some (.tup [.ref kl,.ref gl])->H' kl=some (.lst (n.ks.map V.int))->H' gl=some (.lst (gs.map V.int))->H tt=none/\H kl=none/\H gl=none->Cont (t+1) n.lv n.ks gs->Gd (t+1) ps.length x n.lv gs->Box H' p (nb+10)->KB p H H'->Q (.ref tt) H')->spBG vs H Q E
theorem A2:Ok F F.r.d__law_bent_goods 2 spBG:=by
 have T:=F.r.T;refine F.r.d__law_bent_goods.go fun sc H Q hr h=>?_;obtain⟨p,d,qa,kvs,ps,f,x,n,nb,t,h,rfl,bx,hn,m,efx,⟨kl0,gl0,i1,i2,i3⟩,s,np,no,t3,lv,gd,rg,p60,p40,pl40,q⟩:=h;have ok:=no.gi lv;have k6:=no.ks.l;have xp:=m.in efx;have gle:=ok.1
 refine⟨_,(ad (kF (i:=3) sc.nd rfl (Or.inr rfl) (cF cM rfl T.n_list dX (pa1 (pix aS (pv 2) ap))))
  (ad (cD sc 4 (cc (bS F) hr (pa2 (pv 0) (aR bj rfl T.n_len cS (pa1 (pv 3))))))
  (ad (eT (i:=5) (dE ["_law_goods"] [3]) rfl (dm (bN hV (cF (jf (hr.hd rfl)) rfl T.n_list dX (pa1 (pv 1))) (bw (pa2 (aR iT rfl T.n_len cS (pa1 (pv 1))) ap)))) (fun _ _ _ _ _=>(PTs.one (dF (sE (K:=K) rfl) (pv 0) (pv 1) (by with_unfolding_all rfl)))) (fun _ _ _ _ _=>(pv 0)) sc.nd rfl rfl)
  (ad (iF (pix aS (pv 5) (cc (bS F) hr (pa2 (pv 0) (aR bj rfl T.n_len cS (pa1 (pv 5)))))) (pV (pv 3) (pv 4) jC))
  (ao (bc (dU (pa2 (cF cM rfl T.n_list dX (pa1 (pix aS (pv 2) ap))) (pv 3))))))))),?_⟩
 walk;refine⟨gl0,_,rfl,.inl (SqL.of (s _ _ i3)),fun gl fg=>?_⟩;have ng:=bx.ne fg;generalize hG:upd H gl (.lst (n.gs.map V.int))=H1 at *;have S1:=sG hG fg;have e1:=eG hG;walk;refine⟨gl,_,rfl,.inl (SqL.of e1),?_⟩;rw[af];walk;refine⟨p,_,_,rfl,bx.same S1,by lia,by lia,by lia,fun at' H2 a2 b2 bx2 kb2=>?_⟩;obtain⟨a,ea⟩:∃a:Nat,at'=(a:Int):=⟨at'.toNat,by lia⟩;subst ea
 have k2:KB p H H2:=fun b o y nb'=>kb2.get (S1 _ _ y) nb';have eg:=kb2.get e1 ng;have hd2:=(k2.same s np) _ _ m.d;walk;refine fE (fun J H'=>∃lz,J=Itl K lz/\H' lz=some (.lst ((ps++[(ps.length:Int),99]).map V.int))/\aQ H2 H') (fun R z=>?_) ?_
 ·walk;refine⟨d,kvs,ps,rfl,.inl hd2,m.k,fun l3 f3=>?_⟩;walk;refine⟨d,kvs,rfl,cm f3 hd2,?_⟩;rw[m.len];walk;refine⟨sz,fun l4 f4=>?_⟩;refine kz (cm f4 ae) ae (by rw[af];have:=bp;simp;lia) fun l5 f5=>?_;walk;exact z _ _ ⟨l5,rfl,by rw[ae,aW];rfl,(aQ.upd f3).trans ((aQ.upd f4).trans (aQ.upd f5))⟩
 rintro J H3 ⟨lz,rfl,e3,S3⟩;refine jx (J:=Itl K lz) (H1:=H3) ((ps++[(ps.length:Int),99]).map V.int) (fun v=>match v with|.int y=>!decide (y∈n.gs)|_=>false) (fun v=>v) (fun R z=>z) (j_ (tp:=false) e3) ?_ ?_ (by rw[af,am];simp;lia) ?_
 ·intro y hy H4 R S4 r;obtain⟨z,hz,rfl⟩:=bC.mp hy;walk;exact lF (S4 _ _ (S3 _ _ eg)) ⟨_,rfl,r H4 (aQ.refl _)⟩
 ·intro y hy _ H4 R S4 r;exact⟨y,rfl,r H4 (aQ.refl _)⟩
 intro D H4 fD S4 eD
 have eD':H4 D=some (.lst (((ps++[(ps.length:Int),99]).filter fun y=>!decide (y∈n.gs)).map V.int)):=by
  rw[eD,map_id',filter_map];rfl
 generalize hso:(ps++[(ps.length:Int),99]).filter (fun y=>!decide (y∈n.gs))=so at *
 have som:∀y,y∈so->(y∈ps\/y=ps.length\/y=99)/\y∉n.gs:=fun y hy=>by
  rw[<- hso] at hy;obtain⟨h1,h2⟩:=bZ.mp hy;refine⟨?_,fun w=>by rw[av w] at h2;cases h2⟩;rcases aT.mp h1 with h1|h1
  ·exact .inl h1
  ·simp at h1;exact .inr h1
 have sone:so≠[]:=fun w=>by
  obtain⟨y,hy,ny⟩:=gd.lacks lv t3 xp m.nd fun z=>by have:=(rg _ z).2;lia
  have:y∈so:=by
   rw[<- hso];refine bZ.mpr ⟨aT.mpr ?_,by rw[aF ny];rfl⟩;rcases hy with hy|hy
   ·exact .inl hy
   ·exact .inr (by rw[hy];simp)
  rw[w] at this;cases this
 have sol:so.length<=62:=by
  rw[<- hso];refine bh (bF _ _) ?_;rw[am];simp;lia
 have sp:=length_pos_iff.mpr sone;have S24:=S3.trans S4;walk;refine⟨D,_,rfl,.inl (SqL.of eD'),?_⟩;rw[af];walk;refine⟨p,_,_,rfl,(bx2.same S24),by lia,by lia,by lia,fun r5 H5 a5 b5 bx5 kb5=>?_⟩;have nD:D≠p:=fun w=>by obtain⟨zs,ez⟩:=bx2.lst;rw[w,S3 _ _ ez] at fD;cases fD
 obtain⟨y,hy,ey⟩:=eE (ns:=so) a5 (by lia);refine cG (kb5.get eD' nD) ey ?_;have eg5:=kb5.get (S24 _ _ eg) ng;obtain⟨yc,yn⟩:=som y hy;walk;refine pK eg5 (j:=a) ?_ ?_
 ·unfold ixN;rw[aH (by lia),toNat_natCast,aH (by rw[af];lia)]
 have k5:KB p H H5:=fun b o z nb'=>kb5.get (S24 _ _ (k2.get z nb')) nb';generalize hG:upd H5 gl _=H6 at *;have e6:H6 gl=some (.lst ((n.gs.set a y).map V.int)):=by rw[<- hG,ae,List.map_set]
 have k6':KB p H H6:=fun b o z nb'=>by rw[<- hG,ak (ah z fg)];exact k5 _ _ z nb'
 have bx6:Box H6 p (nb+1+1):=hG▸bx5.to fun o z=>by rw[ak ng.symm];exact z
 have s6:=k6'.same s np;walk;refine⟨kl0,_,rfl,.inl (SqL.of (s6 _ _ i2)),fun kl fk=>?_⟩;have nk:=bx6.ne fk;walk;refine⟨sz,fun tt ft=>?_⟩
 have y0:0<=y/\(y<=40+(t+1:Nat)\/99<=y):=by
  rcases yc with w|w|w
  ·have:=rg y w;have:=p40 y w;exact⟨by lia,.inl (by lia)⟩
  ·exact⟨by lia,.inl (by lia)⟩
  ·exact⟨by lia,.inr (by lia)⟩
 have lset:(n.gs.set a y).length=n.gs.length:=length_set
 refine q tt kl gl (n.gs.set a y) _ ae (cm ft ae) (cm ft (cm fk e6)) ⟨c_ (k6'.updN fk) ft ((bx6.same (aQ.upd fk)).ne ft),c_ k6' fk nk,fg⟩ ⟨no.cont.kk,fun z=>aY z lv,fun _=>⟨by rw[lset];exact ok.1,fun g hg=>?_,mT ok.2.2 yn⟩⟩ (fun _=>⟨?_,fun g hg=>?_⟩) (((bx6.same (aQ.upd fk)).same (aQ.upd ft)).mono (by lia)) fun b o z nb'=>cm ft (cm fk (k6' _ _ z nb'))
 ·rcases lE hg with w|w
  ·exact ok.2.1 g w
  ·rw[w];exact y0.1
 ·have:=(gd lv).1;have e1':=xK (x:=x) (fun g hg=>lE hg) (gs:=n.gs) (gs':=n.gs.set a y) (y:=y) (fun w=>by have:=(rg _ xp).2;lia);rw[lset]
  lia
 ·rcases lE hg with w|w
  ·rcases(gd lv).2 g w with w'|w'
   ·exact .inl (by lia)
   ·exact .inr w'
  ·rw[w];exact y0.2
theorem NOk.mono {t:Nat}{n:ND}(o:NOk t n)(h:t<=s):NOk s n:=⟨o.lv,o.ks,fun z=>⟨(o.gl z).1,fun g hg=>by have:=(o.gl z).2 g hg;lia⟩,o.gi,o.ed,o.ho,o.wr⟩
theorem Gd.mono {t k:Nat}(g:Gd t m x lv gs)(h:m+t<=k+s)(h':t<=s):Gd s k x lv gs:=fun z=>⟨by have:=(g z).1;lia,fun y hy=>by
 rcases(g z).2 y hy with w|w
 ·exact .inl (by lia)
 ·exact .inr w⟩
theorem TM.upd {t:Nat}{M':MS}{top p:Int}(T:TM t B a M top ps f)(h:t<=t')(R:M'.R=M.R)(tp:M'.top=M.top)(o:∀q,q≠p->M'.nd q=M.nd q)(e:M'.nd p=some n')(b:M'.b<=B')(kv:KvS a a')(no:NOk t' n'):TM t' B' a' M' top ps (fun x=>if x=p then some n' else f x):=by
 refine⟨tp.trans T.tp,fun q=>by rw[R];exact T.us q,fun q n eq=>?_,by rw[R];exact T.ok,fun q n eq=>?_,T.tin,by rw[R];have:=T.fw;lia,b,by rw[R];exact T.fc,fun q q0 q1=>(kv q).1 (T.vf q q0 (by rw[R] at q1;exact q1)),fun j hj=>(kv _).2 (T.vn j (by rw[R] at hj;exact hj))⟩
 ·by_cases z:q=p
  ·rw[aH z] at eq;rw[z,e];exact eq
  ·rw[aA z] at eq;rw[o q z];exact T.nd q n eq
 ·by_cases z:q=p
  ·rw[aH z] at eq;cases eq;exact no
  ·rw[aA z] at eq;exact(T.nok q n eq).mono h
theorem dZ (cg:Chg h h' H H')(d:Dis h g)(s:aQ g H)(np:h p=none)(bx:Box H p nb):aQ g H'/\Dis h' g/\h' p=none/\Box H' p nb:=by
 obtain⟨xs,e⟩:=bx.lst;exact⟨cg.keep d s,cg.dis d s,cg.out np e,bx.to fun o z=>cg.fr p o z np⟩
theorem zg (s:aQ h H)(S:aQ H H')(f1:H pg=none)(f2:H tk=none)(f3:H tg=none)(e1:H' pg=some (.ins (c.pg.of lv) dx (PgF tk tg)))(e2:H' tk=some (.tup (ks.map V.int)))(e3:H' tg=some (.tup (gs.map V.int))):∃h2,Chg h h2 H H'/\Pg c.pg h2 pg lv ks gs/\aQ h h2:=
 let⟨h2,c2,p2,s2⟩:=Pg.add (Chg.same s S) f1 f2 f3 e1 e2 e3
 ⟨h2,c2,p2,fun b o z=>s2 b o z⟩
def Frm (h g h' g':Hp)(p:Addr)(H H':Hp):Prop:=∀b o,H b=some o->h b=none->g b=none->b≠p->H' b=some o/\h' b=none/\g' b=none
theorem Frm.trans {g1 h2 g2:Hp}(x:Frm h g h1 g1 p H H1)(y:Frm h1 g1 h2 g2 p H1 H2):Frm h g h2 g2 p H H2:=fun b o e a c n=>let⟨e1,a1,c1⟩:=x b o e a c n;y b o e1 a1 c1 n
theorem Frm.kb (k:KB p H H'):Frm h g h g p H H':=fun b o e a c n=>⟨k.get e n,a,c⟩
theorem Frm.chg (k:Chg h h' H H'):Frm h g h' g p H H':=fun b o e a c n=>⟨k.fr b o e a,k.out a e,c⟩
structure Lw (c:Cs)(t B nb:Nat)(H:Hp)(p x d:Addr)(a:TA)(h g:Hp)(M:MS)(top:Int)(kvs:List (Key×V))(ps:List Int)(f:Int->Option ND):Prop where
 tr:IsT c a h x M
 st:aQ h H
 m:Mdl g H d kvs ps f
 dis:Dis h g
 tm:TM t B a M top ps f
 gd:∀y n,f y=some n->Gd t ps.length y n.lv n.gs
 np:h p=none
 gp:g p=none
 bx:Box H p nb
section
variable {t:Nat}{x:Addr}{top:Int}
theorem Lw.kb (L:Lw c t B nb H p x d a h g M top kvs ps f)(k:KB p H H')(bx:Box H' p nb'):Lw c t B nb' H' p x d a h g M top kvs ps f:=⟨L.tr,k.same L.st L.np,⟨L.m.m,k.same L.m.s L.gp,L.m.k⟩,L.dis,L.tm,L.gd,L.np,L.gp,bx⟩
theorem Lw.len (L:Lw c t B nb H p x d a h g M top kvs ps f):ps.length<=35+t:=by
 have h1:=iO (m:=M.R.us) L.m.m.nd fun y hy=>(L.tm.us y).mpr hy;have h2:M.R.us.length<=M.R.places.length:=by unfold RS.places;rw[am,am];lia
 have:=L.tm.fw
 lia
theorem Lw.rg (L:Lw c t B nb H p x d a h g M top kvs ps f)(hy:y∈ps):0<=y/\y<35+t:=by
 have:=L.tm.ok.rg y (by unfold RS.places;exact bE _ (bE _ ((L.tm.us y).mpr hy)));have:=L.tm.fw;exact⟨by lia,by lia⟩
theorem Lw.nd (L:Lw c t B nb H p x d a h g M top kvs ps f)(hy:y∈ps):∃n q,f y=some n/\M.nd y=some n/\NOk t n/\cf kvs (Sum.inl y)=some (.ref q)/\um g q n:=by
 obtain⟨n,q,e1,e2,i⟩:=L.m.m.e y hy;exact⟨n,q,e1,L.tm.nd y n e1,L.tm.nok y n e1,e2,i⟩
theorem Lw.at (L:Lw c t B nb H p x d a h g M top kvs ps f)(y:Int):M.at y=f y:=by
 unfold MS.at
 by_cases hy:y∈ps
 ·obtain⟨n,_,e1,e2,_⟩:=L.nd hy;rw[aH ((L.tm.us y).mpr hy),e2,e1]
 ·rw[aA (fun z=>hy ((L.tm.us y).mp z)),L.m.m.o y hy]
theorem Mdl.put {n:ND}(m:Mdl g H d kvs ps f)(kp:∀b xs,g b=some (.lst xs)->g' b=some (.lst xs))(ed:g' d=some (.dK (db kvs (Sum.inl y) (.ref q))))(i:um g' q n)(s:aQ g' H')(k:∀b o,g' b=some o->(∃xs,o=.lst xs)\/∃k,o=.dK k):Mdl g' H' d (db kvs (Sum.inl y) (.ref q)) (pi ps y) (fun z=>if z=y then some n else f z):=⟨m.m.put kp ed i,s,k⟩
theorem Mdl.add {n:ND}(m:Mdl g H d kvs ps f)(dis:Dis h g)(hq:h q=none)(hk:h kl=none)(hg:h gl=none)(e1:H q=some (.lst [.int n.lv,.ref kl,.ref gl,oV n.hi,oV n.rt]))(e2:H kl=some (.lst (n.ks.map V.int)))(e3:H gl=some (.lst (n.gs.map V.int)))(gp:g p=none)(np:q≠p/\kl≠p/\gl≠p) :
  ∃g',Mdl g' (upd H d (.dK (db kvs (Sum.inl y) (.ref q)))) d (db kvs (Sum.inl y) (.ref q)) (pi ps y) (fun z=>if z=y then some n else f z)/\Dis h g'/\g' p=none/\∀b,g b=none->b≠q->b≠kl->b≠gl->g' b=none:=by
 have dl:∀{b:Addr} {xs:List V},H b=some (.lst xs)->b≠d:=fun {b xs} z=>cJ z (m.s _ _ m.m.d) nofun
 have dp:d≠p:=fun z=>by rw[z] at m;rw[m.m.d] at gp;cases gp
 refine⟨fun b=>if b=d then some (.dK (db kvs (Sum.inl y) (.ref q))) else if b=q\/b=kl\/b=gl then H b else g b,?_,fun b=>?_,?_,fun b z z1 z2 z3=>?_⟩
 ·have in3:∀{b:Addr} {xs:List V},(b=q\/b=kl\/b=gl)->H b=some (.lst xs)->(if b=d then some (.dK (db kvs (Sum.inl y) (.ref q))) else if b=q\/b=kl\/b=gl then H b else g b)=some (.lst xs):=fun {b xs} z e=>by rw[aA (dl e),aH z];exact e
  refine Mdl.put m (fun b xs e=>?_) (aH rfl) ⟨kl,gl,in3 (.inl rfl) e1,in3 (.inr (.inl rfl)) e2,in3 (.inr (.inr rfl)) e3⟩ (fun b o e=>?_) (fun b o e=>?_)
  ·have eH:=m.s _ _ e;rw[aA (dl eH)];split
   ·exact eH
   ·exact e
  ·by_cases z:b=d
   ·rw[aH z] at e;rw[z,ae];exact e
   ·rw[aA z] at e;rw[ak z];split at e
    ·exact e
    ·exact m.s _ _ e
  ·by_cases z:b=d
   ·rw[aH z] at e;cases e;exact .inr ⟨_,rfl⟩
   ·rw[aA z] at e;split at e
    ·next w=>
     rcases w with rfl|rfl|rfl
     ·rw[e1] at e;cases e;exact .inl ⟨_,rfl⟩
     ·rw[e2] at e;cases e;exact .inl ⟨_,rfl⟩
     ·rw[e3] at e;cases e;exact .inl ⟨_,rfl⟩
    ·exact m.k b o e
 ·by_cases z:b=d
  ·rw[z];exact .inl (dis.of_none m.m.d)
  ·by_cases w:b=q\/b=kl\/b=gl
   ·rcases w with rfl|rfl|rfl
    ·exact .inl hq
    ·exact .inl hk
    ·exact .inl hg
   ·rcases dis b with u|u
    ·exact .inl u
    ·right;show (if b=d then _ else if b=q\/b=kl\/b=gl then H b else g b)=none;rw[aA z,aA w];exact u
 ·show (if p=d then _ else if p=q\/p=kl\/p=gl then H p else g p)=none;rw[aA dp.symm,aA (fun w=>by rcases w with w|w|w;exact np.1 w.symm;exact np.2.1 w.symm;exact np.2.2 w.symm)];exact gp
 ·show (if b=d then _ else if b=q\/b=kl\/b=gl then H b else g b)=none;rw[aA (fun w=>by rw[w,m.m.d] at z;cases z),aA (fun w=>by rcases w with w|w|w;exact z1 w;exact z2 w;exact z3 w)];exact z
theorem jK {k j:Key}:∀{kvs:List (Key×V)},cf (gh kvs k) j=if j=k then none else cf kvs j
 | []=>by
  show none=if j=k then none else none;split<;>rfl
 | x::xs=>by
  by_cases e:x.1=k
  ·rw[nB e,jK];split
   ·rfl
   ·next h=>rw[cV (fun z=>h (by rw[<- e];exact z.symm))]
  ·rw[nE e];by_cases e2:x.1=j
   ·rw[aA (fun z=>e (by rw[e2,z]))];obtain⟨k1,v1⟩:=x;cases e2;rw[cX rfl,cX rfl]
   ·rw[cV e2,cV e2];exact jK
theorem Mdl.pop (m:Mdl g H d kvs ps f):Mdl (L2.upd g d (.dK (gh kvs (Sum.inl y)))) (L2.upd H d (.dK (gh kvs (Sum.inl y)))) d (gh kvs (Sum.inl y)) (ps.filter fun z=>decide (z≠y)) (fun z=>if z=y then none else f z):=by
 have kp:∀{b:Addr} {xs:List V},g b=some (.lst xs)->L2.upd g d (.dK (gh kvs (Sum.inl y))) b=some (.lst xs):=fun {b xs} e=>by rw[ak (cJ e m.m.d nofun)];exact e
 refine⟨⟨ae,?_,m.m.nd.filter _,fun z hz=>?_,fun z hz=>?_⟩,pH m.s _ _,fun b o e=>?_⟩
 ·have hk:=m.m.k;clear m kp
  induction kvs generalizing ps with
  | nil=>cases ps with|nil=>rfl|cons=>cases hk
  | cons x xs ih=>
   cases ps with
   | nil=>cases hk
   | cons z zs=>
    obtain⟨h1,h2⟩:=List.cons.inj hk;have h1:x.1=Sum.inl z:=h1;by_cases e:z=y
    ·rw[nB (show x.1=Sum.inl y by rw[h1,e]),filter_cons_of_neg (by simp[e])];exact ih h2
    ·rw[nE (show ¬x.1=Sum.inl y by rw[h1];exact fun w=>e (Sum.inl.inj w)),filter_cons_of_pos (by simpa using e),bH,bH,ih h2,h1]
 ·obtain⟨z1,z2⟩:=bZ.mp hz;have ne:=bB z2;obtain⟨n,q,e1,e2,i⟩:=m.m.e z z1;exact⟨n,q,by rw[aA ne];exact e1,by rw[jK,aA (fun w=>ne (Sum.inl.inj w))];exact e2,i.keep fun b xs e=>kp e⟩
 ·by_cases e:z=y
  ·exact aH e
  ·rw[aA e];exact m.m.o z fun w=>hz (bZ.mpr ⟨w,av e⟩)
 ·by_cases z:b=d
  ·rw[z,ae] at e;cases e;exact .inr ⟨_,rfl⟩
  ·rw[ak z] at e;exact m.k b o e
theorem TM.made {n:ND}(T:TM t B a M top ps f)(gv:xQ M.R y)(ht:t+1<=t')(hB:B+2<=B')(no:NOk t' n)(v1:∀q,(∃i:Int,cf a.kv (Sum.inl q)=some (.int i))\/q=y->∃i:Int,cf a'.kv (Sum.inl q)=some (.int i))(v2:∀q,q≠y->cf a.kv (Sum.inl q)=none->cf a'.kv (Sum.inl q)=none) :
  y∉ps/\0<=y/\TM t' B' a' { (M.put y n) with b:=M.b+2,R:=M.R.take y } top (pi ps y) (fun z=>if z=y then some n else f z):=by
 have mp:∀{z:Int},z∈M.R.us->z∈M.R.places:=fun {z} h=>by unfold RS.places;exact bE _ (bE _ h)
 have mf:∀{z:Int},z∈M.R.fs->z∈M.R.places:=fun {z} h=>by unfold RS.places;exact aU _ h
 have key:y∉M.R.us/\0<=y/\(M.R.take y).Ok/\(M.R.take y).places.length<=M.R.places.length+1/\M.R.places.length<=(M.R.take y).places.length/\y<((M.R.take y).places.length:Nat)/\(∀q:Int,q≠y->q<((M.R.take y).places.length:Nat)->q<(M.R.places.length:Nat)):=by
  rcases gv with⟨f0,rfl⟩|⟨hy,_⟩
  ·have len:(M.R.take (M.R.places.length:Nat)).places.length=M.R.places.length+1:=by
    unfold RS.places RS.take;dsimp only;rw[f0,filter_nil];simp
    lia
   refine⟨fun z=>by have:=(T.ok.rg _ (mp z)).2;lia,natCast_nonneg _,T.ok.new f0,by lia,by lia,by lia,fun q h1 h2=>by lia⟩
  ·have r:=T.ok.rg y (mf hy);have fo:=(eC T.ok.fsn hy).length_eq;rw[bf] at fo
   have len:(M.R.take y).places.length=M.R.places.length:=by
    unfold RS.places RS.take;dsimp only;simp only[am,bf,xR]
    lia
   exact⟨fun z=>T.ok.uf z hy,r.1,T.ok.take hy,by lia,by lia,by lia,fun q _ h2=>by lia⟩
 obtain⟨k1,k2,k3,k4,k5,k6,k7⟩:=key;refine⟨fun z=>k1 ((T.us y).mpr z),k2,⟨T.tp,fun q=>?_,fun q m e=>?_,k3,fun q m e=>?_,gZ.mpr (.inl T.tin),?_,?_,T.fc,fun q q0 q1=>?_,fun j hj=>?_⟩⟩
 ·show q∈M.R.us++[y] ↔ _;rw[aT,au,gZ,T.us]
 ·show (if q=y then some n else M.nd q)=some m;by_cases z:q=y
  ·rw[aH z] at e ⊢;exact e
  ·rw[aA z] at e ⊢;exact T.nd q m e
 ·by_cases z:q=y
  ·rw[aH z] at e;cases e;exact no
  ·rw[aA z] at e;exact(T.nok q m e).mono (by lia)
 ·have:=T.fw;show (M.R.take y).places.length<=_;lia
 ·have:=T.fb;show M.b+2<=_;lia
 ·by_cases z:q=y
  ·exact v1 q (.inr z)
  ·exact v1 q (.inl (T.vf q q0 (k7 q z q1)))
 ·have hj':(M.R.take y).places.length<=j:=hj;exact v2 _ (fun z=>by lia) (T.vn j (by lia))
theorem TM.gone {M':MS}(T:TM t B a M top ps f)(hy:y∈ps)(ny:y≠top)(ht:t<=t')(R:M'.R=(M.R.gone y).rel)(tp:M'.top=M.top)(o:∀q,q≠y->M'.nd q=M.nd q)(b:M'.b<=B')(kv:KvS a a'):TM t' B' a' M' top (ps.filter fun z=>decide (z≠y)) (fun z=>if z=y then none else f z):=by
 have hu:=(T.us y).mpr hy;have ok1:=T.ok.gone hu;have pl:=((M.R.gone y).rel_perm.length_eq).trans (RS.gone_perm T.ok hu).length_eq
 refine⟨tp.trans T.tp,fun q=>?_,fun q n e=>?_,by rw[R];exact ok1.rel,fun q n e=>?_,bZ.mpr ⟨T.tin,av ny.symm⟩,by rw[R,pl];have:=T.fw;lia,b,by rw[R];exact T.fc,fun q q0 q1=>(kv q).1 (T.vf q q0 (by rw[R,pl] at q1;exact q1)),fun j hj=>(kv _).2 (T.vn j (by rw[R,pl] at hj;exact hj))⟩
 ·rw[R];show q∈M.R.us.filter _ ↔ _;rw[bZ,bZ,T.us]
 ·by_cases z:q=y
  ·rw[aH z] at e;cases e
  ·rw[aA z] at e;rw[o q z];exact T.nd q n e
 ·by_cases z:q=y
  ·rw[aH z] at e;cases e
  ·rw[aA z] at e;exact(T.nok q n e).mono ht
theorem TM.lead (T:TM t B a M top ps f)(hy:y∈ps)(ht:t<=t'):TM t' B a { M with top:=some y } y ps f:=⟨rfl,T.us,T.nd,T.ok,fun q n e=>(T.nok q n e).mono ht,hy,by have:=T.fw;show M.R.places.length<=_;lia,T.fb,T.fc,T.vf,T.vn⟩
end
def Ab (c:Cs)(t B nb:Nat)(p x d:Addr)(h g H:Hp)(Q:VK):Prop:=∀a' h' g' M' top' kvs' ps' f' H',Lw c (t+1) (B+10) (nb+40) H' p x d a' h' g' M' top' kvs' ps' f'->Frm h g h' g' p H H'->Q (.int top') H'
inductive spOT (c:Cs)(vs:List V)(H:Hp)(Q:VK)(E:XK):Prop
 | mk (t B nb:Nat)(p x d:Addr)(a:TA)(h g:Hp)(M:MS)(top:Int)(kvs:List (Key×V))(ps:List Int)(f:Int->Option ND)(y:Int):vs=[.ref p,.ref x,.ref d,.int top,.int y]->Lw c t B nb H p x d a h g M top kvs ps f->t<=3->B<=300->nb<=800000->y∈ps->y≠top->Ab c t B nb p x d h g H Q->spOT c vs H Q E
theorem AZ:Ok F F.r.d__law_other_top 10 (spOT c):=by
 have C_Tree:=F.cT;obtain⟨fI,fdI,XInner⟩:=F.IX;have GInner:=lQ F XInner;refine F.r.d__law_other_top.go fun sc H Q hr h=>?_;obtain⟨t,B,nb,p,x,d,a,h,g,M,top,kvs,ps,f,y,rfl,L,t3,B3,hn,hy,ny,q⟩:=h;have lps:=L.len
 refine⟨_,(ad (cD sc 5 (cc (bS F) hr (pa2 (pv 0) ap)))
  (ad (bT (pc fJ (pv 5) ap)
   (ad (cD sc 6 (dj dQ (aR (gY (hr.hd rfl)) rfl F.r.T.n_sorted gQ (pa1 (pv 2))) d9 (dJ ap)))
  (ad (cD sc 4 (e_ (pv 1) C_Tree (jW F) hr (pa4 ap (d_ XInner.mak GInner (hr.mono (by decide)) rfl XInner.m XInner.bi .nil fH (pa2 (bw cy) (cF cM rfl F.r.T.n_list dX (pa1 (pv 6))))) bV bV)))
  (ao (dH (dt hr) (pv 2) (pv 4) (bw (pa5 ap (bw cy) (pv 6) bV bV)) rfl))))
   bd)
  (ad (bT (pc qS (pv 5) ap)
   (ad (a_ (e_ (pv 1) C_Tree (sK F) hr (pa2 (pv 3) (pv 4))))
  (ao (bc (pv 4))))
   bd)
  (ad (a_ (e_ (pv 1) C_Tree (jX F) hr (pa2 (pv 4) ap)))
  (ad (a_ (e_ (pv 1) C_Tree (xb F) hr (pa2 (pv 4) ap)))
  (ad (a_ (iG (pv 2) (pv 4) ⟨rfl,rfl,rfl,rfl⟩))
  (ao (bc (pv 3))))))))),?_⟩
 walk;refine⟨p,4,_,rfl,L.bx,by lia,by decide,by decide,fun srt H1 a1 b1 bx1 kb1=>?_⟩;have L1:=L.kb kb1 bx1;have F1:Frm h g h g p H H1:=.kb kb1;refine dB (by assumption) ?_
 refine eK (fun σ' H'=>(∃a' h' g' M' kvs' ps' f' y',σ'=[some (.ref p),some (.ref x),some (.ref d),some (.int top),some (.int y'),some (.int srt),none]/\srt≠0/\Lw c t B (nb+1) H' p x d a' h' g' M' top kvs' ps' f'/\y'∈ps'/\y'≠top/\Frm h g h' g' p H H')\/∃a' h' g' M' kvs' ps' f' y' o6,σ'=[some (.ref p),some (.ref x),some (.ref d),some (.int top),some (.int y'),some (.int srt),o6]/\srt=0/\Lw c (t+1) (B+2) (nb+1) H' p x d a' h' g' M' top kvs' ps' f'/\y'∈ps'/\Frm h g h' g' p H H') (fun N z=>?_) ?_
 ·walk;by_cases s0:srt=0
  ·refine ik (bq V.int s0) ?_;walk;refine⟨d,kvs,ps,rfl,.inl (L1.m.s _ _ L1.m.m.d),L1.m.m.k,by lia,fun ns pm so l2 f2=>?_⟩;generalize hG:upd H1 l2 (.lst (ns.map V.int))=H2 at *;have S2:=sG hG f2;have e2:=eG hG
   obtain⟨m0,ns0,ens⟩:∃m0 ns0,ns=m0::ns0:=by
    cases ns with
    | nil=>have:=pm.length_eq;cases ps with|nil=>cases hy|cons=>cases this
    | cons m0 ns0=>exact⟨m0,ns0,rfl⟩
   have m0p:=pm.mem_iff.mp (by rw[ens];exact .head _);walk;refine rX e2 (by decide) fun l3 f3=>?_;have f30:=S2.free f3;generalize hG:upd H2 l3 _=H3 at *;have S3:=S2.trans (sG hG f3);have e3:H3 l3=some (.lst ([m0].map V.int)):=by rw[<- hG,ae,ens];rfl
   have hx3:=S3 _ _ (L1.st _ _ L1.tr.x);walk;refine⟨sz,fun l4 f4=>?_⟩;walk;refine⟨l3,_,rfl,.inl (SqL.of (cm f4 e3)),fun l5 f5=>?_⟩;have e35:=cm (o:=.lst ([m0].map V.int)) f5 (cm (o:=.lst []) f4 e3);generalize hG:upd (upd H3 l4 _) l5 _=H5 at *;have S5:aQ H1 H5:=hG▸S3.trans ((aQ.upd f4).trans (aQ.upd f5));have e4:H5 l4=some (.lst ([].map V.int)):=hG▸cm f5 ae
   have e5:H5 l5=some (.lst ([m0].map V.int)):=hG▸ae;walk;have m00:=(L.rg m0p).1;refine xl e4 e5 ⟨nofun,.nil,by decide⟩ ⟨rfl,fun i hi=>by rw[au.mp hi];exact m00,by simp⟩ fun pg dx tk tg H6 fp ftk ftg q1 q2 q3 S56=>?_;have st6:=L1.st.trans (S5.trans S56);obtain⟨h2,c2,pg2,sh2⟩:=zg (c:=c) (lv:=60) (L1.st.trans S5) S56 fp ftk ftg q1 q2 q3;walk;have T1:=L1.tm;have plw:=T1.fw
   refine⟨a,h2,x,M,60,pg,[],[m0],none,none,rfl,L1.tr.same sh2,c2.sm,T1.ok,by lia,by have:=T1.fb;lia,fun z hz=>?_,T1.vn _ (by lia),by decide,by decide,pg2,.inl ⟨rfl,rfl⟩,fun y' a' h' H7 gv t7 v1 v2 c7=>?_⟩
   ·have:=T1.ok.rg z (by unfold RS.places;exact aU _ hz);exact T1.vf z this.1 this.2
   have c57:=c2.trans c7;obtain⟨sg7,dis7,np7,bx7⟩:=dZ c57 L1.dis (L1.m.s.trans S5) L1.np (L1.bx.same S5);have fl3:=L1.st.free f30;have h3:=c57.out fl3 e35
   have nob:NOk (t+1) ⟨60,[],[m0],none,none,none,false⟩:=⟨⟨by show (0:Int)<=60;decide,by show (60:Int)<=60;decide⟩,⟨nofun,.nil,by show (0:Nat)<=6;decide⟩,(fun z=>by cases z),fun _=>⟨rfl,fun i hi=>by rw[au.mp hi];exact m00,by simp⟩,.inl ⟨rfl,rfl⟩,rfl,rfl⟩;obtain⟨yn,y0,tmN⟩:=T1.made (t':=t+1) (B':=B+2) gv (by lia) (by lia) nob v1 v2;have hx7:=c7.sm _ _ t7.x;walk;refine⟨sz,fun l8 f8=>?_⟩
   walk;refine⟨sz,fun qn f9=>?_⟩;have f90:=(aQ.upd (o:=.lst []) f8).free f9;generalize hG:upd (upd H7 l8 _) qn _=H9 at *;have S9:aQ H7 H9:=hG▸(aQ.upd f8).trans (aQ.upd f9);have eq9:H9 qn=some (.lst [.int 60,.ref l8,.ref l3,.non,.non]):=hG▸ae;have e89:H9 l8=some (.lst []):=hG▸cm f9 ae;have n8:=bx7.ne f8;have n9:=bx7.ne f90
   have n3:l3≠p:=fun w=>by obtain⟨zs,ez⟩:=bx1.lst;rw[w,ez] at f30;cases f30
   walk;refine eF (k:=Sum.inl y') (S9 _ _ (sg7 _ _ L1.m.m.d)) (by rw[L1.m.m.len];have:=bp;lia) ?_;obtain⟨g',mN,disN,gpN,gout⟩:=Mdl.add (p:=p) (y:=y') (n:=⟨60,[],[m0],none,none,none,false⟩) (⟨L1.m.m,sg7.trans S9,L1.m.k⟩:Mdl g H9 d kvs ps f) dis7 (c7.sm.free f90) (c7.sm.free f8) h3 eq9 e89 (S9 _ _ (c57.fr _ _ e35 fl3)) L1.gp ⟨n9,n8,n3⟩;walk
   have ndp:d≠p:=fun w=>by have:=L1.m.m.d;rw[w,L1.gp] at this;cases this
   refine z _ _ (.inr ⟨a',h',g',_,_,_,_,y',_,rfl,s0,⟨t7,?_,mN,disN,tmN,fun z n ez=>?_,np7,gpN,?_⟩,gZ.mpr (.inr rfl),fun b o eb hb gb nb'=>?_⟩)
   ·intro b o eb;rw[ak (fun w=>by rw[w,dis7.of_none L1.m.m.d] at eb;cases eb)];exact S9 _ _ (c7.sm _ _ eb)
   ·have lN:(pi ps y').length=ps.length+1:=by unfold pi;rw[aA yn,am];rfl
    rw[lN];by_cases ey:z=y'
    ·rw[aH ey] at ez;cases ez;rw[ey]
     have e0:eOf y' [m0]=0:=by
      unfold eOf;rw[aA (fun w=>yn (by rw[au.mp w];exact m0p)),aA (fun w=>by have:=au.mp w;have:=(L.rg m0p).2;lia)]
     refine fun _=>⟨?_,fun g' hg=>.inl ?_⟩
     ·rw[e0];have:0<ps.length:=List.length_pos_of_mem hy;simp
      lia
     ·have:=(L.rg m0p).2;rw[au.mp hg];lia
    ·rw[aA ey] at ez;exact(L1.gd z n ez).mono (by lia) (by lia)
   ·exact(bx7.same S9).to fun o eb=>by rw[ak ndp.symm];exact eb
   ·obtain⟨eb1,_⟩:=F1 b o eb hb gb nb';have eb5:=S5 _ _ eb1;have eb7:=c57.fr b o eb5 hb;refine⟨?_,c57.out hb eb5,gout b gb ?_ ?_ ?_⟩
    ·rw[ak (fun w=>by rw[w,L1.m.m.d] at gb;cases gb)];exact S9 _ _ eb7
    ·exact ah eb7 f90
    ·exact ah eb7 f8
    ·exact ah eb1 f30
  ·refine iW (fun w=>s0 (V.int.inj w)) ?_;walk;exact z _ _ (.inl ⟨a,h,g,M,kvs,ps,f,y,rfl,s0,L1,hy,ny,F1⟩)
 rintro σ2 H2 (⟨a2,h2,g2,M2,kvs2,ps2,f2,y2,rfl,s0,Lz,hy2,ny2,F2⟩|⟨a2,h2,g2,M2,kvs2,ps2,f2,y2,o6,rfl,s0,Lz,hy2,F2⟩)
 ·have hx2:=Lz.st _ _ Lz.tr.x;walk;by_cases s1:srt<2
  ·refine ik s1 ?_;walk;refine⟨a2,h2,x,M2,top,y2,top,rfl,Lz.tr,Lz.st,Lz.tm.ok,(Lz.tm.us _).mpr Lz.tm.tin,(Lz.tm.us _).mpr hy2,Lz.tm.tp,fun w=>aY rfl w,fun _ h3 H3 t3' c3=>?_⟩;obtain⟨sg3,dis3,np3,bx3⟩:=dZ c3 Lz.dis Lz.m.s Lz.np Lz.bx;walk
   exact q _ _ _ _ _ _ _ _ _ ⟨t3',c3.sm,⟨Lz.m.m,sg3,Lz.m.k⟩,dis3,⟨(Lz.tm.lead hy2 (le_succ t)).tp,(Lz.tm.lead hy2 (le_succ t)).us,(Lz.tm.lead hy2 (le_succ t)).nd,Lz.tm.ok,(Lz.tm.lead hy2 (le_succ t)).nok,hy2,(Lz.tm.lead hy2 (le_succ t)).fw,by have:=Lz.tm.fb;show M2.b<=_;lia,Lz.tm.fc,Lz.tm.vf,Lz.tm.vn⟩,fun z n ez=>(Lz.gd z n ez).mono (by lia) (by lia),np3,Lz.gp,bx3.mono (by lia)⟩ (F2.trans (.chg c3))
  ·refine iW s1 ?_;obtain⟨n,qa,e1,e2,no,e3,i3⟩:=Lz.nd hy2;have yu:=(Lz.tm.us _).mpr hy2;walk;refine⟨a2,h2,x,M2,y2,n,3,rfl,Lz.tr,Lz.st,Lz.tm.ok,e2,yu,by have:=Lz.tm.fb;lia,by decide,by decide,no.ho,fun a3 h3 H3 kv3 t3' c3=>?_⟩;obtain⟨sg3,dis3,np3,bx3⟩:=dZ c3 Lz.dis Lz.m.s Lz.np Lz.bx;have hx3:=c3.sm _ _ t3'.x
   have nd3:(M2.put y2 { n with ho:=some 3,wr:=false }).nd y2=some { n with ho:=some 3,wr:=false }:=aH rfl;walk;refine⟨a3,h3,x,_,y2,_,3,rfl,t3',c3.sm,Lz.tm.ok,nd3,yu,by have:=Lz.tm.fb;show M2.b+1<=_;lia,by decide,by decide,rfl,by have:=Lz.tm.fc;show M2.R.cs.length<=_;lia,by have:=Lz.tm.fw;show M2.R.places.length<=_;lia,⟨top,Lz.tm.tp,ny2⟩,fun a4 h4 H4 kv4 t4 c4=>?_⟩
   obtain⟨sg4,dis4,np4,bx4⟩:=dZ c4 dis3 sg3 np3 bx3;have hd4:=sg4 _ _ Lz.m.m.d;have ndp:d≠p:=fun w=>by have:=Lz.m.m.d;rw[w,Lz.gp] at this;cases this
   have fd4:=dis4.of_none Lz.m.m.d;walk;refine⟨.ref d,rfl,d,rfl,.inl ⟨_,.inl hd4⟩,_,rfl,_,.inl y2,_,hd4,rfl,e3,?_⟩;walk;have mN:=(⟨Lz.m.m,sg4,Lz.m.k⟩:Mdl g2 H4 d kvs2 ps2 f2).pop (y:=y2)
   have lf:(ps2.filter fun z=>decide (z≠y2)).length+1=ps2.length:=by
    have:=(eC Lz.m.m.nd hy2).length_eq
    rwa[bf] at this
   refine q a4 h4 _ _ top _ _ _ _ ⟨t4,?_,mN,?_,Lz.tm.gone (t':=t+1) (B':=B+10) hy2 ny2 (le_succ t) rfl rfl (fun z hz=>?_) (by have:=Lz.tm.fb;show M2.b+1+2<=_;lia) (kv3.trans kv4),fun z n' ez=>?_,np4,?_,?_⟩ ((F2.trans (.chg c3)).trans ((Frm.chg c4).trans fun b o eb hb gb nb'=>⟨?_,hb,?_⟩))
   ·intro b o eb;rw[ak (fun w=>by rw[w,fd4] at eb;cases eb)];exact c4.sm _ _ eb
   ·intro b;by_cases w:b=d
    ·exact .inl (by rw[w];exact fd4)
    ·rw[ak w];exact dis4 b
   ·show (if z=y2 then _ else if z=y2 then _ else M2.nd z)=M2.nd z;rw[aA hz,aA hz]
   ·by_cases w:z=y2
    ·rw[aH w] at ez;cases ez
    ·rw[aA w] at ez;exact(Lz.gd z n' ez).mono (by lia) (by lia)
   ·rw[ak ndp.symm];exact Lz.gp
   ·exact(bx4.to fun o eb=>by rw[ak ndp.symm];exact eb).mono (by lia)
   ·rw[ak (fun w=>by rw[w,Lz.m.m.d] at gb;cases gb)];exact eb
   ·rw[ak (fun w=>by rw[w,Lz.m.m.d] at gb;cases gb)];exact gb
 ·have hx2:=Lz.st _ _ Lz.tr.x;walk;refine ik (by lia) ?_;walk;refine⟨a2,h2,x,M2,top,y2,top,rfl,Lz.tr,Lz.st,Lz.tm.ok,(Lz.tm.us _).mpr Lz.tm.tin,(Lz.tm.us _).mpr hy2,Lz.tm.tp,fun w=>aY rfl w,fun _ h3 H3 t3' c3=>?_⟩;obtain⟨sg3,dis3,np3,bx3⟩:=dZ c3 Lz.dis Lz.m.s Lz.np Lz.bx;walk;have ld:=Lz.tm.lead hy2 (aE _)
  exact q _ _ _ _ _ _ _ _ _ ⟨t3',c3.sm,⟨Lz.m.m,sg3,Lz.m.k⟩,dis3,⟨ld.tp,ld.us,ld.nd,ld.ok,ld.nok,ld.tin,ld.fw,by have:=ld.fb;lia,ld.fc,ld.vf,ld.vn⟩,Lz.gd,np3,Lz.gp,bx3.mono (by lia)⟩ (F2.trans (.chg c3))
theorem BkG.gd {t:Nat}(b:BkG gs gs')(g:Gd t m x lv gs)(t3:t<=3)(hx:x<41):Gd (t+1) m x lv gs':=fun z=>by
 obtain⟨g1,g2⟩:=g z;rcases b with⟨b1,b2⟩|⟨mx,b1,b2,b3,b4⟩
 ·refine⟨by have:=xI (x:=x) b1;lia,fun y hy=>?_⟩;rcases g2 y (b1 y hy) with w|w
  ·exact .inl (by lia)
  ·exact .inr w
 ·have ny:mx<=40+t\/99<=mx:=by
   rcases aT.mp b1 with w|w
   ·exact g2 mx w
   ·rw[au.mp w];exact .inl (by lia)
  have e:=xJ (x:=x) b3 (by lia) (by lia);refine⟨by lia,fun y hy=>?_⟩;rcases b3 y hy with w|w
  ·rcases g2 y w with w'|w'
   ·exact .inl (by lia)
   ·exact .inr w'
  ·rw[w];rcases ny with w'|w'
   ·exact .inl (by lia)
   ·exact .inr (by lia)
theorem xx {b}{tb:TE}(R:V->Hp->Prop)(h1:b=true->∀Q':VK,(∀v H',R v H'->Q' v H')->ta σ H Q')(h2:b=false->∀Q':VK,(∀v H',R v H'->Q' v H')->tb σ H Q')(q:∀v H',R v H'->Q v H'):if b=true then ta σ H Q else tb σ H Q:=by
 cases b with
 | true=>exact gC (h1 rfl _ q)
 | false=>exact fY (h2 rfl _ q)
theorem Lw.mono {t:Nat}{x}{top:Int}(L:Lw c t B nb H p x d a h g M top kvs ps f)(hB:B<=B')(hn:nb<=nb'):Lw c t B' nb' H p x d a h g M top kvs ps f:=
 ⟨L.tr,L.st,L.m,L.dis,⟨L.tm.tp,L.tm.us,L.tm.nd,L.tm.ok,L.tm.nok,L.tm.tin,L.tm.fw,bh L.tm.fb hB,L.tm.fc,L.tm.vf,L.tm.vn⟩,L.gd,L.np,L.gp,L.bx.mono hn⟩
theorem Lw.new {t:Nat}{H7 H9:Hp}{x}{top y':Int}{n0:ND}(L:Lw c t B nb H p x d a h g M top kvs ps f)(c7:Chg h h' H H7)(gv:xQ M.R y')
  (t7:IsT c a' h' x { (M.put y' n0) with b:=M.b+2,R:=M.R.take y' }) (v1:∀q,(∃i:Int,cf a.kv (Sum.inl q)=some (.int i))\/q=y'->∃i:Int,cf a'.kv (Sum.inl q)=some (.int i)) (v2:∀q,q≠y'->cf a.kv (Sum.inl q)=none->cf a'.kv (Sum.inl q)=none) (no:NOk (t+1) n0) (gdn:y'∉ps->Gd (t+1) (ps.length+1) y' n0.lv n0.gs) (S9:aQ H7 H9)
  (eq:H9 q=some (.lst [.int n0.lv,.ref kl,.ref gl,oV n0.hi,oV n0.rt])) (ek:H9 kl=some (.lst (n0.ks.map V.int))) (eg:H9 gl=some (.lst (n0.gs.map V.int))) (fq:H7 q=none) (fk:H7 kl=none) (fg:H7 gl=none) :
  ∃g',Lw c (t+1) (B+2) nb (upd H9 d (.dK (db kvs (Sum.inl y') (.ref q)))) p x d a' h' g' { (M.put y' n0) with b:=M.b+2,R:=M.R.take y' } top (db kvs (Sum.inl y') (.ref q)) (pi ps y') (fun z=>if z=y' then some n0 else f z)/\Frm h g h' g' p H (upd H9 d (.dK (db kvs (Sum.inl y') (.ref q)))):=by
 obtain⟨sg7,dis7,np7,bx7⟩:=dZ c7 L.dis L.m.s L.np L.bx;obtain⟨yn,y0,tmN⟩:=L.tm.made (t':=t+1) (B':=B+2) gv (by lia) (by lia) no v1 v2;have nn:∀{b:Addr},H7 b=none->b≠p:=fun fb=>bx7.ne fb;obtain⟨g',mN,disN,gpN,gout⟩:=Mdl.add (p:=p) (y:=y') (n:=n0) (⟨L.m.m,sg7.trans S9,L.m.k⟩:Mdl g H9 d kvs ps f) dis7 (c7.sm.free fq) (c7.sm.free fk) (c7.sm.free fg) eq ek eg L.gp ⟨nn fq,nn fk,nn fg⟩
 have ndp:d≠p:=fun w=>by have:=L.m.m.d;rw[w,L.gp] at this;cases this
 refine⟨g',⟨t7,?_,mN,disN,tmN,fun z n ez=>?_,np7,gpN,?_⟩,fun b o eb hb gb nb'=>?_⟩
 ·intro b o eb;rw[ak (fun w=>by rw[w,dis7.of_none L.m.m.d] at eb;cases eb)];exact S9 _ _ (c7.sm _ _ eb)
 ·have lN:(pi ps y').length=ps.length+1:=by unfold pi;rw[aA yn,am];rfl
  rw[lN];by_cases ey:z=y'
  ·rw[aH ey] at ez;cases ez;rw[ey];exact gdn yn
  ·rw[aA ey] at ez;exact(L.gd z n ez).mono (by lia) (by lia)
 ·exact(bx7.same S9).to fun o eb=>by rw[ak ndp.symm];exact eb
 ·have eb7:=c7.fr b o eb hb;refine⟨?_,c7.out hb eb,gout b gb (ah eb7 fq) (ah eb7 fk) (ah eb7 fg)⟩;rw[ak (fun w=>by rw[w,L.m.m.d] at gb;cases gb)];exact S9 _ _ eb7
def KOr (K:Frag)(te:TE)(σ:St)(Q:VK)(x:V)(H:Hp):Prop:=∃k,An K x H k/\if k=true then Q x H else te σ H Q
theorem yD (h:ta σ H (KOr K te σ Q)):Bt K ta te σ H Q:=h
theorem BP (h:Q (.int (hi.getD 0)) H):KOr K (tC (.int 0)) σ Q (oV hi) H:=by
 cases hi with
 | none=>exact⟨false,rfl,fY h⟩
 | some v=>
  refine⟨v != 0,rfl,?_⟩;by_cases v0:v=0
  ·rw[v0] at h ⊢;exact fY h
  ·rw[bne_iff_ne.mpr v0];exact gC h
def EdP (ps:List Int)(hi rt:Option Int):Prop:=(hi=none/\rt=none)\/∃k r:Int,hi=some k/\rt=some r/\lh k/\r∈ps
inductive spBent (c:Cs)(vs:List V)(H:Hp)(Q:VK)(E:XK):Prop
 | mk (t B nb:Nat)(p x d:Addr)(a:TA)(h g:Hp)(M:MS)(top:Int)(kvs:List (Key×V))(ps:List Int)(f:Int->Option ND):vs=[.ref p,.ref x,.ref d,.int top]->Lw c t B nb H p x d a h g M top kvs ps f->t<=3->B<=300->nb<=700000->Ab c t B (nb+20) p x d h g H Q->spBent c vs H Q E
theorem xa:Ok F F.r.d__law_bent 11 (spBent c):=by
 have T:=F.r.T;have C_Tree:=F.cT;obtain⟨fI,fdI,XInner⟩:=F.IX;obtain⟨fL,fdL,XLeaf⟩:=F.LX;have GInner:=lQ F XInner;have GLeaf:=oC F XLeaf;refine F.r.d__law_bent.go fun sc H Q hr h=>?_;obtain⟨t,B,nb,p,x,d,a,h,g,M,top,kvs,ps,f,rfl,L,t3,B3,hn,q⟩:=h;have lps:=L.len
 refine⟨_,(ad (cD sc 4 (cc (bS F) hr (pa2 (pv 0) ap)))
  (ad (cD sc 5 (aR (gY (hr.hd rfl)) rfl T.n_sorted gQ (pa1 (pv 2))))
  (ad (cD sc 6 (pix aS (pv 5) (cc (bS F) hr (pa2 (pv 0) (aR bj rfl T.n_len cS (pa1 (pv 5)))))))
  (ad (cD sc 7 (dL (dt hr) (pv 2) (pv 6) (fun _ _=>rfl)))
  (ad (cD sc 8 (dU (pa2 (pix aS (pv 7) ap) (pix aS (pv 7) ap))))
  (ad (cD sc 9 (dG (dF mO (pix aS (pv 7) ap) (pv 2) (by with_unfolding_all rfl)) (dU (pa2 (pix aS (pv 7) ap) (pix aS (pv 7) ap))) (dU (pa2 bV bV))))
  (ad (bT (PW.pt (fM (pc fJ (pv 4) ap) (d0 (pc qR (pv 3) (pv 6)))))
   (ao (bc (cc (AZ F) hr (pa5 (pv 0) (pv 1) (pv 2) (pv 3) (pv 6)))))
   bd)
  (ad (bT (pc fJ (pv 4) ap)
   (ad (cD sc 10 (pix aS (pv 7) ap))
  (ad (cD sc 11 (e_ (pv 1) C_Tree (jW F) hr (pa4 (pv 10) (dG (pc i8 (pv 10) ap) (d_ XInner.mak GInner (hr.mono (by decide)) rfl XInner.m XInner.bi .nil fH (pa2 (bw cy) (bw (pa1 (pv 6))))) (d_ XLeaf.mak GLeaf (hr.mono (by decide)) rfl XLeaf.m XLeaf.bi .nil fH (pa2 (bw cy) (bw cy)))) bV bV)))
  (ad (dH (dt hr) (pv 2) (pv 11) (bw (pa5 (pv 10) (bw cy) (dG (pc i8 (pv 10) ap) (bw (pa1 (pv 6))) (bw cy)) bV bV)) rfl)
  (ao (bc (pv 3))))))
   bd)
  (ad (bT (PW.pt (fM (pc fJ (pv 4) ap) (d0 (pc i8 (pix aS (pv 7) ap) ap))))
   (ao (cD sc 8 (cc (A2 F) hr (pa3 (pv 0) (pv 2) (pv 7)))))
   (ao (bT (pc fJ (pv 4) ap)
   (ad (cD sc 12 (pix aS (bw (pa4 (bN cH (vI (pix fB (pv 9) ap) (eP ap)) ap) (bN g_ (vI (pix fB (pv 9) ap) (eP ap)) ap) ap (ii eX ap))) (cc (bS F) hr (pa2 (pv 0) ap))))
  (ao (cD sc 9 (dU (pa2 (aR (iS rfl) rfl T.n_max ko (pa2 (ii eX ap) (aR (iR rfl) rfl T.n_min nQ (pa2 (pv 12) ap)))) (dG (pc i7 (pix fB (pv 9) ap) bV) (pix fB (pv 9) ap) (pv 6)))))))
   (ao (bT (pc fJ (pv 4) ap)
   (ao (cD sc 9 (pix aS (bw (pa2 (dU (pa2 bV bV)) (dU (pa2 ap (pix aS (pv 5) (cc (bS F) hr (pa2 (pv 0) (aR bj rfl T.n_len cS (pa1 (pv 5)))))))))) (cc (bS F) hr (pa2 (pv 0) ap)))))
   (ao (cD sc 8 (cc (A1 F) hr (pa2 (pv 0) (pv 7))))))))))
  (ad (a_ (e_ (pv 1) C_Tree (jX F) hr (pa2 (pv 6) ap)))
  (ad (cD sc 13 (dG (pc i8 (pix aS (pv 7) ap) ap) (d_ XInner.mak GInner (hr.mono (by decide)) rfl XInner.m XInner.bi .nil fH (pa2 (pix fB (pv 8) ap) (pix fB (pv 8) ap))) (d_ XLeaf.mak GLeaf (hr.mono (by decide)) rfl XLeaf.m XLeaf.bi .nil fH (pa2 (pix fB (pv 8) ap) (pix fB (pv 8) ap)))))
  (ad (a_ (e_ (pv 1) C_Tree (kO F) hr (pa5 (pv 6) ap (pv 13) (pix fB (pv 9) ap) (pix fB (pv 9) ap))))
  (ad (a_ (e_ (pv 1) C_Tree (mR F) hr (pa2 (pv 6) ap)))
  (ad (dH (dt hr) (pv 2) (pv 6) (bw (pa5 (pix aS (pv 7) ap) (cF cM rfl T.n_list dX (pa1 (pix fB (pv 8) ap))) (cF cM rfl T.n_list dX (pa1 (pix fB (pv 8) ap))) (pix fB (pv 9) ap) (pix fB (pv 9) ap))) rfl)
  (ao (bc (pv 3))))))))))))))))),?_⟩
 walk;refine⟨p,6,_,rfl,L.bx,by lia,by decide,by decide,fun way H1 a1 b1 bx1 kb1=>?_⟩;have L1:=L.kb kb1 bx1;walk;refine⟨d,kvs,ps,rfl,.inl (L1.m.s _ _ L1.m.m.d),L1.m.m.k,by lia,fun ns pm so lp fp=>?_⟩;have npl:=bx1.ne fp;generalize hG:upd H1 lp (.lst (ns.map V.int))=H2 at *;have k2:KB p H1 H2:=hG▸KB.refl.updN fp;have e2:=eG hG;have nsl:=pm.length_eq;have psp:=List.length_pos_of_mem L.tm.tin;walk
 refine⟨lp,_,rfl,.inl (SqL.of e2),?_⟩;rw[af];walk;refine⟨p,_,_,rfl,(bx1.same (sG hG fp)),by lia,by lia,by lia,fun r3 H3 a3 b3 bx3 kb3=>?_⟩;have e3:=kb3.get e2 npl;obtain⟨y,hyn,ey⟩:=eE (ns:=ns) a3 (by lia);have hy:=pm.mem_iff.mp hyn;refine cG e3 ey ?_;have k13:=k2.trans kb3;have L3:=L1.kb k13 bx3;have F3:Frm h g h g p H H3:=(Frm.kb kb1).trans (.kb k13)
 obtain⟨n,qa,en,eM,no,eq,iq⟩:=L3.nd hy;obtain⟨kl,gl,i1,i2,i3⟩:=iq;have j1:=L3.m.s _ _ i1;have rgy:=L.rg hy;walk;refine dM (k:=Sum.inl y) (L3.m.s _ _ L3.m.m.d) eq ?_;walk;refine⟨sz,fun ct fct=>?_⟩;have nct:=bx3.ne fct;generalize hG:upd H3 ct _=H4 at *;have k4:KB p H3 H4:=hG▸KB.refl.updN fct;have e4:=eG hG;have bx4:=bx3.same (sG hG fct);have L4:=L3.kb k4 bx4;have hx4:=L4.st _ _ L4.tr.x
 have hd4:=L4.m.s _ _ L4.m.m.d;have j14:=L4.m.s _ _ i1;have gne:∀{b:Addr} {o:HO},g b=some o->b≠p:=fun {b o} e w=>by rw[w,L.gp] at e;cases e
 have nkl:=gne i2;have ngl:=gne i3;refine dB (by assumption) ?_;refine eK (fun σ' H'=>∃(et:Addr) (hi rt:Option Int),σ'=[some (.ref p),some (.ref x),some (.ref d),some (.int top),some (.int way),some (.ref lp),some (.int y),some (.ref qa),some (.ref ct),some (.ref et),none,none,none,none]/\H' et=some (.tup [oV hi,oV rt])/\et≠p/\h et=none/\EdP ps hi rt/\aQ H4 H') (fun N z=>?_) ?_
 ·walk
  have fin:∀b:Bool,(b=true->∃r,n.rt=some r/\r∈ps)->if b=true then Ac (eY (tOp (xS K) (vA 7) (tC (V.int 3))) (eY (tOp (xS K) (vA 7) (tC (V.int 4))) pC)) [some (.ref p),some (.ref x),some (.ref d),some (.int top),some (.int way),some (.ref lp),some (.int y),some (.ref qa),some (.ref ct),none,none,none,none,none] H4 (fun v H'=>N [some (.ref p),some (.ref x),some (.ref d),some (.int top),some (.int way),some (.ref lp),some (.int y),some (.ref qa),some (.ref ct),some v,none,none,none,none] H') else Ac (eY (tC V.non) (eY (tC V.non) pC)) [some (.ref p),some (.ref x),some (.ref d),some (.int top),some (.int way),some (.ref lp),some (.int y),some (.ref qa),some (.ref ct),none,none,none,none,none] H4 (fun v H'=>N [some (.ref p),some (.ref x),some (.ref d),some (.int top),some (.int way),some (.ref lp),some (.int y),some (.ref qa),some (.ref ct),some v,none,none,none,none] H'):=fun b hb=>by
   cases b with
   | true=>
    obtain⟨r,er,hr'⟩:=hb rfl;refine gC ?_;walk;refine⟨sz,fun et fet=>?_⟩;refine z _ _ ⟨et,n.hi,n.rt,rfl,ae,bx4.ne fet,L4.st.free fet,?_,aQ.upd fet⟩;rcases no.ed with w|⟨k,r',w1,w2,w3⟩
    ·rw[w.2] at er;cases er
    ·rw[w2] at er;cases er;exact .inr ⟨k,r,w1,w2,w3,hr'⟩
   | false=>
    refine fY ?_;walk;exact⟨sz,fun et fet=>z _ _ ⟨et,none,none,rfl,ae,bx4.ne fet,L4.st.free fet,.inl ⟨rfl,rfl⟩,aQ.upd fet⟩⟩
  refine⟨d,kvs,rfl,.inl hd4,?_⟩;cases er:n.rt with
  | none=>
   refine .inr ⟨rfl,?_⟩;walk;exact fin false nofun
  | some r=>
   refine .inl ⟨.inl r,rfl,?_⟩;rw[aA ay,L4.m.m.val];exact qb (fin _ fun w=>⟨r,er,bB w⟩)
 rintro σ5 H5 ⟨et,hi0,rt0,rfl,e5,net,het,ed0,S5⟩;have k5:KB p H4 H5:=fun b o eb _=>S5 _ _ eb;have bx5:=bx4.same S5;have L5:=L4.kb k5 bx5;have F5:Frm h g h g p H H5:=(F3.trans (.kb k4)).trans (.kb k5);have j15:=S5 _ _ j14;have hd5:=S5 _ _ hd4;have hx5:=S5 _ _ hx4;have lp5:=S5 _ _ (k4.get e3 npl);refine ji fun _ _=>?_;refine rS (fun b H'=>(b=true->y≠top)/\H'=H5) (fun Q' z=>?_) ?_
 ·walk;by_cases w0:way=0
  ·refine ik (bq V.int w0) ?_;walk;exact z _ _ ⟨(fun w e=>by rw[e,av rfl] at w;cases w),rfl⟩
  ·refine iW (fun w=>w0 (V.int.inj w)) ?_;walk;exact z _ _ ⟨nofun,rfl⟩
 rintro b H5' ⟨hb,rfl⟩;cases b with
 | true=>
  refine gC ?_;walk;exact⟨t,B,_,p,x,d,a,h,g,M,top,kvs,ps,f,y,rfl,L5,t3,B3,by lia,hy,hb rfl,fun a' h' g' M' top' kvs' ps' f' H' L' F'=>q a' h' g' M' top' kvs' ps' f' H' (L'.mono (by lia) (by lia)) (F5.trans F')⟩
 | false=>
  refine fY ?_;refine pI ?_;refine dB (by assumption) ?_;refine ji fun _ _=>?_;walk;by_cases w1:way=1
  ·refine ik (bq V.int w1) ?_;walk;generalize hgs:(if n.lv=0 then [] else [y])=gs0;refine xx (fun v H'=>∃pg h2,v=.ref pg/\Chg h h2 H5' H'/\Pg c.pg h2 pg n.lv [] gs0/\aQ h h2) (fun hb1 Q' z=>?_) (fun hb1 Q' z=>?_) ?_
   ·have l0:0<n.lv:=bB hb1;rw[aA (by lia)] at hgs;subst hgs;walk;refine⟨sz,fun l6 f6=>?_⟩;walk;refine⟨sz,fun l7 f7=>?_⟩;walk;refine xl (ks:=[]) (gs:=[y]) (cm f7 ae) ae ⟨nofun,.nil,by decide⟩ ⟨rfl,fun i hi=>by rw[au.mp hi];exact rgy.1,by simp⟩ fun pg dx tk tg H6 fp ftk ftg q1 q2 q3 S6=>?_
    have S57:aQ H5' (upd (upd H5' l6 (.lst [])) l7 (.lst [.int y])):=(aQ.upd f6).trans (aQ.upd f7);obtain⟨h2,c2,pg2,sh2⟩:=zg (c:=c) (lv:=n.lv) L5.st (S57.trans S6) (S57.free fp) (S57.free ftk) (S57.free ftg) (by unfold Cp.of;rw[aA (by lia)];exact q1) q2 q3;exact z _ _ ⟨pg,h2,rfl,c2,pg2,sh2⟩
   ·have l0:n.lv=0:=by have:=of_decide_eq_false hb1;have:=no.lv.1;lia
    rw[aH l0] at hgs;subst hgs;walk;refine⟨sz,fun l6 f6=>?_⟩;walk;refine⟨sz,fun l7 f7=>?_⟩;walk;refine xl (ks:=[]) (gs:=[]) (cm f7 ae) ae ⟨nofun,.nil,by decide⟩ ⟨rfl,nofun⟩ fun pg dx tk tg H6 fp ftk ftg q1 q2 q3 S6=>?_;have S57:aQ H5' (upd (upd H5' l6 (.lst [])) l7 (.lst [])):=(aQ.upd f6).trans (aQ.upd f7)
    obtain⟨h2,c2,pg2,sh2⟩:=zg (c:=c) (lv:=n.lv) L5.st (S57.trans S6) (S57.free fp) (S57.free ftk) (S57.free ftg) (by rw[l0];exact q1) q2 q3;exact z _ _ ⟨pg,h2,rfl,c2,pg2,sh2⟩
   rintro v H6 ⟨pg,h2,rfl,c2,pg2,sh2⟩;have T5:=L5.tm;have plw:=T5.fw;walk;refine⟨a,h2,x,M,n.lv,pg,[],gs0,none,none,rfl,L5.tr.same sh2,c2.sm,T5.ok,by lia,by have:=T5.fb;lia,fun z hz=>?_,T5.vn _ (by lia),no.lv.1,no.lv.2,pg2,.inl ⟨rfl,rfl⟩,fun y' a' h' H7 gv t7 v1 v2 c7=>?_⟩
   ·have:=T5.ok.rg z (by unfold RS.places;exact aU _ hz);exact T5.vf z this.1 this.2
   have c57:=c2.trans c7;obtain⟨sg7,dis7,np7,bx7⟩:=dZ c57 L5.dis L5.m.s L5.np L5.bx;have hd7:=sg7 _ _ L5.m.m.d;walk;refine⟨sz,fun l8 f8=>?_⟩;walk;refine xx (fun v H'=>∃l9,v=.ref l9/\H' l9=some (.lst (gs0.map V.int))/\aQ (upd H7 l8 (.lst [])) H'/\upd H7 l8 (.lst []) l9=none) (fun hb1 Q' z=>?_) (fun hb1 Q' z=>?_) ?_
   ·have l0:0<n.lv:=bB hb1;rw[aA (by lia)] at hgs;subst hgs;walk;exact⟨sz,fun l9 f9=>z _ _ ⟨l9,rfl,ae,aQ.upd f9,f9⟩⟩
   ·have l0:n.lv=0:=by have:=of_decide_eq_false hb1;have:=no.lv.1;lia
    rw[aH l0] at hgs;subst hgs;walk;exact⟨sz,fun l9 f9=>z _ _ ⟨l9,rfl,ae,aQ.upd f9,f9⟩⟩
   rintro v H8 ⟨l9,rfl,e9,S8,f9⟩;walk;refine⟨sz,fun qn f10=>?_⟩;have S10:aQ H7 (upd H8 qn (.lst [.int n.lv,.ref l8,.ref l9,.non,.non])):=(aQ.upd f8).trans (S8.trans (aQ.upd f10));have fq7:H7 qn=none:=(aQ.upd (o:=.lst []) f8).free (S8.free f10);have f97:H7 l9=none:=(aQ.upd (o:=.lst []) f8).free f9;walk
   refine eF (k:=Sum.inl y') (S10 _ _ hd7) (by rw[L5.m.m.len];have:=bp;lia) ?_
   have no0:NOk (t+1) ⟨n.lv,[],gs0,none,none,none,false⟩:=by
    refine⟨no.lv,⟨nofun,.nil,by show (0:Nat)<=6;decide⟩,fun z=>?_,fun z=>?_,.inl ⟨rfl,rfl⟩,rfl,rfl⟩
    ·have z':n.lv=0:=z;rw[aH z'] at hgs;subst hgs;exact⟨rfl,nofun⟩
    ·have z':n.lv≠0:=z;rw[aA z'] at hgs;subst hgs;exact⟨rfl,fun i hi=>by rw[au.mp hi];exact rgy.1,by simp⟩
   obtain⟨g',LN,FN⟩:=L5.new (n0:=⟨n.lv,[],gs0,none,none,none,false⟩) (q:=qn) (kl:=l8) (gl:=l9) c57 gv t7 v1 v2 no0 (fun yn z=>by
    have z':n.lv≠0:=z;rw[aA z'] at hgs;subst hgs
    have e0:eOf y' [y]=0:=by
     unfold eOf;rw[aA (fun w=>yn (by rw[au.mp w];exact hy)),aA (fun w=>by have:=au.mp w;lia)]
    refine⟨?_,fun g' hg=>.inl ?_⟩
    ·show [y].length+1+eOf y' [y]<=_;rw[e0];simp
     lia
    ·rw[au.mp hg];lia) S10 ae (cm f10 (S8 _ _ ae)) (cm f10 e9) fq7 f8 f97
   walk;exact q _ _ _ _ _ _ _ _ _ (LN.mono (by lia) (by lia)) (F5.trans FN)
  ·refine iW (fun w=>w1 (V.int.inj w)) ?_;refine dB (by assumption) ?_;refine pI ?_;refine dB (by assumption) ?_;have ct5:=S5 _ _ e4;have kl5:=L5.m.s _ _ i2;have gl5:=L5.m.s _ _ i3;have gd5:=L5.gd y n en;have hct:h ct=none:=L3.st.free fct;have hkl:h kl=none:=L.dis.of_none i2;have hgl:h gl=none:=L.dis.of_none i3
   refine eK (fun σ' H'=>∃(ct et kl gl:Addr) (ks gs:List Int) (hi rt:Option Int) (o12:Option V),σ'=[some (.ref p),some (.ref x),some (.ref d),some (.int top),some (.int way),some (.ref lp),some (.int y),some (.ref qa),some (.ref ct),some (.ref et),none,none,o12,none]/\H' ct=some (.tup [.ref kl,.ref gl])/\H' kl=some (.lst (ks.map V.int))/\H' gl=some (.lst (gs.map V.int))/\Cont (t+1) n.lv ks gs/\Gd (t+1) ps.length y n.lv gs/\H' et=some (.tup [oV hi,oV rt])/\(h ct=none/\h et=none/\h kl=none/\h gl=none)/\EdP ps hi rt/\KB p H5' H'/\Box H' p (nb+18)) (fun N z=>?_) ?_
   ·refine rS (fun b H'=>(b=true->n.lv≠0)/\H'=H5') (fun Q' z'=>?_) ?_
    ·walk;by_cases w2:way=2
     ·refine ik (bq V.int w2) ?_;walk;exact z' _ _ ⟨fun w=>by have:=bB w;lia,rfl⟩
     ·refine iW (fun w=>w2 (V.int.inj w)) ?_;walk;exact z' _ _ ⟨nofun,rfl⟩
    rintro b H6 ⟨hb2,rfl⟩;cases b with
    | true=>
     refine gC ?_;walk;refine⟨p,d,qa,kvs,ps,f,y,n,_,t,g,rfl,bx5,by lia,L5.m.m,en,⟨kl,gl,i1,i2,i3⟩,L5.m.s,L5.gp,no,t3,hb2 rfl,gd5,fun z hz=>?_,by lia,fun z hz=>?_,by lia,fun tt kl' gl' gs' H7 q1 q2 q3 frs co' gd' bx7 k7=>?_⟩
     ·have:=L.rg hz;exact⟨this.1,by lia⟩
     ·have:=L.rg hz;lia
     walk;exact z _ _ ⟨tt,et,kl',gl',n.ks,gs',hi0,rt0,_,rfl,q1,q2,q3,co',gd',k7.get e5 net,⟨L5.st.free frs.1,het,L5.st.free frs.2.1,L5.st.free frs.2.2⟩,ed0,k7,bx7.mono (by lia)⟩
    | false=>
     refine fY ?_;walk;by_cases w3:way=3
     ·refine ik (bq V.int w3) ?_;walk;refine yD ?_;walk;refine BP ?_;walk;refine yD ?_;walk;refine BP ?_;walk;generalize hi0.getD 0=hv;refine⟨sz,fun l7 f7=>?_⟩;have n7:=bx5.ne f7;walk;refine⟨p,4,_,rfl,bx5.same (aQ.upd f7),by lia,by decide,by decide,fun r8 H8 a8 b8 bx8 kb8=>?_⟩;obtain⟨hg,_,eg⟩:=eE (ns:=[hv+1,hv - 1,999999999,-999999999]) a8 (by simpa using b8)
      refine cG (kb8.get ae n7) eg ?_;have k8:KB p H6 H8:=(KB.refl.updN f7).trans kb8;have e58:=k8.get e5 net;walk;refine⟨_,_,rfl,?_⟩;walk;refine⟨_,_,rfl,?_⟩
      have kr:lh (if (if 999999999<hg then 999999999 else hg) > -999999999 then (if 999999999<hg then 999999999 else hg) else -999999999):=by
       refine⟨?_,?_⟩
       ·split<;>lia
       ·split
        ·split<;>lia
        ·lia
      generalize (if (if 999999999<hg then 999999999 else hg) > -999999999 then (if 999999999<hg then 999999999 else hg) else -999999999)=hk at *;walk;refine⟨rfl,?_⟩;walk
      have fin:∀r,r∈ps->∀et',H8 et'=none->N [some (.ref p),some (.ref x),some (.ref d),some (.int top),some (.int way),some (.ref lp),some (.int y),some (.ref qa),some (.ref ct),some (.ref et'),none,none,some (.int hg),none] (upd H8 et' (.tup [.int hk,.int r])):=fun r hr' et' fe=>z _ _ ⟨ct,et',kl,gl,n.ks,n.gs,some hk,some r,_,rfl,cm fe (k8.get ct5 nct),cm fe (k8.get kl5 nkl),cm fe (k8.get gl5 ngl),no.cont.mono (by lia),gd5.mono (by lia) (by lia),ae,⟨hct,(k8.same L5.st L5.np).free fe,hkl,hgl⟩,.inr ⟨hk,r,rfl,rfl,kr,hr'⟩,k8.updN fe,(bx8.same (aQ.upd fe)).mono (by lia)⟩
      rcases ed0 with⟨eh,er⟩|⟨k0,r0,eh,er,kk,hr'⟩
      ·rw[er];refine l_ rfl ?_;walk;exact⟨sz,fun et' fe=>fin y hy et' fe⟩
      ·rw[er] at e58 ⊢;refine u7 nofun ?_;walk;exact⟨sz,fun et' fe=>fin r0 hr' et' fe⟩
     ·refine iW (fun w=>w3 (V.int.inj w)) ?_;walk;by_cases w4:way=4
      ·refine ik (bq V.int w4) ?_;walk;refine⟨sz,fun u1 fu1=>?_⟩;have nu1:=bx5.ne fu1;walk;refine⟨lp,_,rfl,.inl (SqL.of (cm fu1 lp5)),?_⟩;rw[af];walk;refine⟨p,_,_,rfl,bx5.same (aQ.upd fu1),by lia,by lia,by lia,fun r8 H8 a8 b8 bx8 kb8=>?_⟩;have k8:KB p H6 H8:=(KB.refl.updN fu1).trans kb8;obtain⟨y8,hy8,ey8⟩:=eE (ns:=ns) a8 (by lia);refine cG (k8.get lp5 npl) ey8 ?_;walk
       refine⟨sz,fun u2 fu2=>?_⟩;have nu2:=bx8.ne fu2;have u18:=kb8.get (ae (H:=H6) (a:=u1) (o:=.tup [.non,.non])) nu1;walk;refine⟨sz,fun l9 f9=>?_⟩;have n9:=(bx8.same (aQ.upd (o:=.tup [.int 5,.int y8]) fu2)).ne f9;generalize hG:upd (upd H8 u2 _) l9 _=H9 at *;have S9:aQ H8 H9:=hG▸(aQ.upd fu2).trans (aQ.upd f9);have u29:H9 u2=some (.tup [.int 5,.int y8]):=hG▸cm f9 ae
       have l99:H9 l9=some (.lst [.ref u1,.ref u2]):=hG▸ae;walk;refine⟨p,2,_,rfl,bx8.same S9,by lia,by decide,by decide,fun r10 H10 a10 b10 bx10 kb10=>?_⟩;have k10:KB p H6 H10:=fun b o eb nb'=>kb10.get (S9 _ _ (k8.get eb nb')) nb';have l10:=kb10.get l99 n9;by_cases r0:r10=0
       ·subst r0;refine cG l10 (v:=.ref u1) rfl ?_;walk;exact z _ _ ⟨ct,u1,kl,gl,n.ks,n.gs,none,none,_,rfl,k10.get ct5 nct,k10.get kl5 nkl,k10.get gl5 ngl,no.cont.mono (by lia),gd5.mono (by lia) (by lia),kb10.get (S9 _ _ u18) nu1,⟨hct,L5.st.free fu1,hkl,hgl⟩,.inl ⟨rfl,rfl⟩,k10,bx10.mono (by lia)⟩
       ·have:r10=1:=by lia
        subst this;refine cG l10 (v:=.ref u2) rfl ?_;walk;exact z _ _ ⟨ct,u2,kl,gl,n.ks,n.gs,some 5,some y8,_,rfl,k10.get ct5 nct,k10.get kl5 nkl,k10.get gl5 ngl,no.cont.mono (by lia),gd5.mono (by lia) (by lia),kb10.get u29 nu2,⟨hct,(k8.same L5.st L5.np).free fu2,hkl,hgl⟩,.inr ⟨5,y8,rfl,rfl,⟨by decide,by decide⟩,pm.mem_iff.mp hy8⟩,k10,bx10.mono (by lia)⟩
      ·refine iW (fun w=>w4 (V.int.inj w)) ?_;walk;refine⟨p,qa,n,_,t,g,rfl,bx5,by lia,⟨kl,gl,i1,i2,i3⟩,L5.m.s,L5.gp,no,by lia,fun tt kl' gl' ks' gs' H7 q1 q2 q3 frs co' bg' bx7 k7=>?_⟩;walk;exact z _ _ ⟨tt,et,kl',gl',ks',gs',hi0,rt0,_,rfl,q1,q2,q3,co',bg'.gd gd5 t3 (by lia),k7.get e5 net,⟨L5.st.free frs.1,het,L5.st.free frs.2.1,L5.st.free frs.2.2⟩,ed0,k7,bx7.mono (by lia)⟩
   rintro σ6 H6 ⟨ct6,et6,kl6,gl6,ks6,gs6,hi6,rt6,o12,rfl,c6,kk6,gg6,co6,gd6,ee6,⟨hct6,het6,hkl6,hgl6⟩,ed6,k6,bx6⟩;have L6:=L5.kb k6 bx6;have F6:Frm h g h g p H H6:=F5.trans (.kb k6);have hx6:=L6.st _ _ L6.tr.x;have yu:=(L6.tm.us _).mpr hy;walk;refine⟨a,h,x,M,y,n,3,rfl,L6.tr,L6.st,L6.tm.ok,eM,yu,by have:=L6.tm.fb;lia,by decide,by decide,no.ho,fun a7 h7 H7 kv7 t7 c7=>?_⟩
   obtain⟨sg7,dis7,np7,bx7⟩:=dZ c7 L6.dis L6.m.s L6.np L6.bx;have nd7:(M.put y { n with ho:=some 3,wr:=false }).nd y=some { n with ho:=some 3,wr:=false }:=aH rfl;have j17:=sg7 _ _ i1;have ct7:=c7.fr _ _ c6 hct6;have et7:=c7.fr _ _ ee6 het6;have kl7:=c7.fr _ _ kk6 hkl6;have gl7:=c7.fr _ _ gg6 hgl6;have hct7:=c7.out hct6 c6;have het7:=c7.out het6 ee6;have hkl7:=c7.out hkl6 kk6
   have hgl7:=c7.out hgl6 gg6;walk;refine xx (fun v H'=>∃pg h2,v=.ref pg/\Chg h7 h2 H7 H'/\Pg c.pg h2 pg n.lv ks6 gs6/\aQ h7 h2/\aQ H7 H') (fun hb1 Q' z=>?_) (fun hb1 Q' z=>?_) ?_
   ·have l0:0<n.lv:=bB hb1;walk;refine xl kl7 gl7 co6.kk (co6.gi (by lia)) fun pg dx tk tg H8 fp ftk ftg q1 q2 q3 S8=>?_;obtain⟨h2,c2,pg2,sh2⟩:=zg (c:=c) (lv:=n.lv) c7.sm S8 fp ftk ftg (by unfold Cp.of;rw[aA (by lia)];exact q1) q2 q3;exact z _ _ ⟨pg,h2,rfl,c2,pg2,sh2,S8⟩
   ·have l0:n.lv=0:=by have:=of_decide_eq_false hb1;have:=no.lv.1;lia
    walk;refine xl kl7 gl7 co6.kk (show okL ks6.length gs6 from ⟨(co6.gl l0).1,fun i hi=>⟨by have:=(co6.gl l0).2 i hi;lia,by have:=(co6.gl l0).2 i hi;lia⟩⟩) fun pg dx tk tg H8 fp ftk ftg q1 q2 q3 S8=>?_;obtain⟨h2,c2,pg2,sh2⟩:=zg (c:=c) (lv:=n.lv) c7.sm S8 fp ftk ftg (by rw[l0];exact q1) q2 q3;exact z _ _ ⟨pg,h2,rfl,c2,pg2,sh2,S8⟩
   rintro v H8 ⟨pg,h8,rfl,c8,pg8,sh8,S8⟩;have t8:=t7.same sh8;have hx8:=c8.sm _ _ t8.x;have et8:=S8 _ _ et7;obtain⟨sg8,dis8,np8,bx8⟩:=dZ c8 dis7 sg7 np7 bx7;walk;refine⟨a7,h8,x,_,y,_,3,pg,ks6,gs6,hi6,rt6,rfl,t8,c8.sm,L6.tm.ok,nd7,yu,by have:=L6.tm.fb;show M.b+1<=_;lia,by decide,by decide,rfl,pg8,?_,fun a9 h9 H9 kv9 t9 c9=>?_⟩
   ·rcases ed6 with w|⟨k,r,w1,w2,w3,w4⟩
    ·exact .inl w
    ·exact .inr ⟨k,r,w1,w2,w3,(L6.tm.us _).mpr w4⟩
   obtain⟨sg9,dis9,np9,bx9⟩:=dZ c9 dis8 sg8 np8 bx8;have hx9:=c9.sm _ _ t9.x;have c79:=c8.trans c9;walk;refine⟨a9,h9,x,_,y,_,3,rfl,t9,c9.sm,L6.tm.ok,aH rfl,yu,by have:=L6.tm.fb;show M.b+1+1<=_;lia,by decide,by decide,rfl,fun a10 h10 H10 b10 kv10 hb10 t10 c10=>?_⟩;obtain⟨sg10,dis10,np10,bx10⟩:=dZ c10 dis9 sg9 np9 bx9;have c710:=c79.trans c10
   have fr10:∀{b:Addr} {o:HO},H7 b=some o->h7 b=none->H10 b=some o:=fun eb hb=>c710.fr _ _ eb hb;have j110:=sg10 _ _ i1;have ct10:=fr10 ct7 hct7;have et10:=fr10 et7 het7;have kl10:=fr10 kl7 hkl7;have gl10:=fr10 gl7 hgl7;have hd10:=sg10 _ _ L6.m.m.d;walk;refine⟨kl6,_,rfl,.inl (SqL.of kl10),fun l11 f11=>?_⟩;have ct11:=cm (o:=.lst (ks6.map V.int)) f11 ct10;walk
   refine⟨gl6,_,rfl,.inl (SqL.of (cm f11 gl10)),fun l12 f12=>?_⟩;have f120:=(aQ.upd (o:=.lst (ks6.map V.int)) f11).free f12;generalize hG:upd (upd H10 l11 _) l12 _=H12 at *;have S12:aQ H10 H12:=hG▸(aQ.upd f11).trans (aQ.upd f12);have e11:H12 l11=some (.lst (ks6.map V.int)):=hG▸cm f12 ae;have e12:H12 l12=some (.lst (gs6.map V.int)):=hG▸ae;have et12:=S12 _ _ et10;walk
   refine⟨sz,fun qn f13=>?_⟩;have S13:=S12.trans (aQ.upd (o:=.lst [.int n.lv,.ref l11,.ref l12,oV hi6,oV rt6]) f13);have fq10:=S12.free f13;walk;refine eF (k:=Sum.inl y) (S13 _ _ hd10) (by rw[L6.m.m.len];have:=bp;lia) ?_;have nn:∀{b:Addr},H10 b=none->b≠p:=fun fb=>bx10.ne fb
   have noN:NOk (t+1) ⟨n.lv,ks6,gs6,hi6,rt6,none,false⟩:=⟨no.lv,co6.kk,co6.gl,co6.gi,by
    rcases ed6 with w|⟨k,r,w1,w2,w3,w4⟩
    ·exact .inl w
    ·exact .inr ⟨k,r,w1,w2,w3⟩,rfl,rfl⟩
   obtain⟨g',mN,disN,gpN,gout⟩:=Mdl.add (p:=p) (y:=y) (n:=⟨n.lv,ks6,gs6,hi6,rt6,none,false⟩) (⟨L6.m.m,sg10.trans S13,L6.m.k⟩:Mdl g _ d kvs ps f) dis10 (c10.sm.free fq10) (c10.sm.free f11) (c10.sm.free f120) ae (cm f13 e11) (cm f13 e12) L6.gp ⟨nn fq10,nn f11,nn f120⟩;have ndp:d≠p:=fun w=>by have:=L6.m.m.d;rw[w,L6.gp] at this;cases this
   have aps:pi ps y=ps:=by unfold pi;rw[aH hy]
   rw[aps] at mN;walk;refine q a10 h10 g' _ top _ ps _ _ ⟨t10,?_,mN,disN,L6.tm.upd (p:=y) (t':=t+1) (B':=B+10) (le_succ t) rfl rfl (fun z hz=>?_) (aH rfl) ?_ (kv7.trans (kv9.trans kv10)) noN,fun z n' ez=>?_,np10,gpN,?_⟩ ?_
   ·intro b o eb;rw[ak (fun w=>by rw[w,dis10.of_none L6.m.m.d] at eb;cases eb)];exact S13 _ _ (c10.sm _ _ eb)
   ·show (if z=y then _ else if z=y then _ else if z=y then _ else M.nd z)=M.nd z;rw[aA hz,aA hz,aA hz]
   ·have h1:=L6.tm.fb;have h2:b10<=M.b+1+1+1:=hb10;show b10+1<=_
    lia
   ·by_cases w:z=y
    ·rw[aH w] at ez;cases ez;rw[w];exact gd6
    ·rw[aA w] at ez;exact(L6.gd z n' ez).mono (by lia) (by lia)
   ·exact((bx10.same S13).to fun o eb=>by rw[ak ndp.symm];exact eb).mono (by lia)
   ·refine F6.trans ((Frm.chg c7).trans fun b o eb hb gb nb'=>?_);have eb10:=fr10 eb hb;refine⟨?_,c710.out hb eb,gout b gb (ah eb10 fq10) (ah eb10 f11) (ah eb10 f120)⟩;rw[ak (fun w=>by rw[w,L6.m.m.d] at gb;cases gb)];exact S13 _ _ eb10
theorem zh {k:Nat}(h:z.natAbs<2 ^ k)(hk:0<k):z.natAbs.log2<k:=by
 by_cases e:z.natAbs=0
 ·rw[e];simpa using hk
 ·exact(Nat.log2_lt e).mpr h
structure Shw (m:Nat)(d:PyData):Prop where
 sh:d.showable=true
 lv:d.leavesShort 40=true
 dp:d.depth<=2
 wt:d.weight<=m
theorem shw_int {i:Int}{k:Nat}(h:i.natAbs<2 ^ k)(hk:0<k)(k30:k<=30):Shw k (.int i):=by
 have l:=zh h hk;have b:=ba h (Nat.pow_le_pow_right (by decide) k30);refine⟨?_,?_,by simp[PyData.depth],?_⟩
 ·simp only[PyData.showable,decide_eq_true_eq];lia
 ·simp only[PyData.leavesShort,decide_eq_true_eq];have e:=int_text_length_le10 (k:=31) (by decide) (a:=i) (by lia);show (Str.ofString (toString i)).length<=40;rw[ofString_length]
  lia
 ·simp only[PyData.weight];split<;>lia
theorem om {m:Nat}:∀{ds:List PyData},(∀d∈ds,Shw m d)->PyData.showableAll ds=true/\PyData.leavesShortAll 40 ds=true/\PyData.depthAll ds<=2/\PyData.weightAll ds<=(m+1) * ds.length
 | [],_=>⟨rfl,rfl,by simp[PyData.depthAll],by simp[PyData.weightAll]⟩
 | d::ds,h=>by
  obtain⟨a,b,c,e⟩:=om fun y hy=>h y (br _ hy);have s:=h d (bY ..);refine⟨?_,?_,?_,?_⟩
  ·simp only[PyData.showableAll,s.sh,a,Bool.and_self]
  ·simp only[PyData.leavesShortAll,s.lv,b,Bool.and_self]
  ·simp only[PyData.depthAll];have:=s.dp
   lia
  ·simp only[PyData.weightAll,bf];have:=s.wt;have e2:(m+1) * (ds.length+1)=(m+1) * ds.length+(m+1):=by rw[Nat.mul_add,Nat.mul_one]
   lia
structure Shx (m:Nat)(d:PyData):Prop where
 sh:d.showable=true
 lv:d.leavesShort 40=true
 dp:d.depth<=6
 wt:d.weight<=m
theorem oh {m:Nat}:∀{ds:List PyData},(∀d∈ds,Shx m d)->PyData.showableAll ds=true/\PyData.leavesShortAll 40 ds=true/\PyData.depthAll ds<=6/\PyData.weightAll ds<=(m+1) * ds.length
 | [],_=>⟨rfl,rfl,by simp[PyData.depthAll],by simp[PyData.weightAll]⟩
 | d::ds,h=>by
  obtain⟨a,b,c,e⟩:=oh fun y hy=>h y (br _ hy);have s:=h d (bY ..);refine⟨?_,?_,?_,?_⟩
  ·simp only[PyData.showableAll,s.sh,a,Bool.and_self]
  ·simp only[PyData.leavesShortAll,s.lv,b,Bool.and_self]
  ·simp only[PyData.depthAll];have:=s.dp
   lia
  ·simp only[PyData.weightAll,bf];have:=s.wt;have e2:(m+1) * (ds.length+1)=(m+1) * ds.length+(m+1):=by rw[Nat.mul_add,Nat.mul_one]
   lia
def dI (zs:List Int):PyData:=.list (zs.map PyData.int)
def dP (ps:List (Int×Int)):PyData:=.list (ps.map fun p=>.tuple [.int p.1,.int p.2])
def dR (rows:List (List Int)):PyData:=.list (rows.map dI)
def dD (rows:List (List Int))(ps:List (Int×Int))(us:List Int):PyData:=.list [dR rows,dP ps,dI us]
theorem pG {k:Nat}(h:∀z∈zs,z.natAbs<2 ^ k)(hk:0<k)(k30:k<=30)(l:zs.length<=m):Shx ((k+1) * m) (dI zs)/\(dI zs).depth<=4:=by
 obtain⟨a,b,c,e⟩:=om (m:=k) (ds:=zs.map PyData.int) fun d hd=>by obtain⟨z,hz,rfl⟩:=bC.mp hd;exact shw_int (h z hz) hk k30
 rw[af] at e;have e2:(k+1) * zs.length<=(k+1) * m:=Nat.mul_le_mul_left _ l;unfold dI;refine⟨⟨by simpa only [PyData.showable] using a,by simpa only [PyData.leavesShort] using b,?_,?_⟩,?_⟩
 ·simp only[PyData.depth];lia
 ·simp only[PyData.weight];lia
 ·simp only[PyData.depth];lia
theorem uD {a b:Int}(ha:a.natAbs<2 ^ 30)(hb:b.natAbs<2 ^ 30):Shx 62 (.tuple [.int a,.int b])/\(PyData.tuple [.int a,.int b]).depth<=4:=by
 obtain⟨x,y,c,e⟩:=om (m:=30) (ds:=[PyData.int a,.int b]) fun d hd=>by
  simp at hd;rcases hd with rfl|rfl
  ·exact shw_int ha (by decide) (by decide)
  ·exact shw_int hb (by decide) (by decide)
 simp at e;refine⟨⟨by simpa only [PyData.showable] using x,by simpa only [PyData.leavesShort] using y,?_,?_⟩,?_⟩
 ·simp only[PyData.depth];lia
 ·simp only[PyData.weight];lia
 ·simp only[PyData.depth];lia
theorem sU {ds:List PyData}{l:Nat}(h:∀d∈ds,Shx m d/\d.depth<=4)(hl:ds.length<=l):Shx ((m+1) * l) (.list ds):=by
 obtain⟨a,b,_,e⟩:=oh (m:=m) (ds:=ds) fun d hd=>(h d hd).1
 have dp:∀{ds:List PyData},(∀d∈ds,d.depth<=4)->PyData.depthAll ds<=4:=by
  intro ds
  induction ds with
  | nil=>intro _;simp[PyData.depthAll]
  | cons d ds ih=>
   intro h;have:=ih fun y hy=>h y (.tail _ hy);have:=h d (.head _);simp only[PyData.depthAll]
   lia
 have d4:=dp fun d hd=>(h d hd).2;have e2:(m+1) * ds.length<=(m+1) * l:=Nat.mul_le_mul_left _ hl;refine⟨by simpa only [PyData.showable] using a,by simpa only [PyData.leavesShort] using b,?_,?_⟩
 ·simp only[PyData.depth];lia
 ·simp only[PyData.weight];lia
theorem AX {ps:List (Int×Int)}{us:List Int}(hr:∀r∈rows,r.length<64/\∀z∈r,z.natAbs<2 ^ 6)(lr:rows.length<=61)(hp:∀q∈ps,q.1.natAbs<2 ^ 30/\q.2.natAbs<2 ^ 30)(lp:ps.length<=384)(hu:∀z∈us,z.natAbs<2 ^ 6)(lu:us.length<=3904):Okd 100000 (dD rows ps us):=by
 have a1:Shx ((7 * 64+1) * 61) (dR rows):=sU (fun d hd=>by
  obtain⟨r,hr',rfl⟩:=bC.mp hd
  exact pG (k:=6) (hr r hr').2 (by decide) (by decide) (dY (hr r hr').1)) (by rw[af];exact lr)
 have a2:Shx ((62+1) * 384) (dP ps):=sU (fun d hd=>by
  obtain⟨r,hr',rfl⟩:=bC.mp hd
  exact uD (hp r hr').1 (hp r hr').2) (by rw[af];exact lp)
 have a3:=(pG (k:=6) hu (by decide) (by decide) lu).1
 obtain⟨sh,lv,dp,_⟩:=oh (m:=30000) (ds:=[dR rows,dP ps,dI us]) fun d hd=>by
  simp at hd;rcases hd with rfl|rfl|rfl
  ·exact⟨a1.sh,a1.lv,a1.dp,by have:=a1.wt;lia⟩
  ·exact⟨a2.sh,a2.lv,a2.dp,by have:=a2.wt;lia⟩
  ·exact⟨a3.sh,a3.lv,a3.dp,by have:=a3.wt;lia⟩
 refine⟨by simpa only [dD,PyData.showable] using sh,by simpa only [dD,PyData.leavesShort] using lv,?_,?_⟩
 ·simp only[dD,PyData.depth];lia
 ·simp only[dD,PyData.weight,PyData.weightAll];have w1:=a1.wt;have w2:=a2.wt;have w3:=a3.wt
  lia
theorem qE {N:Addr->Prop}{H:Hp}:∀{zs:List Int},DVs N H (zs.map V.int) (zs.map PyData.int)
 | []=>.nil
 | z::zs=>.cons (.int z) qE
theorem tQ {a}(h:H a=some (.lst (zs.map V.int))):DV (fun _=>False) H (.ref a) (dI zs):=.lst id h qE
theorem qD {H:Hp}:∀{as:List Addr} {rows:List (List Int)},LL H as rows->DVs (fun _=>False) H (as.map V.ref) (rows.map dI)
 | [],[],_=>.nil
 | [],_::_,h=>nomatch h.1
 | _::_,[],h=>nomatch h.1
 | a::as,r::rows,h=>.cons (tQ (h.2 0 a r rfl rfl)) (qD ⟨Nat.succ.inj h.1,fun j t x e f=>h.2 (j+1) t x e f⟩)
theorem tP {H:Hp}:∀{ts:List Addr} {ps:List (Int×Int)},jy H ts ps->DVs (fun _=>False) H (ts.map V.ref) (ps.map fun p=>.tuple [.int p.1,.int p.2])
 | [],[],_=>.nil
 | [],_::_,h=>nomatch h.1
 | _::_,[],h=>nomatch h.1
 | a::as,r::rows,h=>.cons (.tup id (h.2 0 a r rfl rfl) (.cons (.int _) (.cons (.int _) .nil))) (tP ⟨Nat.succ.inj h.1,fun j t x e f=>h.2 (j+1) t x e f⟩)
theorem BV {a l3 ps}{us:List Int}(h:H a=some (.lst [.ref l1,.ref l2,.ref l3]))(h1:H l1=some (.lst (as.map V.ref)))(ll:LL H as rows)(h2:H l2=some (.lst (ts.map V.ref)))(tu:jy H ts ps)(h3:H l3=some (.lst (us.map V.int))):DV (fun _=>False) H (.ref a) (dD rows ps us):=
 .lst id h (.cons (.lst id h1 (qD ll)) (.cons (.lst id h2 (tP tu)) (.cons (tQ h3) .nil)))
theorem wf {p:Int}(h:p∈unp f rows i):∃r∈rows,p∈r:=by
 unfold unp at h;rcases aT.mp h with h|h
 ·cases e:rows[0]? with
  | none=>rw[e] at h;cases h
  | some r=>rw[e] at h;exact⟨r,aK e,mem_of_mem_drop h⟩
 ·obtain⟨j,_,h⟩:=mem_flatMap.mp h;have h:=(bZ.mp h).1;cases e:rows[j+1]? with
  | none=>rw[e] at h;cases h
  | some r=>rw[e] at h;exact⟨r,aK e,h⟩
def core (n:ND):ND:={ n with ho:=none,wr:=false }
def crf (f:Int->Option ND):Int->Option ND:=fun p=>(f p).map core
theorem Chn.core {a}(x:Chn f lv seen st a):Chn (crf f) lv seen st a:=by
 induction x with
 | no s=>exact .no s
 | off s p h=>
  refine .off s p fun n e hn=>?_;obtain⟨m,em,rfl⟩:=bt.mp e;exact h m em hn
 | on e hn hl _ ih=>exact .on (n:=K31.core _) (by unfold crf;rw[e];rfl) hn hl ih
theorem uX {ch}:nxt (crf f) ch=nxt f ch:=by
 cases ch with
 | nil=>rfl
 | cons p _=>
  show ((f p).map K31.core).bind _=(f p).bind _;cases f p<;>rfl
theorem Lvs.core {k:Nat}{a:List (List Int)}(x:Lvs f k seen st a):Lvs (crf f) k seen st a:=by
 induction x with
 | z h=>exact .z h.core
 | s h _ ih=>exact .s h.core (by rw[uX];exact ih)
theorem Lvs.same {g:Int->Option ND}(e:crf f=crf g){k:Nat}{a b:List (List Int)}(x:Lvs f k seen st a)(y:Lvs g k seen st b):a=b:=x.core.det (by rw[e];exact y.core)
theorem pS:f_ (crf f) r=f_ f r:=by
 unfold f_;congr 1
 funext p
 show (match (f p).map K31.core with|some n=>n.ks.zip n.gs|none=>[])=_;cases f p<;>rfl
theorem uL {g:Int->Option ND}(e:crf f=crf g):f_ f r=f_ g r:=by rw[<- pS,e,pS]
theorem m8:gu (crf f) r=gu f r:=by
 unfold gu;congr 1
 funext p
 show (match (f p).map K31.core with|some n=>n.gs|none=>[])=_;cases f p<;>rfl
theorem uv {g:Int->Option ND}(e:crf f=crf g):unp f rows i=unp g rows i:=by
 have k:∀r,gu f r=gu g r:=fun r=>by rw[<- m8,e,m8]
 unfold unp;simp only[k]
theorem tV {m n:ND}(e:core m=core n):m.lv=n.lv/\m.ks=n.ks/\m.gs=n.gs:=⟨show (core m).lv=(core n).lv by rw[e],show (core m).ks=(core n).ks by rw[e],show (core m).gs=(core n).gs by rw[e]⟩
def Nu (h h' H:Hp)(u:Addr):Prop:=h' u=none/\(h u=none->H u=none)
theorem Nu.of (c:Chg h h' H H')(f:H' u=none):Nu h h' H u:=⟨c.sm.free f,fun n=>by
 cases e:H u with
 | none=>rfl
 | some o=>have:=c.fr u o e n;rw[f] at this;cases this⟩
theorem Chg.wr (c:Chg h h' H H')(n:Nu h h' H u):Chg h h' H (L2.upd H' u o):=⟨fun b x e=>by
 rw[ak (fun w=>by rw[w,n.1] at e;cases e)];exact c.sm _ _ e,fun b x e z=>by
 rw[ak (fun w=>by rw[w] at e z;rw[n.2 z] at e;cases e)];exact c.fr b x e z,c.nw⟩
structure Hd (c:Cs)(a a':TA)(h':Hp)(x:Addr)(M M':MS)(s:Int)(n n':ND):Prop where
 t:IsT c a' h' x M'
 R:M'.R=M.R
 tp:M'.top=M.top
 o:∀q,q≠s->M'.nd q=M.nd q
 e:M'.nd s=some n'
 cr:core n'=n
 b:M'.b<=M.b+3
 kv:KvS a a'
section
variable {t:Nat}{x:Addr}{M':MS}{top s:Int}{n:ND}
theorem Hd.crf (D:Hd c a a' h' x M M' s n n')(L:Lw c t B nb H p x d a h g M top kvs ps f)(hs:s∈ps)(en:f s=some n):crf M'.at=crf f:=funext fun y=>by
 show (M'.at y).map core=(f y).map core;by_cases ey:y=s
 ·rw[ey,en,MS.at_of (by rw[D.R];exact(L.tm.us s).mpr hs) D.e];rw[<- D.cr];rfl
 ·rw[<- L.at y];unfold MS.at
  rw[D.R,D.o y ey]
theorem v4 {g:Int->Option ND}(e:K31.crf f=K31.crf g){m:ND}(h:f y=some m):∃m0,g y=some m0/\core m0=core m:=by
 have:=congrFun e y;unfold K31.crf at this;rw[h] at this;exact bt.mp this.symm
theorem Hd.look (D:Hd c a a' h' x M M' s n n')(L:Lw c t B nb H p x d a h g M top kvs ps f)(hs:s∈ps)(en:f s=some n)(t4:t<=4){nt:ND}{k:Nat}(ent:f top=some nt)(hk:nt.lv=k):xV M' top k/\(∀p n,M'.at p=some n->n.lv=0->n.gs.length=n.ks.length/\n.ks.length<=6)/\(∀p n,M'.at p=some n->n.gs.length<=7):=by
 have cr:=D.crf L hs en
 have get:∀{y:Int} {m:ND},M'.at y=some m->∃m0,NOk t m0/\m0.lv=m.lv/\m0.ks=m.ks/\m0.gs=m.gs:=fun {y m} e=>by
  obtain⟨m0,e0,ec⟩:=v4 cr e;exact⟨m0,L.tm.nok y m0 e0,tV ec⟩
 refine⟨⟨by rw[D.R];exact L.tm.ok,fun y hy=>?_,?_,D.tp.trans L.tm.tp,?_,?_,fun y m e w z=>?_⟩,fun y m e w=>?_,fun y m e=>?_⟩
 ·rw[D.R] at hy;by_cases ey:y=s
  ·rw[ey];exact⟨n',D.e⟩
  ·obtain⟨m,_,_,e2,_⟩:=L.nd ((L.tm.us y).mp hy);rw[D.o y ey];exact⟨m,e2⟩
 ·rw[D.R];have h2:M.R.us.length<=M.R.places.length:=by unfold RS.places;rw[am,am];lia
  have:=L.tm.fw
  lia
 ·obtain⟨m0,e0,ec⟩:=v4 cr.symm ent;exact⟨m0,e0,by rw[(tV ec).1,hk]⟩
 ·have:=(L.tm.nok top nt ent).lv;lia
 ·obtain⟨m0,no,e1,e2,e3⟩:=get e;have:=(no.gi (by lia)).1;rw[e3,z] at this;cases this
 ·obtain⟨m0,no,e1,e2,e3⟩:=get e;rw[<- e2,<- e3];exact⟨(no.gl (by lia)).1,no.ks.l⟩
 ·obtain⟨m0,no,e1,e2,e3⟩:=get e;rw[<- e3];have:=no.ks.l;by_cases z:m0.lv=0
  ·have:=(no.gl z).1;lia
  ·have:=(no.gi z).1;lia
end
def okE (f:Int->Option ND)(ps:List Int)(y:Int):Bool:=match f y with
 | some n=>match n.rt with
  | none=>true
  | some r=>decide (r∈ps)
 | none=>false
inductive spRight (c:Cs)(vs:List V)(H:Hp)(Q:VK)(E:XK):Prop
 | mk (t B nb:Nat)(p x d:Addr)(a:TA)(h g:Hp)(M:MS)(top:Int)(kvs:List (Key×V))(ps:List Int)(f:Int->Option ND):vs=[.ref x,.ref d,.int top]->Lw c t B nb H p x d a h g M top kvs ps f->t<=4->B<=300 ->
   (∀a' h' M' H',Lw c t (B+5) nb H' p x d a' h' g M' top kvs ps f->Frm h g h' g p H H'->Q (.bl true) H')->spRight c vs H Q E
theorem qc:Ok F F.r.d__law_right 11 (spRight c):=by
 have T:=F.r.T;have C_Tree:=F.cT;refine F.r.d__law_right.go fun sc H Q hr h=>?_;obtain⟨t,B,nb,p,x,d,a,h,g,M,top,kvs,ps,f,rfl,L,t4,B3,q⟩:=h;have lps:=L.len;have hu:=hr.units0
 refine⟨_,(ad (cD sc 3 (cc (zc F) hr (pa2 (pv 1) (pv 2))))
  (ad (cD sc 4 (bw cy))
  (ad (dC PassesOwn.never rfl (dm (pix aS (pv 3) (ii eX ap))) (eO sc 5)
   (ao (a_ (fU aX slot_list_extend type_list_extend jZ (pv 4) (pa1 (qQ (hr.hd rfl) rfl T.n_list rfl F.r.nz dX qH (pa2 (pix aS (dL (dt hr) (pv 1) (pv 5) (fun _ _=>rfl)) ap) (pix aS (dL (dt hr) (pv 1) (pv 5) (fun _ _=>rfl)) ap))))))))
  (ad (eT (i:=6) (dE ["_law_model_here"] [1]) rfl (dm (bN hV (pix aS (pv 3) (ii eX ap)) (aR (gY (hr.hd rfl)) rfl T.n_sorted gQ (pa1 (pv 1))))) (fun _ _ _ _ _=>(PTs.one (PW.pt (jP (pc jq (pix (jF (K:=K) rfl) (dL (dt hr) (pv 1) (pv 0) (fun _ _=>rfl)) ap) bV) (iC (dF mO (pix (jF (K:=K) rfl) (dL (dt hr) (pv 1) (pv 0) (fun _ _=>rfl)) ap) (pv 1) (by with_unfolding_all rfl))))))) (fun _ _ _ _ _=>(pv 0)) sc.nd rfl rfl)
  (ad (cD sc 7 (pix aS (bN hV (pv 6) (bw (pa1 (pv 2)))) ap))
  (ad (cD sc 8 (dj dQ (dL (dt hr) (pv 1) (pv 7) (fun _ _=>rfl)) (dJ ap) (dJ ap)))
  (ad (dC PassesOwn.never rfl (da rfl T.n_range (pa1 ap)) (eO sc 9)
   (ad (bT (pc fJ (pv 9) ap)
   (ad (a_ (e_ (pv 0) C_Tree (jX F) hr (pa2 (pv 7) ap)))
  (ao (bT (pc (kK hu) (pv 6) (bw cy))
   (ao (a_ (e_ (pv 0) C_Tree (kO F) hr (pa5 (pv 7) ap (e_ (pv 0) C_Tree (iM F) hr (pa1 (pv 7))) (pix aS (pv 8) ap) (pix aS (pv 8) ap)))))
   bd)))
   bd)
  (ad (cD sc 10 (bw (pa3 (cc (jU F) hr (pa1 (pv 0))) (cc (uO F) hr (pa1 (pv 0))) (cc (oA F) hr (pa1 (pv 0))))))
  (ad (bT (pc qR (aR (kY hr.gd hr.units) rfl T.n_repr t_ (pa1 (pv 10))) (aR (kY hr.gd hr.units) rfl T.n_repr t_ (pa1 (bw (pa3 (pv 3) (pv 4) (cc (wZ F) hr (pa2 (pv 1) (pv 3))))))))
   (ao (bc fh))
   bd)
  (ad (a_ (sy aX slot_list_clear type_list_clear lV (pix aS (pix aS (pv 10) ap) ap)))
  (ad (a_ (sy aX slot_list_clear type_list_clear lV (pix aS (pv 10) ap)))
  (ad (a_ (sy aX slot_list_clear type_list_clear lV (pix aS (pv 10) ap)))
  (ao (a_ (fU aX PySem.F.slot_list_append PySem.F.type_list_append cK (pix aS (pv 10) ap) (pa1 ap)))))))))))
  (ad (a_ (e_ (pv 0) C_Tree (mR F) hr (pa2 (pv 7) ap)))
  (ao (bc fh)))))))))),?_⟩
 walk;obtain⟨nt,qt,ent,_,nont,_⟩:=L.nd L.tm.tin;have hl0:=nont.lv;obtain⟨k,hk⟩:∃k:Nat,nt.lv=k:=⟨nt.lv.toNat,by lia⟩
 have gsn:∀p n,f p=some n->0<n.lv->n.gs≠[]:=fun y n e w z=>by
  have:=((L.tm.nok y n e).gi (by lia)).1;rw[z] at this;cases this
 refine⟨d,kvs,ps,f,g,top,nt,k,rfl,L.m.m,L.m.s,ent,hk,by lia,by lia,gsn,fun rows lr as H1 lvs flr fas elr ll rl S1=>?_⟩;walk;refine⟨sz,fun lp flp=>?_⟩;have S2:aQ H (upd H1 lp (.lst [])):=S1.trans (aQ.upd flp);have e2:upd H1 lp (.lst []) lp=some (.lst []):=ae;have elr2:upd H1 lp (.lst []) lr=_:=cm flp elr;have ll2:LL (upd H1 lp (.lst [])) as rows:=ll.keep fun b _ o z=>cm flp z
 have flp0:=S1.free flp
 have nlr:∀b∈lr::as,b≠lp:=fun b hb=>by
  rcases bm.mp hb with rfl|hb
  ·exact ah elr flp
  ·obtain⟨i,hi⟩:=List.getElem?_of_mem hb;have il:i<rows.length:=by rw[<- ll.1];exact(aq.mp hi).1
   exact ah (ll.2 i b _ hi (aa il)) flp
 generalize upd H1 lp (.lst [])=H2 at *;obtain⟨r,er,rm⟩:=lvs.last;obtain⟨b,eb,hb⟩:=ll2.at er;have nb2:=nlr b (.tail _ (aK eb));have few:=rl r (aK er);have lf:∀p n,f p=some n->n.lv=0->n.gs.length=n.ks.length/\n.ks.length<=6:=fun y n e w=>⟨((L.tm.nok y n e).gl w).1,(L.tm.nok y n e).ks.l⟩;walk
 refine cG elr2 (mj (by rw[af,ll2.1,lvs.len]) (by rw[aB,eb];rfl)) ?_;walk
 refine pM (xs:=r.map V.int) (fun i σ H3=>∃ts o5,σ=[some (.ref x),some (.ref d),some (.int top),some (.ref lr),some (.ref lp),o5,none,none,none,none,none]/\aQ H H3/\H3 lp=some (.lst (ts.map V.ref))/\jy H3 ts (f_ f (r.take i))/\(∀u o,u≠lp->H2 u=some o->H3 u=some o)/\∀u∈ts,H u=none) ⟨[],none,rfl,S2,e2,⟨rfl,nofun⟩,fun u o _ z=>z,nofun⟩ (fun i σ H3 _ z=>let⟨_,_,_,_,_,_,e,_⟩:=z;e b _ nb2 hb) ?_ ?_
 ·rintro i v σ H3 ev ⟨ts,o5,rfl,S3,e3,tu,k3,fts⟩;rw[aB] at ev;obtain⟨y,ep,rfl⟩:=bt.mp ev;obtain⟨n,en,elv⟩:=rm y (aK ep);have yp:=byContradiction fun w=>by rw[L.m.m.o y w] at en;cases en
  obtain⟨n',qa,en',_,no,eq,kl,gl,i1,i2,i3⟩:=L.nd yp;rw[en] at en';cases en';have m3:=L.m.s.trans S3;have hd3:=m3 _ _ L.m.m.d;obtain⟨lg,lk6⟩:=lf y n en elv;walk;unfold pE;have j1:=m3 _ _ i1;have j3:=m3 _ _ i3;walk;refine dM (k:=Sum.inl y) hd3 eq ?_;walk;refine dM (k:=Sum.inl y) hd3 eq ?_;walk
  refine⟨kl,gl,_,_,rfl,SqL.of (m3 _ _ i2),SqL.of j3,by rw[af,af,lg],fun l us H4 fl fu S4 el lu tu4=>?_⟩;have pl:=lH lf (ps:=r.take i) fun z hz=>rm z (mem_of_mem_take hz);have tl:(r.take i).length<=64:=by rw[bo];lia
  have zl:(n.ks.zip n.gs).length<=6:=by rw[length_zip];lia
  rw[af] at lu
  have tu5:jy H4 us (n.ks.zip n.gs):=⟨by rw[length_zip,lg,min_self,lu],fun j u z e1 e2=>by
   obtain⟨z1,z2⟩:=getElem?_zip_eq_some.mp e2
   exact tu4 j u _ _ e1 (by rw[aB,z1];rfl) (by rw[aB,z2];rfl)⟩
  walk;refine wD (S4 _ _ e3) el (by rw[af,af,tu.1,tu5.1];have:=bp;lia) ?_;refine⟨ts++us,_,rfl,fun b' o z=>?_,by rw[ae,aW],?_,fun u o nu z=>?_,fun u z=>(aT.mp z).elim (fts u) fun z=>S3.free (fu u z)⟩
  ·rw[ak (ah z flp0)];exact S4 _ _ (S3 _ _ z)
  ·rw[dO ep,kG en];have kp:∀b' xs,H4 b'=some (.tup xs)->upd H4 lp (.lst (ts.map V.ref++us.map V.ref)) b'=some (.tup xs):=fun b' xs z=>by rw[ak (cJ z (S4 _ _ e3) nofun)];exact z
   exact(lB (tu.keep fun b' xs z=>S4 _ _ z) tu5).keep kp
  ·rw[ak nu];exact S4 _ _ (k3 u o nu z)
 ·rintro σ H3 ⟨ts,o5,rfl,S3,e3,tu,k3,fts⟩;rw[af,take_length] at tu;walk;have elr3:=k3 _ _ (nlr lr (.head _)) elr2;have ll3:LL H3 as rows:=ll2.keep fun u hu o z=>k3 u o (nlr u (.tail _ hu)) z;have m3:=L.m.s.trans S3;refine fE (fun J H'=>∃lz ns,J=Itl K lz/\ns.Perm ps/\H' lz=some (.lst ((r++ns).map V.int))/\aQ H3 H') (fun R z=>?_) ?_
  ·walk;refine cG elr3 (mj (by rw[af,ll3.1,lvs.len]) (by rw[aB,eb];rfl)) ?_;walk;refine⟨d,kvs,ps,rfl,.inl (m3 _ _ L.m.m.d),L.m.m.k,by lia,fun ns pm so l4 f4=>?_⟩;refine kz (cm f4 (k3 _ _ nb2 hb)) ae (by rw[af,af,pm.length_eq];have:=bp;lia) fun l5 f5=>?_;walk
   exact z _ _ ⟨l5,ns,rfl,pm,by rw[ae,aW],(aQ.upd f4).trans (aQ.upd f5)⟩
  rintro J H4 ⟨lz,ns,rfl,pm,e4,S4⟩
  have rps:∀y,y∈r++ns->y∈ps:=fun y hy=>by
   rcases aT.mp hy with w|w
   ·obtain⟨n,en,_⟩:=rm y w;exact byContradiction fun w=>by rw[L.m.m.o y w] at en;cases en
   ·exact pm.mem_iff.mp w
  refine jx (J:=Itl K lz) (H1:=H4) ((r++ns).map V.int) (fun v=>match v with|.int y=>okE f ps y|_=>false) (fun v=>v) (fun R z=>z) (j_ (tp:=false) e4) ?_ ?_ (by rw[af,am,pm.length_eq];lia) ?_
  ·intro v hv H5 R S5 rr;obtain⟨y,hy,rfl⟩:=bC.mp hv;obtain⟨n,qa,en,_,no,eq,kl,gl,i1,i2,i3⟩:=L.nd (rps y hy);have m5:=m3.trans (S4.trans S5);have hd5:=m5 _ _ L.m.m.d;have j1:=m5 _ _ i1;walk;refine dM (k:=Sum.inl y) hd5 eq ?_;walk;refine⟨rfl,?_⟩;have okv:okE f ps y=match n.rt with|none=>true|some r=>decide (r∈ps):=by unfold okE;rw[en]
   cases er:n.rt with
   | none=>
    rw[er] at okv;dsimp only at okv;dsimp only[oV];refine qb (ik rfl ?_);have:=rr H5 (aQ.refl _)
    rwa[show (match V.int y with|.int y=>okE f ps y|_=>false)=true from okv] at this
   | some r1=>
    rw[er] at okv;dsimp only at okv;dsimp only[oV];refine qb (iW nofun ?_);rw[er] at j1;walk;refine dM (k:=Sum.inl y) hd5 eq ?_;walk;refine⟨d,kvs,rfl,.inl hd5,.inl ⟨.inl r1,rfl,?_⟩⟩;rw[aA ay,L.m.m.val];refine qb ?_;have:=rr H5 (aQ.refl _)
    rwa[show (match V.int y with|.int y=>okE f ps y|_=>false)=decide (r1∈ps) from okv] at this
  ·intro y hy _ H5 R S5 rr;exact⟨y,rfl,rr H5 (aQ.refl _)⟩
  intro D H5 fD S5 eD
  have eD':H5 D=some (.lst (((r++ns).filter (okE f ps)).map V.int)):=by
   rw[eD,map_id',filter_map];rfl
  generalize hso:(r++ns).filter (okE f ps)=so at *;walk
  obtain⟨spot,rest,esp⟩:∃y l,so++[top]=y::l:=by
   cases so with
   | nil=>exact⟨_,_,rfl⟩
   | cons y l=>exact⟨y,_,rfl⟩
  have som:∀y∈so,y∈ps/\okE f ps y=true:=fun y hy=>by
   rw[<- hso] at hy;obtain⟨z1,z2⟩:=bZ.mp hy;exact⟨rps y z1,z2⟩
  have spp:spot∈ps:=by
   have:spot∈so++[top]:=by rw[esp];exact .head _
   rcases aT.mp this with w|w
   ·exact(som _ w).1
   ·rw[au.mp w];exact L.tm.tin
  have spk:so≠[]->okE f ps spot=true:=fun w=>by
   cases so with
   | nil=>exact aY rfl w
   | cons y l=>cases esp;exact(som _ (.head _)).2
  have lso:so.length<=200:=by
   rw[<- hso];have:=bF (okE f ps) (r++ns);rw[am,pm.length_eq] at this
   lia
  refine⟨sz,fun l6 f6=>?_⟩;refine kz (cm f6 eD') ae (by rw[af];have:=bp;simp;lia) fun l7 f7=>?_;generalize hG:upd (upd H5 l6 _) l7 _=H7 at *;have S7:aQ H5 H7:=hG▸(aQ.upd f6).trans (aQ.upd f7);have e7:H7 l7=some (.lst ((spot::rest).map V.int)):=by rw[<- hG,ae,<- esp,aW];rfl
  obtain⟨n,qa,en,eMn,no,eq,kl,gl,i1,i2,i3⟩:=L.nd spp;have S37:=S4.trans (S5.trans S7);have S07:=S3.trans S37;have m7:=L.m.s.trans S07;walk;refine cG (v:=.int spot) e7 (kq rfl) ?_;walk;refine dM (k:=Sum.inl spot) (m7 _ _ L.m.m.d) eq ?_;walk;refine⟨qa,_,rfl,SqL.of (m7 _ _ i1),fun le f8=>?_⟩;have S8:aQ H7 (upd H7 le (.lst [oV n.hi,oV n.rt])):=aQ.upd f8
  have e8:upd H7 le (.lst [oV n.hi,oV n.rt]) le=some (.lst [oV n.hi,oV n.rt]):=ae;rw[show vo [.int n.lv,.ref kl,.ref gl,oV n.hi,oV n.rt] (some 3) (some 5)=[oV n.hi,oV n.rt] from rfl];generalize upd H7 le (.lst [oV n.hi,oV n.rt])=H8 at *;walk;have st8:aQ h H8:=L.st.trans (S07.trans S8);have S38:=S37.trans S8;have nin:∀{u:Addr},H u=none->h u=none:=fun e=>L.st.free e;have elr8:=S38 _ _ elr3
  have elp8:=S38 _ _ e3;have hD:h D=none:=L.st.free ((S3.trans S4).free fD);have hle:h le=none:=L.st.free (S07.free f8);have D0:Hd c a a h x M M spot n n:=⟨L.tr,rfl,rfl,fun _ _=>rfl,eMn,by have:=no.ho;have:=no.wr;cases n;dsimp only at *;subst_vars;rfl,by lia,KvS.refl⟩
  have okd:Okd 100000 (dD rows (f_ f r) (unp f rows k)):=by
   have rp:∀r'∈rows,∀z∈r',z.natAbs<2 ^ 6:=fun r' hr' z hz=>by
    obtain⟨m,em⟩:=lvs.mem r' hr' z hz;have zp:z∈ps:=byContradiction fun w=>by rw[L.m.m.o z w] at em;cases em
    have:=L.rg zp
    lia
   refine AX (fun r' hr'=>⟨rl r' hr',rp r' hr'⟩) (by rw[lvs.len];lia) (fun q hq=>?_) ?_ (fun z hz=>?_) ?_
   ·unfold f_ at hq;obtain⟨y,hy,hq⟩:=mem_flatMap.mp hq;obtain⟨m,em,ml⟩:=rm y hy;rw[em] at hq;have nm:=L.tm.nok y m em;obtain⟨q1,q2⟩:=q;have z1:=nm.ks.r q1 (of_mem_zip hq).1;have z2:=(nm.gl ml).2 q2 (of_mem_zip hq).2;unfold lh at z1;dsimp only
    lia
   ·have:=lH lf (ps:=r) rm
    lia
   ·obtain⟨r',hr',hz'⟩:=wf hz;exact rp r' hr' z hz'
   ·have:=jL (f:=f) rl k
    lia
  obtain⟨sh,esh⟩:∃sh,(dD rows (f_ f r) (unp f rows k)).shown=sh:=⟨_,rfl⟩
  have gs7f:∀y m,f y=some m->m.gs.length<=7:=fun y m e=>by
   have nm:=L.tm.nok y m e;have:=nm.ks.l;by_cases z:m.lv=0
   ·have:=(nm.gl z).1;lia
   ·have:=(nm.gi z).1;lia
  refine gA (by decide) (by decide) ?_
  refine iB (m:=2) (fun i σ H'=>∃(a':TA) (h':Hp) (M':MS) (n':ND) (o9 o10:Option V),σ=[some (.ref x),some (.ref d),some (.int top),some (.ref lr),some (.ref lp),o5,some (.ref D),some (.int spot),some (.ref le),o9,o10]/\Hd c a a' h' x M M' spot n n'/\n'.ho=(if i<2 then none else some 8)/\(i<2->M'=M)/\Chg h h' H8 H') ⟨a,h,M,n,none,none,rfl,D0,no.ho,fun _=>rfl,.refl st8⟩ ?_ ?_
  ·rintro i σ H' hi ⟨a1,h1,M1,n1,o9,o10,rfl,D1,ho1,eM1,c1⟩;have eM1:=eM1 hi;rw[eM1] at D1;rw[aH hi] at ho1;have en1:n1=n:=by have:=D1.e;rw[eMn] at this;exact(aw this).symm
   rw[en1] at D1;have spu:spot∈M.R.us:=(L.tm.us spot).mpr spp;have hx1:=c1.sm _ _ D1.t.x
   refine eK (fun σ' H2=>∃(a2:TA) (h2:Hp) (M2:MS) (n2:ND),σ'=[some (.ref x),some (.ref d),some (.int top),some (.ref lr),some (.ref lp),o5,some (.ref D),some (.int spot),some (.ref le),some (.int (0+(i:Int))),o10]/\Hd c a a2 h2 x M M2 spot n n2/\n2.ho=(if i+1<2 then none else some 8)/\(i+1<2->M2=M)/\Chg h h2 H8 H2) (fun N z=>?_) ?_
   ·walk;by_cases i1':i=1
    ·refine ik (by rw[i1'];rfl) ?_;walk;refine⟨a1,h1,x,M,spot,n,8,rfl,D1.t,c1.sm,L.tm.ok,eMn,spu,by have:=L.tm.fb;lia,by decide,by decide,no.ho,fun a2 h2 H2' kv2 t2 c2=>?_⟩;have c12:=c1.trans c2;have eD2:=c12.fr _ _ (S8 _ _ (S7 _ _ eD')) hD;have e82:=c12.fr _ _ e8 hle;have hx2:=c12.sm _ _ t2.x;walk;refine⟨sz,fun lq fq=>?_⟩;refine iZ (cm fq eD2) ae ?_
     generalize hG:upd H2' lq (.lst [])=Hq at *;have Sq:=sG hG fq;have cq:=c12.and Sq;have e8q:=Sq _ _ e82;have hxq:=Sq _ _ hx2;have ndp:∀(n2:ND) q,q≠spot->(M.put spot n2).nd q=M.nd q:=fun n2 q hq=>by show (if q=spot then _ else M.nd q)=_;rw[aA hq]
     have nds:∀(n2:ND),(M.put spot n2).nd spot=some n2:=fun n2=>by show (if spot=spot then _ else _)=_;rw[aH rfl]
     have crn:core n=n:=D1.cr;walk;cases hse:(so.map V.int).isEmpty with
     | true=>
      refine fY ?_;walk;exact z _ _ ⟨a2,h2,_,_,rfl,⟨t2,rfl,rfl,ndp _,nds _,crn,by show M.b+1<=_;lia,D1.kv.trans kv2⟩,by rw[i1'];rfl,fun w=>aY w (by lia),cq⟩
     | false=>
      refine gC ?_;walk;refine⟨a2,h2,x,_,spot,_,rfl,t2,cq.sm,L.tm.ok,spu,nds _,fun pg hpg=>?_⟩;walk;have sne:so≠[]:=fun w=>by rw[w] at hse;cases hse
      refine⟨a2,h2,x,_,spot,_,8,pg,n.ks,n.gs,n.hi,n.rt,rfl,t2,cq.sm,L.tm.ok,nds _,spu,by show M.b+1<=_;have:=L.tm.fb;lia,by decide,by decide,rfl,hpg,?_,fun a3 h3 H3' kv3 t3 c3=>?_⟩
      ·rcases no.ed with w|⟨k1,r1,w1,w2,w3⟩
       ·exact .inl w
       ·have ok1:=spk sne;unfold okE at ok1;rw[en] at ok1;dsimp only at ok1;rw[w2] at ok1;exact .inr ⟨k1,r1,w1,w2,w3,(L.tm.us r1).mpr (bB ok1)⟩
      walk;exact z _ _ ⟨a3,h3,_,({ n with ho:=some 8,wr:=true }:ND),rfl,⟨t3,rfl,rfl,fun q hq=>by show (if q=spot then _ else _)=_;rw[aA hq];exact ndp _ q hq,by show (if spot=spot then _ else _)=_;rw[aH rfl],crn,by show M.b+1+1<=_;lia,(D1.kv.trans kv2).trans kv3⟩,by rw[i1'];rfl,fun w=>aY w (by lia),cq.trans c3⟩
    ·have i0:i=0:=by lia
     refine iW (fun w=>i1' (by have:=V.int.inj w;lia)) ?_;walk;exact z _ _ ⟨a1,h1,M,n,rfl,D1,by rw[i0];exact no.ho,fun _=>rfl,c1⟩
   rintro σ' H2 ⟨a2,h2,M2,n2,rfl,D2,ho2,eM2,c2⟩;have hx2:=c2.sm _ _ D2.t.x;obtain⟨look,lf2,gs7⟩:=D2.look L spp en t4 ent hk;have cr2:=D2.crf L spp en;walk;refine⟨a2,h2,x,M2,top,k,rfl,D2.t,c2.sm,look,fun rows2 l1 as1 H3' lvs1 fl1 fas1 nd1 el1 ll1 rl1 S31=>?_⟩;rw[Lvs.same cr2 lvs1 lvs] at ll1;have c3:=c2.and S31;have hx3:=S31 _ _ hx2;walk
   refine⟨a2,h2,x,M2,top,k,rfl,D2.t,c3.sm,look,lf2,fun rows3 r3 l2 ts2 H4' lvs3 er3 fl2 el2 tu2 S42=>?_⟩;have er3':r3=r:=by have:=Lvs.same cr2 lvs3 lvs;rw[this,er] at er3;exact(aw er3).symm
   rw[er3',uL cr2] at tu2;have c4:=c3.and S42;walk;refine⟨a2,h2,x,M2,top,k,rfl,D2.t,c4.sm,look,gs7,fun rows4 l3 H5' lvs4 fl3 el3 S53=>?_⟩;rw[Lvs.same cr2 lvs4 lvs,uv cr2] at el3;have c5:=c4.and S53;walk;refine⟨sz,fun l4 fl4=>?_⟩;have S6:aQ H5' (upd H5' l4 (.lst [.ref l1,.ref l2,.ref l3])):=aQ.upd fl4
   have el4:upd H5' l4 (.lst [.ref l1,.ref l2,.ref l3]) l4=some (.lst [.ref l1,.ref l2,.ref l3]):=ae;generalize upd H5' l4 _=H6' at *;have c6:=c5.and S6;have S36:=S42.trans (S53.trans S6);have ll6:LL H6' as1 rows:=ll1.keep fun u _ o z=>S36 _ _ z;have tu6:jy H6' ts2 (f_ f r):=tu2.keep fun b' xs z=>(S53.trans S6) _ _ z;have el16:=S36 _ _ el1;have el26:=(S53.trans S6) _ _ el2
   have el36:=S6 _ _ el3;walk;refine⟨_,_,_,rfl,BV el4 el16 ll6 el26 tu6 el36,okd,?_⟩;rw[esh];walk;have k68:∀{u:Addr} {o:HO},H8 u=some o->h u=none->H6' u=some o:=fun {u o} e z=>c6.fr _ _ e z;have elr6:=k68 elr8 (nin flr);have elp6:=k68 elp8 (nin flp0);have llr6:LL H6' as rows:=ll3.keep fun u hu' o z=>k68 (S38 _ _ z) (nin (fas u hu'))
   have tur6:jy H6' ts (f_ f r):=⟨tu.1,fun j t x a b=>k68 (S38 _ _ (tu.2 j t x a b)) (nin (fts t (aK a)))⟩;refine⟨d,kvs,ps,f,g,lr,as,rows,k,rfl,L.m.m,c6.keep L.dis (L.m.s.trans (S07.trans S8)),elr6,llr6,lvs.len,by lia,fun r' hr'=>⟨rl r' hr',lvs.mem r' hr'⟩,gs7f,fun lu H7' flu elu S76=>?_⟩;walk;refine⟨sz,fun l5 fl5=>?_⟩
   have S87:aQ H6' (upd H7' l5 (.lst [.ref lr,.ref lp,.ref lu])):=S76.trans (aQ.upd fl5);have el5:upd H7' l5 (.lst [.ref lr,.ref lp,.ref lu]) l5=some (.lst [.ref lr,.ref lp,.ref lu]):=ae;have elu8:upd H7' l5 (.lst [.ref lr,.ref lp,.ref lu]) lu=_:=cm fl5 elu;generalize upd H7' l5 _=H8' at *;walk
   refine⟨_,_,_,rfl,BV el5 (S87 _ _ elr6) (llr6.keep fun u _ o z=>S87 _ _ z) (S87 _ _ elp6) (tur6.keep fun b' xs z=>S87 _ _ z) elu8,okd,?_⟩;rw[esh];walk;rw[av rfl];refine fY ?_;have c8:=c6.and S87;obtain⟨b0,eb0⟩:∃b0,as1[0]?=some b0:=⟨_,aa (by rw[ll1.1,lvs.len];lia)⟩;have mb0:=aK eb0;obtain⟨fb0,nb01⟩:=fas1 b0 mb0
   obtain⟨r0,er0⟩:∃r0,rows[0]?=some r0:=⟨_,aa (by rw[lvs.len];lia)⟩;have hb0:=S87 _ _ (ll6.2 0 b0 r0 eb0 er0);have hl18:=S87 _ _ el16;have hl28:=S87 _ _ el26;have hl38:=S87 _ _ el36;have hl48:=S87 _ _ el4;have nb0:∀{u:Addr},H3' u=none->b0≠u:=fun fu=>ah (ll1.2 0 b0 r0 eb0 er0) fu;have n02:=nb0 fl2;have n03:=nb0 (S42.free fl3);have n04:=nb0 (S42.free (S53.free fl4))
   have n12:l1≠l2:=ah el1 fl2;have n13:l1≠l3:=ah el1 (S42.free fl3);have n14:l1≠l4:=ah el1 (S42.free (S53.free fl4));have n23:l2≠l3:=ah el2 fl3;have n24:l2≠l4:=ah el2 (S53.free fl4);have N0:Nu h h2 H8 b0:=.of c2 fb0;have N1:Nu h h2 H8 l1:=.of c2 fl1;have N2:Nu h h2 H8 l2:=.of c3 fl2;have N3:Nu h h2 H8 l3:=.of c4 fl3;walk;unfold Af;walk
   refine cG hl18 (kq (by rw[aB,eb0];rfl)) ?_;refine⟨.inl ⟨rfl,_,SqL.of hb0⟩,b0,_,rfl,rfl,hb0,?_⟩;have c9:=K31.Chg.wr (o:=.lst []) c8 N0;have h19:upd H8' b0 (.lst []) l1=_:=(ak nb01.symm).trans hl18;have h29:upd H8' b0 (.lst []) l2=_:=(ak n02.symm).trans hl28;have h39:upd H8' b0 (.lst []) l3=_:=(ak n03.symm).trans hl38
   have h49:upd H8' b0 (.lst []) l4=_:=(ak n04.symm).trans hl48;generalize upd H8' b0 (.lst [])=H9' at *;walk;unfold Af;walk;refine⟨.inl ⟨rfl,_,SqL.of h19⟩,l1,_,rfl,rfl,h19,?_⟩;have c10:=K31.Chg.wr (o:=.lst []) c9 N1;have h210:upd H9' l1 (.lst []) l2=_:=(ak n12.symm).trans h29;have h310:upd H9' l1 (.lst []) l3=_:=(ak n13.symm).trans h39
   have h410:upd H9' l1 (.lst []) l4=_:=(ak n14.symm).trans h49;generalize upd H9' l1 (.lst [])=H10' at *;walk;unfold Af;walk;refine⟨.inl ⟨rfl,_,SqL.of h210⟩,l2,_,rfl,rfl,h210,?_⟩;have c11:=K31.Chg.wr (o:=.lst []) c10 N2;have h311:upd H10' l2 (.lst []) l3=_:=(ak n23.symm).trans h310;have h411:upd H10' l2 (.lst []) l4=_:=(ak n24.symm).trans h410
   generalize upd H10' l2 (.lst [])=H11' at *;walk;exact dh h311 (by rw[af];have:=jL (f:=f) rl k;have:(5000:Nat)<=sizeLine:=(by decide);lia) ⟨a2,h2,M2,n2,_,_,rfl,D2,ho2,eM2,K31.Chg.wr c11 N3⟩
  ·rintro σ H' ⟨a1,h1,M1,n1,o9,o10,rfl,D1,ho1,eM1,c1⟩;have hx1:=c1.sm _ _ D1.t.x;rw[aA (by decide)] at ho1;walk;refine⟨a1,h1,x,M1,spot,n1,8,rfl,D1.t,c1.sm,by rw[D1.R];exact L.tm.ok,D1.e,by rw[D1.R];exact(L.tm.us spot).mpr spp,by have:=D1.b;have:=L.tm.fb;lia,by decide,by decide,ho1,fun a2 h2 H2' b' kv2 hb' t2 c2=>?_⟩;have c12:=c1.trans c2;walk
   have n2:({ n1 with ho:=none,wr:=false }:ND)=n:=D1.cr;rw[n2] at t2;obtain⟨sg2,dis2,np2,bx2⟩:=dZ c12 L.dis (L.m.s.trans (S07.trans S8)) L.np ((L.bx.same S07).same S8);refine q a2 h2 _ H2' ⟨t2,c12.sm,⟨L.m.m,sg2,L.m.k⟩,dis2,?_,L.gd,np2,L.gp,bx2⟩ fun b o e z1 z2 _=>⟨c12.fr b o ((S07.trans S8) _ _ e) z1,c12.out z1 ((S07.trans S8) _ _ e),z2⟩
   have T2:=L.tm.upd (t':=t) (B':=B+5) (p:=spot) (M':={ M1 with b:=b' }.put spot n) (n':=n) (by lia) D1.R D1.tp (fun q hq=>by show (if q=spot then _ else M1.nd q)=_;rw[aA hq];exact D1.o q hq) (by show (if spot=spot then _ else _)=_;rw[aH rfl]) (by show b'+1<=_;have:=D1.b;have:=L.tm.fb;lia) (D1.kv.trans kv2) no
   rwa[show (fun x=>if x=spot then some n else f x)=f from funext fun y=>by by_cases z:y=spot;rw[aH z,z,en];rw[aA z]] at T2
inductive spLaw (K:Frag)(vs:List V)(H:Hp)(Q:VK)(E:XK):Prop
 | mk (a:Addr)(ns:List Int):vs=[.ref a]->SqL K H a (ns.map V.int)->ns.length<=63->(∀H',Q (.bl true) H')->spLaw K vs H Q E
def Sv (H0 H h g:Hp)(p s:Addr)(xs:List V):Prop:=∀o,H0 s=some o->(o=.lst xs\/∃u,o=.frz u (.lst xs))->H s=some o/\h s=none/\g s=none/\s≠p
theorem Sv.frm {s}(x:Sv H0 H h g p s xs)(F:Frm h g h' g' p H H'):Sv H0 H' h' g' p s xs:=fun o e k=>let⟨a,b,c,d⟩:=x o e k;let⟨a',b',c'⟩:=F s o a b c d;⟨a',b',c',d⟩
theorem Sv.sq {s}(x:Sv H0 H h g p s xs)(q:SqL K H0 s xs):SqL K H s xs:=by
 rcases q with q|q
 ·rcases q with q|⟨o,q⟩
  ·exact .inl (.inl (x _ q (.inl rfl)).1)
  ·exact .inl (.inr ⟨o,(x _ q (.inr ⟨_,rfl⟩)).1⟩)
 ·exact .inr q
theorem KB.ofS (f:H p=none)(S:aQ H H1):KB p H H1:=fun b o e _=>S _ _ e
theorem Lw.start {H3 H4 H5:Hp}{x s}{tp:Int}{n3:Nat}(t5:IsT c a h x M)(sh5:aQ h H5)(tm5:TM 0 100 a M tp ps f)(m4:Mdl g H4 d kvs ps f)(S5:aQ H4 H5)(ow5:Own H4 h)(B4:Box H4 p nb)(gn:∀b o,g b=some o->H3 b=none)(rg:∀x∈ps,0<=x/\x<35)(fo:∀x n,f x=some n->NOk 0 n/\(n.lv≠0->∀g∈n.gs,g∈ps/\g≠x))(k03:KB p H0 H3)(fp:H0 p=none)(k4:KB p H3 H4)(B3:Box H3 p n3):Lw c 0 100 nb H5 p x d a h g M tp kvs ps f/\Sv H0 H5 h g p s xs:=by
 have hn:∀{b:Addr} {o:HO},H4 b=some o->(∀C d f,o≠.ins C d f)->(∀xs,o≠.tup xs)->h b=none:=fun {b o} e k1 k2=>by
  rcases ow5 b with z|z|⟨C,d,f,z⟩|⟨xs,z⟩
  ·exact z
  ·rw[e] at z;cases z
  ·have:=sh5 _ _ z;rw[S5 _ _ e] at this;exact aY (aw this) (k1 _ _ _)
  ·have:=sh5 _ _ z;rw[S5 _ _ e] at this;exact aY (aw this) (k2 _)
 have gnn:∀{b:Addr} {o:HO},H3 b=some o->g b=none:=fun {b o} e=>by
  cases z:g b with
  | none=>rfl
  | some o'=>rw[gn b o' z] at e;cases e
 obtain⟨ys,ey⟩:=B4.lst;obtain⟨zs,ez⟩:=B3.lst;refine⟨⟨t5,sh5,⟨m4.m,m4.s.trans S5,m4.k⟩,ow5.dis sh5 m4.s (m4.s.trans S5) fun b o e=>?_,tm5,fun y n e=>?_,hn ey nofun nofun,gnn ez,B4.same S5⟩,fun o e kd=>?_⟩
 ·rcases m4.k b o e with⟨_,rfl⟩|⟨_,rfl⟩
  ·exact⟨nofun,nofun⟩
  ·exact⟨nofun,nofun⟩
 ·obtain⟨no,fg⟩:=fo y n e;have yp:=byContradiction fun w=>by rw[m4.m.o y w] at e;cases e
  intro lv;have fg:=fg lv
  have e0:eOf y n.gs=0:=by
   unfold eOf;rw[aA (fun w=>(fg y w).2 rfl),aA (fun w=>by have:=(rg _ (fg 99 w).1).2;lia)]
  have len:=iO (m:=ps) (bJ.mpr ⟨fun w=>(fg y w).2 rfl,((no.gi lv).2.2)⟩) fun z hz=>by
   rcases bm.mp hz with rfl|hz
   ·exact yp
   ·exact(fg z hz).1
  rw[bf] at len;exact⟨by lia,fun z hz=>.inl (by have:=(rg z (fg z hz).1).2;lia)⟩
 ·have np:s≠p:=fun w=>by rw[w,fp] at e;cases e
  have e3:=k03.get e np;have e4:=k4.get e3 np;refine⟨S5 _ _ e4,hn e4 ?_ ?_,gnn e3,np⟩
  ·rcases kd with rfl|⟨_,rfl⟩<;>exact nofun
  ·rcases kd with rfl|⟨_,rfl⟩<;>exact nofun
theorem zd:Ok F F.r.d_law 16 (spLaw K):=by
 have T:=F.r.T;have C_Tree:=F.cT;refine F.r.d_law.go fun sc H Q hr h=>?_;obtain⟨s,ns,rfl,hS,hz,k⟩:=h
 refine'⟨_,(ad (dC PassesOwn.never rfl (da rfl T.n_range (pa1 (aR (iS rfl) rfl T.n_max ko (pa2 ap (aR (iR rfl) rfl T.n_min nQ (pa2 (aR bj rfl T.n_len cS (pa1 (pv 0))) ap)))))) (eO sc 1)
   (ad (cD sc 2 (cc (ze F) hr (pa1 (cc (w_ F) hr (pa2 (pv 0) (pv 1))))))
  (ad (cD sc 3 (cc (bS F) hr (pa2 (pv 2) ap)))
  (ad (cD sc 4 (bN cH ap (cc (bS F) hr (pa2 (pv 2) ap))))
  (ad (iF (cc (uQ F) hr (pa2 (pv 2) (pv 4))) (gc rfl (bn (eO sc 5) (bn (eO sc 6) dS))))
  (ad (cD sc 7 (cc (uR F) hr (pa3 (pv 4) (pv 5) (pv 6))))
  (ad (bT (pc fJ (cc (bS F) hr (pa2 (pv 2) ap)) ap)
   (ao (a_ (e_ (pv 7) C_Tree (qW F) hr (pa1 ap))))
   bd)
  (ad (bT (cO (cv (cc (qc F) hr (pa3 (pv 7) (pv 5) (pv 6)))))
   (ao (bc fh))
   bd)
  (ao (dC PassesOwn.never rfl (da rfl T.n_range (pa1 (pv 3))) (eO sc 8)
   (ad (cD sc 6 (cc (xa F) hr (pa4 (pv 2) (pv 7) (pv 5) (pv 6))))
  (ao (bT (cO (cv (cc (qc F) hr (pa3 (pv 7) (pv 5) (pv 6)))))
   (ao (bc fh))
   bd)))))))))))))
  (ao (bc fh))),?_⟩
 walk;refine⟨s,_,rfl,.inl hS,?_⟩;walk;refine⟨_,_,rfl,?_⟩;walk;refine⟨_,_,rfl,?_⟩;walk;refine gA (by rw[af];lia) (by rw[af];lia) ?_;refine iB (fun i σ H'=>∃o1 o2 o3 o4 o5 o6 o7 o8,σ=[some (.ref s),o1,o2,o3,o4,o5,o6,o7,o8]/\SqL K H' s (ns.map V.int)) ⟨_,_,_,_,_,_,_,_,rfl,hS⟩ ?_ ?_
 ·rintro i σ H0 hi ⟨o1,o2,o3,o4,o5,o6,o7,o8,rfl,hS0⟩;walk;refine⟨s,i,ns,by simp,hS0,fun i0=>?_⟩;walk;refine⟨i0,rfl,fun p H1 fp B1 S1=>?_⟩;walk;refine⟨p,5,0,rfl,B1,by lia,by decide,by decide,fun ch H2 ch0 ch1 B2 k2=>?_⟩;walk;refine⟨p,4,1,rfl,B2,by lia,by decide,by decide,fun mo H3 mo0 mo1 B3 k3=>?_⟩;walk
  refine⟨p,2+mo,2,rfl,B3,by lia,by lia,by lia,fun tt d tp kvs ps f g H4 ett m4 gn rg fo tpp B4 k4=>?_⟩;refine zR ett rfl ?_;walk;refine⟨2+mo,tp,d,kvs,ps,f,g,rfl,m4.m,m4.s,by lia,by lia,rg,fun y n e=>(fo y n e).1,tpp,fun x a h H5 M t5 tm5 cs5 sh5 ow5 S5=>?_⟩
  obtain⟨L5,out5⟩:=Lw.start (s:=s) (xs:=ns.map V.int) t5 sh5 tm5 m4 S5 ow5 B4 gn rg (fun y n e=>⟨(fo y n e).1.1,(fo y n e).2⟩) (H0:=H0) (KB.ofS fp S1 |>.trans (k2.trans k3)) fp k4 (B3:Box H3 p 2);refine dB (by assumption) ?_
  refine eK (fun σ' H'=>∃(a':TA) (h':Hp) (M':MS),σ'=[some (.ref s),some (.int (0+(i:Int))),some (.ref p),some (.int ch),some (.int (2+mo)),some (.ref d),some (.int tp),some (.ref x),o8]/\Lw c 0 100 1003 H' p x d a' h' g M' tp kvs ps f/\Sv H0 H' h' g p s (ns.map V.int)) (fun N z=>?_) ?_
  ·walk;refine⟨p,2,_,rfl,L5.bx,by lia,by decide,by decide,fun w H6 w0 w1 B6 k6=>?_⟩;have L6:=L5.kb k6 B6;have out6:=out5.frm (.kb k6);have hx6:=L6.st _ _ L6.tr.x;walk;by_cases e0:w=0
   ·refine ik (bq V.int e0) ?_;walk;refine⟨a,h,x,M,4,rfl,L6.tr,L6.st,by rw[cs5];decide,by decide,by decide,by rw[cs5];exact nofun,fun h' H7 t7 c7=>?_⟩;walk;obtain⟨sg7,dis7,np7,bx7⟩:=dZ c7 L6.dis L6.m.s L6.np L6.bx
    exact z _ _ ⟨a,h',_,rfl,⟨t7,c7.sm,⟨L6.m.m,sg7,L6.m.k⟩,dis7,⟨tm5.tp,tm5.us,tm5.nd,tm5.ok.come (by decide) (by decide) (by rw[cs5];exact nofun),tm5.nok,tm5.tin,tm5.fw,tm5.fb,by show (M.R.cs++[_]).length<=1;rw[cs5];exact aE _,tm5.vf,tm5.vn⟩,L6.gd,np7,L6.gp,bx7⟩,out6.frm (.chg c7)⟩
   ·refine iW (fun y=>e0 (V.int.inj y)) ?_;walk;exact z _ _ ⟨a,h,M,rfl,L6,out6⟩
  rintro σ' H7 ⟨a7,h7,M7,rfl,L7,out7⟩;walk;refine⟨0,100,_,p,x,d,a7,h7,g,M7,tp,kvs,ps,f,rfl,L7,by decide,by decide,fun a8 h8 M8 H8 L8 F8=>?_⟩;walk;refine gA ch0 (by lia) ?_
  refine iB (fun j σ H'=>∃(a':TA) (h' g':Hp) (M':MS) (tp':Int) (kvs':List (Key×V)) (ps':List Int) (f':Int->Option ND) (o8:Option V),σ=[some (.ref s),some (.int (0+(i:Int))),some (.ref p),some (.int ch),some (.int (2+mo)),some (.ref d),some (.int tp'),some (.ref x),o8]/\Lw c j (105+15 * j) (1003+60 * j) H' p x d a' h' g' M' tp' kvs' ps' f'/\Sv H0 H' h' g' p s (ns.map V.int)) ⟨a8,h8,g,M8,tp,kvs,ps,f,o8,rfl,L8,(out7.frm F8)⟩ ?_ ?_
  ·rintro j σ H9 hj ⟨a9,h9,g9,M9,tp9,kvs9,ps9,f9,o9,rfl,L9,out9⟩;have j3:j<=3:=by lia
   walk;refine⟨j,_,_,p,x,d,a9,h9,g9,M9,tp9,kvs9,ps9,f9,rfl,L9,j3,by lia,by lia,fun a10 h10 g10 M10 tp10 kvs10 ps10 f10 H10 L10 F10=>?_⟩;walk;refine⟨j+1,_,_,p,x,d,a10,h10,g10,M10,tp10,kvs10,ps10,f10,rfl,L10,by lia,by lia,fun a11 h11 M11 H11 L11 F11=>?_⟩;walk;exact⟨a11,h11,g10,M11,tp10,kvs10,ps10,f10,_,rfl,L11.mono (by lia) (by lia),(out9.frm F10).frm F11⟩
  ·rintro σ H9 ⟨a9,h9,g9,M9,tp9,kvs9,ps9,f9,o9,rfl,L9,out9⟩;walk;exact⟨_,_,_,_,_,_,_,_,rfl,out9.sq hS0⟩
 ·rintro σ H' ⟨o1,o2,o3,o4,o5,o6,o7,o8,rfl,hS0⟩;walk;exact k _
section
variable {q x:Str}{st:Stmt}{ps:List Str}{h:Heap}{D f:Addr}{kV ct:Value}
theorem jH {d}(l1:K.lookup f=some ⟨.type "function",od,.func d,osl⟩):keepIn K (.ref f)=true/\isFn K (.ref f)=true:=by
 refine⟨by unfold keepIn;dsimp only;rw[l1],?_⟩;unfold isFn;rw[show typeIn K (.ref f)=(K.lookup f).map (·.cls) from rfl,l1];rfl
theorem u5 {dd cd b}(l:K.lookup D=some ⟨.type "type",dd,.cls cd,osl⟩)(s:mroIn K C (.ref C)=some true)(m:mroIn K C (.ref D)=some b):kitOne K (.ref C) (.ref D)=some b:=by
 unfold kitOne;by_cases e:C=D
 ·subst e;rw[aH (by simp),<- m,s]
 ·rw[aA (by intro z;exact e (Value.ref.inj (beq_iff_eq.mp z)))];have h':clsIn K D=some cd:=by unfold clsIn;rw[l]
  have ty:typeIn K (.ref D)=some (.type "type"):=by
   show (K.lookup D).map (·.cls)=_;rw[l];rfl
  unfold PySem.W.kitCls;dsimp only;rw[aH (by rw[h',ty];rfl)];exact m
theorem vj {fd'}(a:Fun K x q st f fd)(b:Fun K x q st f fd'):fd=fd':=by
 obtain⟨_,_,_,_,_,_,_,_,_,_,l1,_⟩:=a.ex;obtain⟨_,_,_,_,_,_,_,_,_,_,l2,_⟩:=b.ex;rw[l1] at l2;cases l2;rfl
def BB (K:Frag)(mg:Str->Option Value)(nm q:Str)(st:Stmt):Prop:=∃C D f fd,mg "Leaf" = some (.ref C)/\mg "Inner" = some (.ref D)/\Meth K C nm f/\Meth K D nm f/\Fun K nm q st f fd/\eJ K fd ["self"] []
def KT (K:Frag)(mg:Str->Option Value):Prop:=∃cL cI,mg "Leaf" = some (.ref cL)/\mg "Inner" = some (.ref cI)/\kitOne K (.ref cL) (.ref cL)=some true/\kitOne K (.ref cL) (.ref cI)=some false/\kitOne K (.ref cI) (.ref cL)=some false/\kitOne K (.ref cI) (.ref cI)=some true
section
variable (zX:K.In h)(zG:h.Ns mainGlobals mg)
include zX zG
theorem int_of {i:Int}{t}(a:nsIn K mainGlobals x=some (some (.int i t))):∃t,mg x=some (.int i t):=⟨t,mg_of zX zG a⟩
theorem kin_mk {cL cI d2 d3 e2 e3 s2 s3}(aL:nsIn K mainGlobals "Leaf" = some (some (.ref cL)))(aI:nsIn K mainGlobals "Inner" = some (some (.ref cI)))
  (lL:K.lookup cL=some ⟨.type "type",d2,.cls e2,s2⟩) (lI:K.lookup cI=some ⟨.type "type",d3,.cls e3,s3⟩) (m1:mroIn K cL (.ref cL)=some true) (m2:mroIn K cI (.ref cI)=some true) (m5:mroIn K cL (.ref cI)=some false) (m6:mroIn K cI (.ref cL)=some false):KT K mg:=
 ⟨cL,cI,mg_of zX zG aL,mg_of zX zG aI,u5 lL m1 m1,u5 lI m1 m5,u5 lL m2 m6,u5 lI m2 m2⟩
section
variable (k1:findIn K (.ref C) nm=some (some (.ref f)))(zl:K.lookup f=some ⟨.type "function",od,.func (fnOf nm q (fC st) (eI st) (bA st) .none kV doc pm an cdv ct),osl⟩)(c1:codeIn K cdv q=true)
  (hb:∀(kV doc pm:Value) (an:Option Addr) (cdv ct:Value) (us:List Value),us.length=ps.length->bindArgs (fnOf nm q (fC st) (eI st) (bA st) .none kV doc pm an cdv ct) ⟨us,[]⟩=pure (ps.zip us))
include k1 zl c1 hb
theorem meth_mk (aC:nsIn K mainGlobals cn=some (some (.ref C))):MM K mg cn nm q st ps:=by
 obtain⟨kf,ff⟩:=jH zl;exact⟨C,f,_,mg_of zX zG aC,⟨k1,ff,kf⟩,ic (st:=st) zl c1 kf,(ic (st:=st) zl c1 kf).binds hb⟩
theorem both_mk (e:ps=(["self"]:List Str))(aC:nsIn K mainGlobals "Leaf" = some (some (.ref C)))(aD:nsIn K mainGlobals "Inner" = some (some (.ref D)))(k2:findIn K (.ref D) nm=some (some (.ref f))):BB K mg nm q st:=by
 obtain⟨kf,ff⟩:=jH zl;subst e;exact⟨C,D,f,_,mg_of zX zG aC,mg_of zX zG aD,⟨k1,ff,kf⟩,⟨k2,ff,kf⟩,ic (st:=st) zl c1 kf,(ic (st:=st) zl c1 kf).binds hb⟩
end
section
variable (aC:nsIn K mainGlobals cn=some (some (.ref C)))(zl:K.lookup f=some ⟨.type "function",od,.func (fnOf "__init__" q (fC st) (eI st) (bA st) .none kV doc pm an cdv ct),osl⟩)(c1:codeIn K cdv q=true)
  (hb:∀(kV doc pm:Value) (an:Option Addr) (cdv ct:Value) (us:List Value),us.length=ps.length->bindArgs (fnOf "__init__" q (fC st) (eI st) (bA st) .none kV doc pm an cdv ct) ⟨us,[]⟩=pure (ps.zip us))
include aC zl c1 hb
theorem pg_mk (e1:cn=("Page" : Str))(e2:q=("Page.__init__" : Str))(e3:st=bU (top 50) 0)(e4:ps=(["self","keys","goods"]:List Str))(b1:specialIn K (.ref C) "__getattribute__" = some (some (.builtin "type.__getattribute__")))(b2:readsIn K C (.type "type")=true)
  (b3:findCls K (.ref C) (.type "type") "__init__" = some (.val (.ref f))):∃cP fP fdP,PgN K mg cP fP fdP:=by
 obtain⟨kf,ff⟩:=jH zl;subst e1 e2 e3 e4;exact⟨C,f,_,⟨ic zl c1 kf,(ic (st:=bU (top 50) 0) zl c1 kf).binds hb,⟨b1,b2,b3,kf⟩,mg_of zX zG aC⟩⟩
variable (m1:makesIn K C=true)(zi:findIn K (.ref C) "__init__" = some (some (.ref f)))(zj:keepIn K (.ref C)=true)
  (p1:plainGet K C Str.empty=true) (zq:hasDictIn K C=true) (p3:plainOver K C=true) (p4:findIn K (.ref C) "__setattr__" = some (some (.builtin "object.__setattr__")))
include m1 zi zj p1 zq p3 p4
theorem vp:∃fd,Mk K C f/\Fun K "__init__" q st f fd/\eJ K fd ps []/\mg cn=some (.ref C)/\Cls K C:=by
 obtain⟨kf,ff⟩:=jH zl;exact⟨_,⟨m1,zi,ff,zj⟩,ic (st:=st) zl c1 kf,(ic (st:=st) zl c1 kf).binds hb,mg_of zX zG aC,⟨p1,zq,p3,p4⟩⟩
theorem kdn_mk (e4:ps=(["self","keys","goods"]:List Str))(q1:findIn K (.ref C) "__class__" = some (some (.builtin "object.__class__")))(q2:specialIn K (.builtin "object.__class__") "__get__" = some (some (.builtin "getset_descriptor.__get__")))(q3:takesIn K (.builtin "object.__class__")=some true)(q4:mroIn K C (.type "object")=some true)
  (n1:findIn K (.ref C) "key_row" = some none) (n2:findIn K (.ref C) "good_row" = some none):∃C f fd,KdN K mg cn q st C f fd:=by
 obtain⟨fd,a,b,c,d,e⟩:=vp zX zG aC zl c1 hb m1 zi zj p1 zq p3 p4;subst e4;exact⟨C,f,fd,⟨a,b,c,d,⟨e,q1,q2,q3,q4⟩,n1,n2⟩⟩
theorem rdn_mk (e1:cn=("Rounds" : Str))(e2:q=("Rounds.__init__" : Str))(e3:st=bU (top 54) 0)(e4:ps=(["self"]:List Str))(n1:findIn K (.ref C) "in_use" = some none)(n2:findIn K (.ref C) "kept_laps" = some none)(n3:findIn K (.ref C) "free_ones" = some none)(n4:findIn K (.ref C) "call_laps" = some none)(n5:findIn K (.ref C) "lap_now" = some none):∃C f fd,RdN K mg C f fd:=by
 obtain⟨fd,a,b,c,d,e⟩:=vp zX zG aC zl c1 hb m1 zi zj p1 zq p3 p4;subst e1 e2 e3 e4;exact⟨C,f,fd,⟨a,b,c,d,e,n1,n2,n3,n4,n5⟩⟩
theorem ndn_mk (e1:cn=("Node" : Str))(e2:q=("Node.__init__" : Str))(e3:st=bU (top 62) 0)(e4:ps=(["self","level","bears","high","right"]:List Str))(n1:findIn K (.ref C) "level" = some none)(n2:findIn K (.ref C) "bears" = some none)(n3:findIn K (.ref C) "high" = some none)(n4:findIn K (.ref C) "right" = some none)(n5:findIn K (.ref C) "holder" = some none)(n6:findIn K (.ref C) "written" = some none):∃C f fd,NdN K mg C f fd:=by
 obtain⟨fd,a,b,c,d,e⟩:=vp zX zG aC zl c1 hb m1 zi zj p1 zq p3 p4;subst e1 e2 e3 e4;exact⟨C,f,fd,⟨a,b,c,d,e,n1,n2,n3,n4,n5,n6⟩⟩
theorem trn_mk (e1:cn=("Tree" : Str))(e2:q=("Tree.__init__" : Str))(e3:st=bU (top 63) 0)(e4:ps=(["self","most"]:List Str))(n1:findIn K (.ref C) "most_keys" = some none)(n2:findIn K (.ref C) "own_rounds" = some none)(n3:findIn K (.ref C) "nodes" = some none)(n4:findIn K (.ref C) "versions" = some none)(n5:findIn K (.ref C) "top_place" = some none):∃C f fd,TrN K mg C f fd:=by
 obtain⟨fd,a,b,c,d,e⟩:=vp zX zG aC zl c1 hb m1 zi zj p1 zq p3 p4;subst e1 e2 e3 e4;exact⟨C,f,fd,⟨a,b,c,d,e,n1,n2,n3,n4,n5⟩⟩
end
end
end
theorem by0 {P:List Value->Prop}(h:P [])(us:List Value)(e:us.length=0):P us:=by
 cases us with
 | nil=>exact h
 | cons a r=>cases e
theorem byS {P:List Value->Prop}(h:∀a (us:List Value),us.length=n->P (a::us))(us:List Value)(e:us.length=n+1):P us:=by
 cases us with
 | nil=>cases e
 | cons a r=>exact h a r (Nat.succ.inj e)
theorem by1 {P:List Value->Prop}(h:∀a0,P [a0]):∀us:List Value,us.length=[x0].length->P us:=byS fun a0=>by0 (h a0)
theorem by2 {P:List Value->Prop}(h:∀a0 a1,P [a0,a1]):∀us:List Value,us.length=[x0,x1].length->P us:=byS fun a0=>byS fun a1=>by0 (h a0 a1)
theorem by3 {P:List Value->Prop}(h:∀a0 a1 a2,P [a0,a1,a2]):∀us:List Value,us.length=[x0,x1,x2].length->P us:=byS fun a0=>byS fun a1=>byS fun a2=>by0 (h a0 a1 a2)
theorem by4 {P:List Value->Prop}(h:∀a0 a1 a2 a3,P [a0,a1,a2,a3]):∀us:List Value,us.length=[x0,x1,x2,x3].length->P us:=byS fun a0=>byS fun a1=>byS fun a2=>byS fun a3=>by0 (h a0 a1 a2 a3)
theorem by5 {P:List Value->Prop}(h:∀a0 a1 a2 a3 a4,P [a0,a1,a2,a3,a4]):∀us:List Value,us.length=[x0,x1,x2,x3,x4].length->P us:=byS fun a0=>byS fun a1=>byS fun a2=>byS fun a3=>byS fun a4=>by0 (h a0 a1 a2 a3 a4)
theorem by6 {P:List Value->Prop}(h:∀a0 a1 a2 a3 a4 a5,P [a0,a1,a2,a3,a4,a5]):∀us:List Value,us.length=[x0,x1,x2,x3,x4,x5].length->P us:=byS fun a0=>byS fun a1=>byS fun a2=>byS fun a3=>byS fun a4=>byS fun a5=>by0 (h a0 a1 a2 a3 a4 a5)
structure Fc (K:Frag)(mg:Str->Option Value):Prop where
 r:Rst K mg
 PX:∃cP fP fdP,PgN K mg cP fP fdP
 LX:∃C f fd,KdN K mg "Leaf" "Leaf.__init__" (bU (top 51) 0) C f fd
 IX:∃C f fd,KdN K mg "Inner" "Inner.__init__" (bU (top 52) 0) C f fd
 KX:KT K mg
 BK:BB K mg "all_keys" "Page.all_keys" (bU (top 50) 1)
 BG:BB K mg "goods" "Page.goods" (bU (top 50) 2)
 RX:∃C f fd,RdN K mg C f fd
 NX:∃C f fd,NdN K mg C f fd
 TX:∃C f fd,TrN K mg C f fd
theorem mkF (Z:Fc K mg):∃c,∀P w base,Fx P w K mg base c:=by
 obtain⟨cL,fL,fdL,XL⟩:=Z.LX;obtain⟨cI,fI,fdI,XI⟩:=Z.IX;obtain⟨_,_,e1,e2,LL,LI,IL,II⟩:=Z.KX;cases lW XL.m e1;cases lW XI.m e2;obtain⟨_,_,fK,fdK,e1,e2,kL,kI,nK,bK⟩:=Z.BK;cases lW XL.m e1;cases lW XI.m e2;obtain⟨_,_,fG,fdG,e1,e2,gL,gI,nG,bG⟩:=Z.BG;cases lW XL.m e1;cases lW XI.m e2;obtain⟨cR,fR,fdR,XR⟩:=Z.RX;obtain⟨cN,fN,fdN,XN⟩:=Z.NX;obtain⟨cT,fT,fdT,XT⟩:=Z.TX
 refine⟨⟨⟨cL,cI⟩,cR,cN,cT⟩,fun P w base=>⟨Z.r,Z.PX,⟨_,_,XL⟩,⟨_,_,XI⟩,⟨XL.ins,XI.ins,XL.m,XI.m,LL,LI,IL,II⟩,⟨fK,fdK,fun C z=>?_,nK,bK⟩,⟨fG,fdG,fun C z=>?_,nG,bG⟩,⟨_,_,XR⟩,⟨_,_,XN⟩,_,_,XT⟩⟩
 all_goals rcases z with rfl|rfl<;>first|exact⟨XL.ins.cl,by assumption⟩|exact⟨XI.ins.cl,by assumption⟩
theorem last {fa}(Z:Fc K mg)(hmg:mg "law" = some (.ref fa)) :
  ∃fd:FuncData,(∀(s:Shared) (u:Value),BindsTo s fd ⟨[u],[]⟩ [("_law_script",u)])/\∀base:Heap,iX P w K mg base CX0 16 fa fd ["_law_script"] (spLaw K):=by
 obtain⟨c,F⟩:=mkF Z;obtain⟨f,fd,Dl⟩:=Z.r.d_law;cases lW hmg Dl.m;refine⟨fd,?_,fun base=>?_⟩
 ·obtain⟨oc,od,kV,doc,pm,an,cdv,ct,osl,e,lk,hcd⟩:=Dl.fn.ex;subst e;exact fun s u=>.of_eq rfl
 ·obtain⟨f',fd',D',G'⟩:=zd (F P w base);cases lW hmg D'.m;cases vj Dl.fn D'.fn;exact G'
end K31
open PySem PySem.W PyProof.Rows
set_option maxRecDepth 100000 in
set_option maxHeartbeats 0 in
theorem PySem.Challenge.cw_nolocktree_k34_levels_and_pairs_holds : PySem.Challenge.rw_nolocktree_k34_levels_and_pairs.Holds := by
 refine PySem.Challenge.K34hd ?_
 k_fill
 refine L2.walk_ofK (l:=PySem.Challenge.rw_nolocktree_k34_levels_and_pairs) (n:=63) (k:=16) (x:="_law_script") (CX:=L2.CX0) (sp:=K31.spLaw) rfl (by decide) rfl ⟨fun _=>rfl,by decide,by decide,rfl⟩ (fun w h Y=>PySem.W.kIn_of Y) ?F ?S ?C
 case S=>exact fun K H a ns hl hO hS=>⟨a,ns,rfl,hS,hl,fun _=>rfl⟩
 case C=>exact fun _ _ _ _ z=>z
 case F=>
  intro w mg fa h KX G hmg
  have F:K31.Fc (L2.KOf KX) mg:=by
   dsimp only[L2.KOf];constructor
   case PX=>
    refine' K31.pg_mk KX G ?_ ?_ ?_ (fun _ _ _ _ _ _=>K31.by3 fun _ _ _=>rfl) rfl rfl rfl rfl ?_ ?_ ?_
    any_goals k_is
    try any_goals k_is
   case LX|IX=>
    refine' K31.kdn_mk KX G ?_ ?_ ?_ (fun _ _ _ _ _ _=>K31.by3 fun _ _ _=>rfl) ?_ ?_ ?_ ?_ ?_ ?_ ?_ rfl ?_ ?_ ?_ ?_ ?_ ?_
    any_goals k_is
    try any_goals k_is
   case KX=>
    refine' K31.kin_mk KX G ?_ ?_ ?_ ?_ ?_ ?_ ?_ ?_
    any_goals k_is
    try any_goals k_is
   case BK|BG=>
    refine' K31.both_mk KX G ?_ ?_ ?_ (fun _ _ _ _ _ _=>K31.by1 fun _=>rfl) rfl ?_ ?_ ?_
    any_goals k_is
    try any_goals k_is
   case RX=>
    refine' K31.rdn_mk KX G ?_ ?_ ?_ (fun _ _ _ _ _ _=>K31.by1 fun _=>rfl) ?_ ?_ ?_ ?_ ?_ ?_ ?_ rfl rfl rfl rfl ?_ ?_ ?_ ?_ ?_
    any_goals k_is
    try any_goals k_is
   case NX=>
    refine' K31.ndn_mk KX G ?_ ?_ ?_ (fun _ _ _ _ _ _=>K31.by5 fun _ _ _ _ _=>rfl) ?_ ?_ ?_ ?_ ?_ ?_ ?_ rfl rfl rfl rfl ?_ ?_ ?_ ?_ ?_ ?_
    any_goals k_is
    try any_goals k_is
   case TX=>
    refine' K31.trn_mk KX G ?_ ?_ ?_ (fun _ _ _ _ _ _=>K31.by2 fun _ _=>rfl) ?_ ?_ ?_ ?_ ?_ ?_ ?_ rfl rfl rfl rfl ?_ ?_ ?_ ?_ ?_
    any_goals k_is
    try any_goals k_is
   case r=>
    constructor
    case nz=>
     refine' mg_none_of KX G ?_
     k_is
    case T=>constructor<;>first|(refine' mg_none_of KX G ?_;k_is)|(refine' K31.int_of KX G ?c;(case c=>k_is))
    all_goals first
     | (refine' L2.dn_mk (ps:=[_]) KX G ?_ ?_ ?_ ?_ (fun _ _ _ _ _ _=>K31.by1 fun _=>rfl);(any_goals k_is);(try any_goals k_is))
     | (refine' L2.dn_mk (ps:=[_,_]) KX G ?_ ?_ ?_ ?_ (fun _ _ _ _ _ _=>K31.by2 fun _ _=>rfl);(any_goals k_is);(try any_goals k_is))
     | (refine' L2.dn_mk (ps:=[_,_,_]) KX G ?_ ?_ ?_ ?_ (fun _ _ _ _ _ _=>K31.by3 fun _ _ _=>rfl);(any_goals k_is);(try any_goals k_is))
     | (refine' L2.dn_mk (ps:=[_,_,_,_]) KX G ?_ ?_ ?_ ?_ (fun _ _ _ _ _ _=>K31.by4 fun _ _ _ _=>rfl);(any_goals k_is);(try any_goals k_is))
     | (refine' L2.dn_mk (ps:=[_,_,_,_,_]) KX G ?_ ?_ ?_ ?_ (fun _ _ _ _ _ _=>K31.by5 fun _ _ _ _ _=>rfl);(any_goals k_is);(try any_goals k_is))
     | (refine' K31.meth_mk (ps:=[_]) KX G ?_ ?_ ?_ (fun _ _ _ _ _ _=>K31.by1 fun _=>rfl) ?_;(any_goals k_is);(try any_goals k_is))
     | (refine' K31.meth_mk (ps:=[_,_]) KX G ?_ ?_ ?_ (fun _ _ _ _ _ _=>K31.by2 fun _ _=>rfl) ?_;(any_goals k_is);(try any_goals k_is))
     | (refine' K31.meth_mk (ps:=[_,_,_]) KX G ?_ ?_ ?_ (fun _ _ _ _ _ _=>K31.by3 fun _ _ _=>rfl) ?_;(any_goals k_is);(try any_goals k_is))
     | (refine' K31.meth_mk (ps:=[_,_,_,_,_]) KX G ?_ ?_ ?_ (fun _ _ _ _ _ _=>K31.by5 fun _ _ _ _ _=>rfl) ?_;(any_goals k_is);(try any_goals k_is))
     | (refine' K31.meth_mk (ps:=[_,_,_,_,_,_]) KX G ?_ ?_ ?_ (fun _ _ _ _ _ _=>K31.by6 fun _ _ _ _ _ _=>rfl) ?_;(any_goals k_is);(try any_goals k_is))
  obtain⟨fd,hb,hf⟩:=K31.last (P:=PySem.Challenge.rw_nolocktree_k34_levels_and_pairs.prog) (w:=w) F hmg;exact⟨fd,hb,fun base _ _=>hf base⟩
