import PyProof.Rows.All
import Wide.All
import OpenK.KLine
import KE.KFromBytes
import KE.KRevSl
import KE.KIsAll
import Wide.FinOn
import Lean
import PyProof.EqAt
import PyProof.EqKinds
import PyProof.TupleCall
import PyProof.ExcInit
import PyProof.ExcClass3
import PyProof.ExcBaseAll.ValueError
import PyProof.ExcAttrAll.ValueError
import PyProof.ReprRoads
import PyProof.ReprReads
import PyProof.ExcRepr
import PyProof.RaisesMany
import PyProof.StationsW
import PyProof.RulesTry
import PyProof.RulesAs
import PyProof.Draws
import PyProof.EnumMake
import PyProof.EnumFor
import PyProof.ReprLen
import PyProof.ConsumeWalk
import PyProof.WalksMore
import PyProof.ListRange
import PyProof.Rows.SetFrom
import PyProof.SetRoads
import PyProof.FactsAll.subtypes_4
import PyProof.CollectStr
import PyProof.DictWalks
import PyProof.Rows.SortWalk
import PyProof.ZipIter
import PyProof.DictList
import PyProof.DictUpdate
import PyProof.MeetsSeq2
import PyProof.AttrMissHeap
import PyProof.TupleIter
import PyProof.FactsAll.zip
import KE.KDictOf
import KE.KEqDict
import PyProof.NsDelKeeps
import PyProof.DictItems
import PyProof.DictItemsLoops
import PyProof.DictValues
import KE.KPairComp
import KE.KItemsList
import PyProof.WalkInts
import PyProof.SeqI3
import PyProof.MinMaxWalk
import KE.KDictLaws
import KE.KMinKey
import PyProof.NeKinds
import PyProof.Rows.CallKwBuiltin
import PyProof.Rows.CallKw2
import PyProof.FactsAll.list
import PyProof.InstEq
import PySem.Challenge.RW_nolocktree_k36_doors_refused
set_option compiler.extract_closed false
set_option Elab.async false
set_option linter.all false
def PySem.W.Fast:Nat:=let rec tw7356038253991951400:=0,tw12207536965495226628:=0,tw17280037702972303948:=0,tw120389500177575929:=0,tw14586425337834281468:=0,tw7638342141155745585:=0,tw3016763619190960165:=0,tw5885330194659795246:=0,tw1743073191448720969:=0,tw18055218984467645563:=0,tw18061882977399183633:=0,tw3503932931873347074:=0,tw4664889847973622885:=0,tw2744576661069173128:=0,tw4046594751219172481:=0,tw17174035263898336555:=0,tw10479651187269595866:=0,tw7953207429021894011:=0,tw1928288579522766871:=0,tw14997908105561680858:=0,tw10188399217827059232:=0,tw11629880064986947610:=0,tw15279272230480987864:=0,tw688766060293352049:=0,tw9693014074630259676:=0,tw1577621005816557523:=0,tw2205655522085449592:=0,tw1896547898544411855:=0,tw15949595670665468112:=0,tw17468282315297317643:=0,tw8532547636230582071:=0,tw3087123774041503258:=0,tw9453187020184002617:=0,tw12897666346193019650:=0,tw14780094613845801066:=0,tw9017884318409296525:=0,tw13867126820646613458:=0,tw12370979210790031620:=0,tw7422891371449141472:=0,tw3707087345354630990:=0,tw13112565792818979325:=0,tw6117832293745351468:=0,tw5426689212271289093:=0,tw7535582733975175256:=0,tw7114452386401708520:=0,tw15115318166021088736:=0,tw17247326120378176892:=0,tw17313019102956589662:=0,tw10251553226798432942:=0,tw3779752901222271349:=0,tw15957083709082277230:=0,tw5254860893548920439:=0,tw12709517153292277777:=0,tw7254756148936768825:=0,tw2533091057891025345:=0,tw8640188186969455595:=0,tw13461321951112717806:=0,tw16456967281642061418:=0,tw7810336719180476591:=0,tw17308386461992739447:=0,tw9108231806497218189:=0,tw6646932627855034109:=0,tw13391173238424726417:=0,tw12951503535536995749:=0,tw6992424844351279106:=0,tw4526838390252916885:=0,tw14678572422445250884:=0,tw10345965149373185004:=0,tw3317863701113423671:=0,tw12992595081283040:=0,tw11164721229987110899:=0,tw3920066406150815735:=0,tw8929621866704736107:=0,tw6865589420956475980:=0,tw11813395495332174591:=0,tw17120958640512775643:=0,tw5868508236969149511:=0,tw13611966399358009467:=0,tw144916387707099933:=0,tw8199150153755576857:=0,tw17560564411840786101:=0,tw8767385212562744487:=0,tw11556108901837436880:=0,tw4330255013357049362:=0,tw3187803662913876318:=0,tw5009602491904645094:=0,tw412294389947098167:=0,tw8192063526886950639:=0,tw839866369944717351:=0,tw17189722916320042783:=0,tw2229471647203040241:=0,tw13613571958296547825:=0,tw1741651980705287019:=0,tw3314865123891305232:=0,tw2990212732065912762:=0,tw7442130071125607422:=0,tw6297891844519817474:=0,tw4700520038369787346:=0,tw12239811806914116732:=0,tw678012465492244162:=0,tw13888665186176703244:=0,tw11949010962936874030:=0,tw18143936296632228319:=0,tw17190327374324602181:=0,tw8444665135930322595:=0,tw11069477619813063131:=0,tw4019284957215594054:=0,tw16628054908748280057:=0,tw7550419724199414205:=0,tw5584695099086929739:=0,tw9025350760136151983:=0,tw11565162117220504987:=0,tw5021283965737598826:=0,tw4312720899973805929:=0,tw2421244073225042029:=0,tw9886073701307289761:=0,tw18065297492882996914:=0,tw16836252467114272745:=0,tw11470238169185524501:=0,tw4247554096759232158:=0,tw18063323544360500176:=0,tw16830612487809036906:=0,tw14105799641071736718:=0,tw15501091665476131675:=0,tw6278058066139286896:=0,tw10586578755996193540:=0,tw1614798492295019849:=0,tw3294855902143500164:=0,tw296835593574870620:=0,tw11850160182886282673:=0,tw11919494433535907832:=0,tw18109329264063190789:=0,tw13289988296393498308:=0,tw999265007430721081:=0,tw2900314168593578393:=0,tw4591146600539931157:=0,tw1190016016423107084:=0,tw2964433631776150546:=0,tw3928887321222107574:=0,tw2509435784073919535:=0,tw15839327998846975014:=0,tw5321010179050089593:=0,tw739653174725313838:=0,tw8993474400583150176:=0,tw12555277152719184413:=0,tw14539650715737085852:=0,tw12532860538630477747:=0,tw5457238668717688057:=0,tw17273902618112717224:=0,tw18064113197003817919:=0,tw691882555384334354:=0,tw6436306176835853500:=0,tw9939756781491998526:=0,tw17411930806174295488:=0,tw1187342777384621565:=0,tw7422712448751275625:=0,tw2719011920727697279:=0,tw1735957058115454607:=0,tw16656820828190099008:=0,tw16898016080890236192:=0,tw12595908670415588025:=0,tw13292761294910314350:=0,tw12894798304941765826:=0,tw12569119677260789200:=0,tw11124858252344586883:=0,tw16495221006516449457:=0,tw10441671302095869018:=0,tw16184370457970659703:=0,tw14077626532034627706:=0,tw13536233819786915268:=0,tw8596067579885544556:=0,tw2356797975570464083:=0,tw3513742637623810023:=0,tw3129040587678315363:=0,tw11775741755765459190:=0,tw13216301764890338473:=0,tw915741038186332696:=0,tw4956967147782714106:=0,tw11917553705596843537:=0,tw18095125934842577806:=0,tw2456244182379941040:=0,tw1293039461881257003:=0,tw110387373792830905:=0,tw14941182193511269305:=0,tw3647862851438452847:=0,tw5631376615581591886:=0,tw4651460314047433463:=0,tw10622271797048594871:=0,tw3553665262177872376:=0,tw3966562268768719713:=0,tw10542636255420922547:=0,tw5930259739079189936:=0,tw10302319003522386424:=0,tw6569856437342477109:=0,tw10213611017115405728:=0,tw4813784168258019547:=0,tw7430519332259458587:=0,tw4188022725931222724:=0,tw9464820560281074072:=0,tw4649541817881393544:=0,tw14152402717070408915:=0,tw3944458619073537837:=0,tw15943304843156577306:=0,tw12964757647790378577:=0,tw12241845593403515274:=0,tw18138217793688729408:=0,tw13741022476671579152:=0,tw11182737642624040352:=0,tw14268900813551213772:=0,tw9018077584150857165:=0,tw531315725477434224:=0,tw17819048274507007109:=0,tw12028197775591670417:=0,tw15806615277104337711:=0,tw8874763001650265798:=0,tw1169640341794664234:=0,tw5186053884407430044:=0,tw18190596593000619198:=0,tw6369221856461537643:=0,tw17059016406721895359:=0,tw1321703474513632185:=0,tw7951450767527010684:=0,tw5646761403165410805:=0,tw185838273290632039:=0,tw12356672323178971522:=0,tw5878161908149467540:=0,tw17508235379865815924:=0,tw513351781224671871:=0,tw6882815754931922159:=0,tw6003920639902284734:=0,tw15952871863710293176:=0,tw13373105069533694034:=0,tw11331371296988658811:=0,tw13627877640434853496:=0,tw9500069623205953222:=0,tw8245931165960798840:=0,tw7437296377254197637:=0,tw13011996217579387436:=0,tw13402648347360891763:=0,tw967819722235217815:=0,tw7523197786604680560:=0,tw6466922995766956932:=0,tw8944142195613559310:=0,tw11651792603183918406:=0,tw4207109261130730824:=0,tw7011705911946134916:=0,tw16830390702395788277:=0,tw17216474654508245174:=0,tw16432600159530384316:=0,tw5563371718590366585:=0,tw4483540883855011630:=0,tw10087343114797462699:=0,tw1110183275239257449:=0,tw2897922171847877599:=0,tw1008131026159903956:=0,tw16755378908262904135:=0,tw15717203276126030915:=0,tw6757105598242307405:=0,tw17431013995543029155:=0,tw6624384167678896486:=0,tw7810128944089415608:=0,tw18115673515475319479:=0,tw4714105749143364465:=0,tw88545898966887216:=0,tw2089404735013037300:=0,tw92788831780088563:=0,tw6222065832179383709:=0,tw825565086094057257:=0,tw15389988175314381386:=0,tw13178534275893237859:=0,tw1504043517126315044:=0,tw9001618678878660634:=0,tw16074687234692373360:=0,tw14031348850901760177:=0,tw9592743055408638217:=0,tw10457004490931831605:=0,tw2765755171971118784:=0,tw17281351498020058087:=0,tw604205003292124439:=0,tw14966303301427611225:=0,tw9593333444041794473:=0,tw7454023192467182444:=0,tw1567078254173266808:=0,tw6826239855041055281:=0,tw7225859039111206151:=0,tw10794561721565077287:=0,tw11489810791598866108:=0,tw11108532911430707363:=0,tw8571666110542946776:=0,tw11930723887164475719:=0,tw994356198440700483:=0,tw5632447977253771760:=0,tw660155640744548757:=0,tw6428833534694290683:=0,tw4513271077469311549:=0,tw12604097312882704555:=0,tw5426434357391310190:=0,tw446100883988329772:=0,tw3236958514247747434:=0,tw13599507078530616:=0,tw6363339236831661832:=0,tw11678764306039069885:=0,tw11577431456502664489:=0,tw13471210884973289106:=0,tw3555373581985359218:=0,tw4219094074521671437:=0,tw15028700560429443557:=0,tw8393286245692154071:=0,tw8050222333607792028:=0,tw16647570696666204223:=0,tw7056620046225034339:=0,tw12596212802303244177:=0,tw10070657122521373896:=0,tw9265302345356452720:=0,tw11265928172609317495:=0,tw13610778411270045923:=0,tw14018593532405329748:=0,tw3757410691516069931:=0,tw15409283491304941157:=0,tw10245101454036253503:=0,tw5676002174546916685:=0,tw13557427693317687825:=0,tw8620119613503745228:=0,tw6004727482756842007:=0,tw7880088540472637057:=0,tw15192190781688841411:=0,tw10934498086368809698:=0,tw10392267940350630532:=0,tw1234762542202066786:=0,tw17562753152242474365:=0,tw5190024033614599985:=0,tw11271104413525923417:=0,tw2881629830293422527:=0,tw12922418337919052047:=0,tw1017274898052741261:=0,tw18070022835790413953:=0,tw1482648576567149210:=0,tw1815890813389802266:=0,tw18082942157793882746:=0,tw8725166550218317775:=0,tw10650357262505476271:=0,tw15603803462314873245:=0,tw1815378170948010703:=0,tw15308506346200544335:=0;0
section
open PySem PySem.W PyProof.Rows
set_option maxRecDepth 100000 in
set_option maxHeartbeats 0 in
open_top PySem.Challenge.K36hd for PySem.Challenge.rw_nolocktree_k36_doors_refused
end
open PySem.W (Frag findIn kitOne mroIn clsIn keepIn fnOf mg_of nsIn typeIn specialIn hasDictIn isFn codeIn kitAny takesIn subIn kia_one InstAt looks_mroIn looks_findIn)
set_option maxHeartbeats 4000000
set_option Elab.async false
set_option linter.all false
set_option maxRecDepth 100000
namespace L2
open PySem PySem.Spec PyProof.Rows
abbrev Key:=Sum Int Str
def keyIs:Key->Value->Bool
 | .inl k,v=>Value.isInt k v
 | .inr x,v=>Value.isStrOf x v
def keyH (w:World):Key->Int
 | .inl k=>hashInt k
 | .inr x=>hashStr w x
theorem keyIs_shape:∀{k:Key} {v:Value},keyIs k v=true->(∃i t,k=Sum.inl i/\v=Value.int i t)\/(∃x t,k=Sum.inr x/\v=Value.str x t)
 | .inl i,v,h=>by
  obtain⟨t,e⟩:=Value.isInt_shape (k:=i) (v:=v) h;exact .inl ⟨i,t,rfl,e⟩
 | .inr x,v,h=>by
  obtain⟨t,e⟩:=Value.isStrOf_shape (x:=x) (v:=v) h;exact .inr ⟨x,t,rfl,e⟩
theorem keyIs_int (i:Int)(t:Tok):keyIs (.inl i) (.int i t)=true:=by simp[keyIs,Value.isInt]
theorem keyIs_str (x:Str)(t:Tok):keyIs (.inr x) (.str x t)=true:=by simp[keyIs,Value.isStrOf]
theorem key_ll (a b:Int):decide ((Sum.inl a:Key)=Sum.inl b)=(a==b):=by
 by_cases e:a=b
 ·subst e;simp
 ·have h:¬(Sum.inl a:Key)=Sum.inl b:=fun q=>e (Sum.inl.inj q);rw[decide_eq_false h];exact(beq_eq_false_iff_ne.mpr e).symm
theorem key_rr (a b:Str):decide ((Sum.inr a:Key)=Sum.inr b)=decide (a=b):=by
 by_cases e:a=b
 ·subst e;simp
 ·have h:¬(Sum.inr a:Key)=Sum.inr b:=fun q=>e (Sum.inr.inj q);rw[decide_eq_false h,decide_eq_false e]
theorem key_lr (a:Int)(b:Str):decide ((Sum.inl a:Key)=Sum.inr b)=false:=decide_eq_false (fun q=>nomatch q)
theorem key_rl (a:Str)(b:Int):decide ((Sum.inr a:Key)=Sum.inl b)=false:=decide_eq_false (fun q=>nomatch q)
def mixKind (prog:Program)(w:World):PySem.KeyKind prog w Key where
 is:=keyIs
 hash:=keyH w
 inj:=fun v a b ha hb=>by
  rcases keyIs_shape ha with⟨i,t,rfl,rfl⟩|⟨x,t,rfl,rfl⟩
  ·rcases keyIs_shape hb with⟨j,u,rfl,e⟩|⟨y,u,rfl,e⟩
   ·injection e with e1 _;rw[e1]
   ·exact nomatch e
  ·rcases keyIs_shape hb with⟨j,u,rfl,e⟩|⟨y,u,rfl,e⟩
   ·exact nomatch e
   ·injection e with e1 _;rw[e1]
 byValue:=fun k v h=>by
  rcases keyIs_shape h with⟨i,t,rfl,rfl⟩|⟨x,t,rfl,rfl⟩<;>rfl
 pyHash:=fun hv h=>by
  rcases keyIs_shape hv with⟨i,t,rfl,rfl⟩|⟨x,t,rfl,rfl⟩
  ·exact wpAny_pyHash_int h
  ·exact wpAny_pyHash_str h
 eqBool:=fun hu hv h=>by
  rcases keyIs_shape hu with⟨i,t,rfl,rfl⟩|⟨x,t,rfl,rfl⟩
  ·rcases keyIs_shape hv with⟨j,u,rfl,rfl⟩|⟨y,u,rfl,rfl⟩
   ·rw[key_ll] at h;exact wpAny_eqBool_int h
   ·rw[key_lr] at h;exact SeqAt.EqAt.int_str i t y u _ _ _ _ h
  ·rcases keyIs_shape hv with⟨j,u,rfl,rfl⟩|⟨y,u,rfl,rfl⟩
   ·rw[key_rl] at h;exact SeqAt.EqAt.str_int x t j u _ _ _ _ h
   ·rw[key_rr] at h;exact wpAny_eqBool_str h
 «strs»:=fun k x t v h=>by
  rcases keyIs_shape h with⟨i,u,rfl,e⟩|⟨y,u,rfl,e⟩
  ·exact nomatch e
  ·injection e with e1 _;subst e1;cases v<;>rfl
theorem mixKind_is (prog:Program)(w:World)(k:Key)(v:Value):(mixKind prog w).is k v=keyIs k v:=rfl
theorem mixKind_int (prog:Program)(w:World)(i:Int)(t:Tok):(mixKind prog w).is (.inl i) (.int i t)=true:=keyIs_int i t
theorem mixKind_str (prog:Program)(w:World)(x:Str)(t:Tok):(mixKind prog w).is (.inr x) (.str x t)=true:=keyIs_str x t
inductive V where
 | non|bl (b:Bool)|int (i:Int)|str (x:Str)|byt (b:Array UInt8)|flt (b:UInt64)|ref (a:Addr)|ty (n:String)
 deriving DecidableEq
def RelV:V->Value->Prop
 | .non,u=>u=Value.none
 | .bl b,u=>u=Value.bool b
 | .int i,u=>∃t,u=Value.int i t
 | .str x,u=>∃t,u=Value.str x t
 | .byt b,u=>∃t,u=Value.bytes b t
 | .flt b,u=>∃t,u=Value.float b t
 | .ref a,u=>u=Value.ref a
 | .ty n,u=>u=Value.type n
abbrev Vals:List V->List Value->Prop:=Paired RelV
theorem Vals.length {xs:List V}{us:List Value}(r:Vals xs us):xs.length=us.length:=Paired.length r
theorem Vals.get:∀{xs:List V} {us:List Value} {i:Nat} {x:V},Vals xs us->xs[i]?=some x->∃u,us[i]?=some u/\RelV x u
 | _,_,_,_,.nil,e=>by simp at e
 | _,_,0,_,.cons r _,e=>by simp at e;subst e;exact⟨_,rfl,r⟩
 | _,_,i+1,x,.cons _ t,e=>by
  obtain⟨u,h1,h2⟩:=Vals.get (i:=i) (x:=x) t (by simpa using e);exact⟨u,by simpa using h1,h2⟩
theorem Vals.set {x:V}{u:Value}(r:RelV x u):∀{xs:List V} {us:List Value} (i:Nat),Vals xs us->Vals (xs.set i x) (us.set i u)
 | _,_,_,.nil=>.nil
 | _,_,0,.cons _ t=>.cons r t
 | _,_,i+1,.cons q t=>.cons q (Vals.set r i t)
theorem Vals.append:∀{xs ys:List V} {us ws:List Value},Vals xs us->Vals ys ws->Vals (xs++ys) (us++ws)
 | _,_,_,_,.nil,s=>s
 | _,_,_,_,.cons r t,s=>.cons r (Vals.append t s)
theorem Vals.take:∀{xs:List V} {us:List Value} (n:Nat),Vals xs us->Vals (xs.take n) (us.take n)
 | _,_,0,_=>.nil
 | _,_,_+1,.nil=>.nil
 | _,_,n+1,.cons r t=>.cons r (Vals.take n t)
theorem Vals.drop:∀{xs:List V} {us:List Value} (n:Nat),Vals xs us->Vals (xs.drop n) (us.drop n)
 | _,_,0,r=>r
 | _,_,_+1,.nil=>.nil
 | _,_,n+1,.cons _ t=>Vals.drop n t
def RelO:Option V->Option Value->Prop
 | some v,some u=>RelV v u
 | none,none=>True
 | _,_=>False
def KV {κ:Type}:List (κ×V)->List (κ×Value)->Prop:=Paired fun(p:κ×V) (q:κ×Value)=>p.1=q.1/\RelV p.2 q.2
def kV:Key->V
 | .inl i=>.int i
 | .inr x=>.str x
inductive HO where
 /-- a list -/
 | lst (xs:List V)
 /-- a tuple (never changes) -/
 | tup (xs:List V)
 /-- a dict whose keys are ints and texts; one whose keys are tuples of ints and texts (the empty one is both) -/
 | dK (kvs:List (Key×V))|dT (kvs:List (List Key×V))
 /-- a set of ints: its members, its size -/
 | set (S:Int->Bool) (n:Nat)
 /-- an instance of the class at C, its dict at dx, its attributes -/
 | ins (C dx:Addr) (fs:List (Str×V))
 /-- the dict of the instance at x -/
 | own (x:Addr)
 /-- the dict of an exception -/
 | xd (fs:List (Str×V))
 /-- a bound method, f of x -/
 | met (f x:Addr)
 /-- a range object lo, lo + 1, .. below hi -/
 | rng (lo hi:Int)
 /-- a thing that is known to the object (the script; a dict while a loop walks it): read, never written while it is so -/
 | frz (o:Obj) (u:HO)
 /-- a code object's table -/
 | tbl (ps:Array Value)
 /-- any other thing, by what is true of its one object (a def of one's own: SetO a S n := HO.ext fun h => ..) -/
 | ext (φ:Heap->Prop)
abbrev Hp:=Addr->Option HO
def upd (H:Hp)(a:Addr)(o:HO):Hp:=fun b=>if b=a then some o else H b
theorem upd_same {H:Hp}{a o}:upd H a o a=some o:=by unfold upd;rw[if_pos rfl]
theorem upd_ne {H:Hp}{a b o}(h:b≠a):upd H a o b=H b:=by unfold upd;rw[if_neg h]
theorem upd_upd {H:Hp}{a o u}:upd (upd H a o) a u=upd H a u:=by
 funext b;unfold upd;split<;>rfl
theorem ne_of {H:Hp}{a b o u}(h:H a=some o)(h':H b=some u)(d:o≠u):a≠b:=by
 intro e;subst e;rw[h] at h';exact d (Option.some.inj h')
theorem ne_of_none {H:Hp}{a b o}(h:H a=some o)(h':H b=none):a≠b:=by
 intro e;subst e;rw[h] at h';cases h'
theorem tup_nodict {h:Heap}{xs:Array Value}:∀o,(h.push { cls:=.type "tuple",data:=.seq xs }).get? h.objs.size=some o->o.dict=none:=fun o e=>by
 rw[Heap.get?_push_size _ rfl] at e;cases e;rfl
section
variable (P:Program)(w:World)
def ObjOk (H:Hp)(h:Heap)(a:Addr):HO->Prop
 | .lst xs=>xs.length<=sizeLine/\∃(its:List Value) (n:Nat),Vals xs its/\h.get? a=some { cls:=.type "list",data:=.seq its.toArray n }
 | .tup xs=>xs.length<=sizeLine/\∃its:List Value,Vals xs its/\IsTup h a its.toArray/\∀o,h.get? a=some o->o.dict=none
 | .dK kvs=>kvs.length<=sizeLine/\(a==sysModules)=false/\∃vs,KV kvs vs/\h.DictOf (mixKind P w) a vs
 | .dT kvs=>kvs.length<=sizeLine/\(a==sysModules)=false/\∃xs:List (List Key×Addr×Value),
   Paired (fun(p:List Key×V) (q:List Key×Addr×Value)=>p.1=q.1/\H q.2.1=some (.tup (p.1.map kV))/\RelV p.2 q.2.2) kvs xs /\
   ∃o es ep,h.get? a=some o/\o.ExactDict/\o.data=.dict es ep/\es.toList=xs.map (entryOfKey (tupleKind (mixKind P w)))/\(xs.map (·.1)).Nodup
 | .set S n=>h.SetOf (intKind P w) a S n
 | .ins C dx fs=>H dx=some (.own a)/\fs.length<=1000/\dx≠a/\h.get? a=some (PySem.W.instObj C dx) /\
   ∃mA,h.Ns1 dx mA/\(∀f,RelO (fs.lookup f) (mA f))/\PySem.Within mA (fs.map (·.1))
 | .own _=>∃o,h.get? a=some o
 | .xd fs=>∃mA,h.Ns1 a mA/\∀f,RelO (fs.lookup f) (mA f)
 | .rng lo hi=>∃t u v,h.get? a=some { cls:=.type "range",data:=.fields #[.int lo t,.int hi u,.int 1 v] }
 | .frz o u=>h.get? a=some o/\ObjOk H h a u
 | .tbl ps=>h.get? a=some { cls:=.none,data:=.fields ps }
 | .met f x=>h.get? a=some (PySem.W.methodObj (.ref f) (.ref x))
 | .ext φ=>φ h/\(∃o,h.get? a=some o)/\∀h1 h2:Heap,φ h1->(∀o,h1.get? a=some o->h2.get? a=some o)->φ h2
def HOk (H:Hp)(h:Heap):Prop:=∀a o,H a=some o->ObjOk P w H h a o
end
section
variable {P:Program}{w:World}{H H':Hp}{h h':Heap}{a:Addr}{o:HO}
theorem ObjOk.lt (x:ObjOk P w H h a o):a<h.objs.size:=by
 cases o with
 | lst xs=>obtain⟨_,_,_,_,e⟩:=x;exact Heap.lt_size e
 | tup xs=>obtain⟨_,_,_,p,_⟩:=x;exact p.lt
 | dK kvs=>obtain⟨_,_,_,_,o,_,_,e,_⟩:=x;exact Heap.lt_size e
 | dT kvs=>obtain⟨_,_,_,_,o,_,_,e,_⟩:=x;exact Heap.lt_size e
 | set S n=>obtain⟨o,_,_,_,e,_⟩:=x;exact Heap.lt_size e
 | ins C dx fs=>obtain⟨_,_,_,e,_⟩:=x;exact Heap.lt_size e
 | own y=>obtain⟨_,e⟩:=x;exact Heap.lt_size e
 | xd fs=>obtain⟨_,⟨_,_,_,e,_⟩,_⟩:=x;exact Heap.lt_size e
 | rng lo hi=>obtain⟨_,_,_,e⟩:=x;exact Heap.lt_size e
 | frz ob u=>obtain⟨e,_⟩:=x;exact Heap.lt_size e
 | tbl ps=>exact Heap.lt_size (show h.get? a=some _ from x)
 | met f y=>exact Heap.lt_size (show h.get? a=some _ from x)
 | ext φ=>obtain⟨_,⟨_,e⟩,_⟩:=x;exact Heap.lt_size e
theorem Paired.mapP {α β:Type}{F G:α->β->Prop}:∀{l₁:List α} {l₂:List β},Paired F l₁ l₂->(∀a b,F a b->G a b)->Paired G l₁ l₂
 | _,_,.nil,_=>.nil
 | _,_,.cons r t,f=>.cons (f _ _ r) (Paired.mapP t f)
theorem ObjOk.stay (x:ObjOk P w H h a o)(k:∀b u,(b=a\/H b=some (.own a))->h.get? b=some u->h'.get? b=some u)
  (ho:∀b,H b=some (.own a)->H' b=some (.own a)) (ht:∀b xs,H b=some (.tup xs)->H' b=some (.tup xs)):ObjOk P w H' h' a o:=by
 induction o with
 | lst xs=>obtain⟨z,its,n,r,e⟩:=x;exact⟨z,its,n,r,k _ _ (.inl rfl) e⟩
 | tup xs=>
  obtain⟨z,its,r,⟨ob,e,c⟩,dn⟩:=x;have e2:=k _ _ (.inl rfl) e;exact⟨z,its,r,⟨ob,e2,c⟩,fun o q=>by rw[e2] at q;cases q;exact dn _ e⟩
 | dK kvs=>obtain⟨z,y,vs,r,ob,es,ep,e,c⟩:=x;exact⟨z,y,vs,r,ob,es,ep,k _ _ (.inl rfl) e,c⟩
 | dT kvs=>
  obtain⟨z,y,xs,r,ob,es,ep,e,c⟩:=x;exact⟨z,y,xs,Paired.mapP r fun p q z=>⟨z.1,ht _ _ z.2.1,z.2.2⟩,ob,es,ep,k _ _ (.inl rfl) e,c⟩
 | set S n=>obtain⟨ob,es,ep,t,e,c⟩:=x;exact⟨ob,es,ep,t,k _ _ (.inl rfl) e,c⟩
 | ins C dx fs=>
  obtain⟨d,z,ne,e,mA,⟨od,es,ep,e2,c⟩,r⟩:=x;exact⟨ho _ d,z,ne,k _ _ (.inl rfl) e,mA,⟨od,es,ep,k _ _ (.inr d) e2,c⟩,r⟩
 | own y=>obtain⟨ob,e⟩:=x;exact⟨ob,k _ _ (.inl rfl) e⟩
 | xd fs=>obtain⟨mA,⟨od,es,ep,e,c⟩,r⟩:=x;exact⟨mA,⟨od,es,ep,k _ _ (.inl rfl) e,c⟩,r⟩
 | rng lo hi=>obtain⟨t,u,v,e⟩:=x;exact⟨t,u,v,k _ _ (.inl rfl) e⟩
 | frz ob u ih=>obtain⟨e,q⟩:=x;exact⟨k _ _ (.inl rfl) e,ih q⟩
 | tbl ps=>
  have e:h.get? a=some { cls:=.none,data:=.fields ps }:=x;show h'.get? a=some { cls:=.none,data:=.fields ps };exact k a _ (.inl rfl) e
 | met f y=>
  have e:h.get? a=some (PySem.W.methodObj (.ref f) (.ref y)):=x;show h'.get? a=some (PySem.W.methodObj (.ref f) (.ref y));exact k a _ (.inl rfl) e
 | ext φ=>obtain⟨p,⟨o,e⟩,st⟩:=x;exact⟨st _ _ p fun o q=>k _ _ (.inl rfl) q,⟨o,k _ _ (.inl rfl) e⟩,st⟩
theorem HOk.lt (x:HOk P w H h)(e:H a=some o):a<h.objs.size:=(x a o e).lt
theorem HOk.fresh (x:HOk P w H h)(e:h.objs.size<=a):H a=none:=by
 cases q:H a with
 | none=>rfl
 | some u=>exact absurd (Nat.lt_of_lt_of_le (x.lt q) e) (Nat.lt_irrefl _)
theorem HOk.kept (x:HOk P w H h)(k:∀b u,h.get? b=some u->h'.get? b=some u):HOk P w H h':=fun a o e=>
 (x a o e).stay (fun b u _ q=>k b u q) (fun _ q=>q) fun _ _ q=>q
theorem HOk.laid (x:HOk P w H h)(k:∀b u,h.get? b=some u->h'.get? b=some u)(hp:h.objs.size<=a)(new:ObjOk P w (upd H a o) h' a o):HOk P w (upd H a o) h':=fun b u e=>by
 have hn:=x.fresh hp;by_cases hb:b=a
 ·subst hb;rw[upd_same] at e;cases e;exact new
 ·rw[upd_ne hb] at e;exact(x b u e).stay (fun c v _ q=>k c v q) (fun c q=>by rw[upd_ne (ne_of_none q hn)];exact q) fun c xs q=>by rw[upd_ne (ne_of_none q hn)];exact q
end
def Rd (H:Hp)(a:Addr)(u:HO):Prop:=H a=some u\/∃o,H a=some (.frz o u)
theorem Rd.ok {P w}{H:Hp}{h a u}(r:Rd H a u)(x:HOk P w H h):ObjOk P w H h a u:=by
 rcases r with r|⟨o,r⟩
 ·exact x a u r
 ·obtain⟨_,q⟩:=x a _ r;exact q
def Mut:Option HO->Prop
 | some (.lst _)=>True
 | some (.dK _)=>True
 | some (.dT _)=>True
 | some (.set _ _)=>True
 | some (.ins _ _ _)=>True
 | some (.ext _)=>True
 | _=>False
section
variable {P:Program}{w:World}{H:Hp}{h h':Heap}{x e:Addr}{o':HO}
theorem HOk.write (ok:HOk P w H h)(mu:Mut (H x))(he:e=x\/H e=some (.own x))(k:∀b u,b≠e->h.get? b=some u->h'.get? b=some u)(heo:∃u,h'.get? e=some u)
  (new:ObjOk P w (upd H x o') h' x o'):HOk P w (upd H x o') h':=fun b u q=>by
 have nown:∀c y,H c=some (.own y)->c≠x:=fun c y r z=>by subst z;rw[r] at mu;exact mu
 have ntup:∀c xs,H c=some (.tup xs)->c≠x:=fun c xs r z=>by subst z;rw[r] at mu;exact mu
 by_cases hb:b=x
 ·subst hb;rw[upd_same] at q;cases q;exact new
 ·rw[upd_ne hb] at q;by_cases hbe:b=e
  ·have q':H b=some (.own x):=by
    rcases he with z|z
    ·exact absurd (hbe.trans z) hb
    ·rw[hbe];exact z
   rw[q] at q';cases q';obtain⟨v,hv⟩:=heo;exact⟨v,by rw[hbe];exact hv⟩
  ·refine(ok b u q).stay (fun c v hc r=>k c v ?_ r) (fun c r=>by rw[upd_ne (nown c b r)];exact r) fun c xs r=>by rw[upd_ne (ntup c xs r)];exact r
   rcases hc with rfl|hc
   ·exact hbe
   ·rintro rfl;rcases he with z|z
    ·exact nown c b hc z
    ·rw[hc] at z;cases z;exact hb rfl
end
structure Un (fs ex:List Addr)(H H':Hp)(h h':Heap):Prop where
 keep:∀b o,h.get? b=some o->H b=none->b∉fs->b∉ex->h'.get? b=some o
 slot:∀b o,h.get? b=some o->H b=none->b∈fs->b∉ex->∃sl,h'.get? b=some { o with slots:=sl }
 free:∀b o,h.get? b=some o->H b=none->b∉ex->H' b=none
 there:∀b o,h.get? b=some o->b∉ex->∃o',h'.get? b=some o'
 tups:∀b xs,H b=some (.tup xs)->H' b=some (.tup xs)
 frzs:∀b o u,H b=some (.frz o u)->H' b=some (.frz o u)
 tbls:∀b ps,H b=some (.tbl ps)->∃more,H' b=some (.tbl (ps++more))
section
variable {fs fs' ex ex':List Addr}{H H1 H2:Hp}{h h1 h2 h':Heap}{a x e:Addr}{o:HO}
theorem Un.any (u:Un fs ex H H1 h h1){b ob}(q:h.get? b=some ob)(n:H b=none)(hx:b∉ex):∃sl,h1.get? b=some { ob with slots:=sl }:=by
 by_cases hb:b∈fs
 ·exact u.slot b ob q n hb hx
 ·exact⟨ob.slots,u.keep b ob q n hb hx⟩
theorem Un.kept (k:∀b u,h.get? b=some u->h'.get? b=some u):Un fs ex H H h h':=
 ⟨fun b ob q _ _ _=>k b ob q,fun b ob q _ _ _=>⟨ob.slots,k b ob q⟩,fun _ _ _ n _=>n,fun b ob q _=>⟨ob,k b ob q⟩,fun _ _ q=>q,fun _ _ _ q=>q,fun _ ps q=>⟨#[],by rw[q];simp⟩⟩
theorem Un.refl:Un fs ex H H h h:=Un.kept fun _ _ q=>q
theorem Un.laid (k:∀b u,h.get? b=some u->h'.get? b=some u)(hp:h.objs.size<=a)(hn:H a=none):Un fs ex H (upd H a o) h h' where
 keep:=fun b u q _ _ _=>k b u q
 slot:=fun b u q _ _ _=>⟨u.slots,k b u q⟩
 free:=fun b u q n _=>by rw[upd_ne (Nat.ne_of_lt (Nat.lt_of_lt_of_le (Heap.lt_size q) hp))];exact n
 there:=fun b u q _=>⟨u,k b u q⟩
 tups:=fun b xs q=>by rw[upd_ne (ne_of_none q hn)];exact q
 frzs:=fun b u xs q=>by rw[upd_ne (ne_of_none q hn)];exact q
 tbls:=fun b ps q=>⟨#[],by rw[upd_ne (ne_of_none q hn),q];simp⟩
theorem Un.write (mu:Mut (H x))(he:e=x\/H e=some (.own x))(k:∀b u,b≠e->h.get? b=some u->h'.get? b=some u)(heo:∃u,h'.get? e=some u):Un fs ex H (upd H x o) h h':=by
 have hx:∀b,H b=none->b≠x:=fun b n z=>by subst z;rw[n] at mu;exact mu
 have hb:∀b,H b=none->b≠e:=fun b n z=>by
  subst z;rcases he with r|r
  ·exact hx b n r
  ·rw[n] at r;cases r
 have hm:∀b u,H b=some u->¬Mut (some u)->b≠x:=fun b u q nm z=>by subst z;rw[q] at mu;exact nm mu
 refine⟨fun b u q n _ _=>k b u (hb b n) q,fun b u q n _ _=>⟨u.slots,k b u (hb b n) q⟩,fun b u q n _=>by rw[upd_ne (hx b n)];exact n,fun b u q _=>?_,
  fun b xs q=>by rw[upd_ne (hm b _ q fun z=>z)];exact q,fun b u xs q=>by rw[upd_ne (hm b _ q fun z=>z)];exact q,fun b ps q=>⟨#[],by rw[upd_ne (hm b _ q fun z=>z),q];simp⟩⟩
 by_cases hbe:b=e
 ·subst hbe;exact heo
 ·exact⟨u,k b u hbe q⟩
end
def trk (h:Heap)(H:Hp):List Addr:=(List.range h.objs.size).filter fun a=>(H a).isSome
def hidT (h:Heap)(H:Hp):Heap:=PySem.W.hideAll h (trk h H)
theorem hidT_size (h:Heap)(H:Hp):(hidT h H).objs.size=h.objs.size:=PySem.W.hideAll_size _ _
theorem hidT_get {h:Heap}{H:Hp}{b o}(e:h.get? b=some o)(n:H b=none):(hidT h H).get? b=some o:=
 PySem.W.hideAll_get _ e fun hm=>by
  have q:(H b).isSome=true:=(List.mem_filter.mp hm).2;rw[n] at q;simp at q
theorem of_hidT {h:Heap}{H:Hp}{b o}(e:(hidT h H).get? b=some o):h.get? b=some o/\H b=none:=by
 have e':h.get? b=some o:=PySem.W.of_hideAll (trk h H) e;refine⟨e',?_⟩;cases q:H b with
 | none=>rfl
 | some x=>
  have hm:b∈trk h H:=List.mem_filter.mpr ⟨List.mem_range.mpr (Heap.lt_size e'),by simp[q]⟩;have z:(hidT h H).get? b=none:=PySem.W.hideAll_none (trk h H) hm;rw[z] at e;cases e
structure Mod (K:Frag)(mg:Str->Option Value)(base:Heap):Prop where
 kin:K.In base
 glob:base.Ns mainGlobals mg
 blt:∃mb,base.Ns builtinsNs mb/\∀x:Str,x ≠ "__name__"->mb x=bootBuiltins x
 nolimit:base.NoLimit
structure Cx where
 prog:Program
 w:World
 K:Frag
 mg:Str->Option Value
 base:Heap
 A:Around
 N:List Str
 s₀:Shared
 H₀:Hp
 env:Env
 outer:List Env
 stack:List Env
 ex:List Addr
 fn:Str->Bool
 calm:Bool
 pn:List (Addr×Obj)
 xe:Value->Shared->Prop
def frs (l:List Env):List Addr:=l.filterMap (·.frame)
abbrev Cx.fs (X:Cx):List Addr:=frs X.outer
def Vis (sc:Scope)(x:Str):Prop:=sc.names.lookup x=some .local\/sc.names.lookup x=some .cell\/sc.names.lookup x=some .free
def Loc (sc:Scope)(x:Str):Prop:=sc.names.lookup x=some .local\/sc.names.lookup x=some .cell
def Look (env:Env)(h:Heap)(m:Str->Option Value)(x:Str)(u:Value):Prop:=
 (env.kindOf x=some .local/\m x=some u)\/((env.kindOf x=some .cell\/env.kindOf x=some .free)/\∃c,env.cells.lookup x=some c/\h.IsCell c (some u))
structure Cx.Ok (X:Cx):Prop where
 mod:Mod X.K X.mg X.base
 kind:X.env.scope.kind=.function
 glob:X.env.globals=mainGlobals
 blt:X.env.builtins=builtinsNs
 above:X.s₀.heap.objs.size<=X.env.locals
 inj:∀x y c,X.env.cells.lookup x=some c->X.env.cells.lookup y=some c->x=y
 has:∀x,(X.env.kindOf x=some .cell\/X.env.kindOf x=some .free)->∃c,X.env.cells.lookup x=some c
 cab:∀x c,X.fn x=true->X.env.cells.lookup x=some c->X.s₀.heap.objs.size<=c
 hd:X.calm=true->X.A.handled=none
 frames:X.A.frames=some X.stack
 stk:X.stack=X.outer\/(X.stack=X.env::X.outer/\X.env.frame=some X.env.locals)
 exf:∀b∈X.ex,b≠X.env.locals/\∀x c,X.env.cells.lookup x=some c->c≠b
 bs:∀b o,X.base.get? b=some o->X.s₀.heap.get? b=some o/\X.H₀ b=none
 bsz:X.base.objs.size<=X.s₀.heap.objs.size
 noex:∀b o,X.base.get? b=some o->b∉X.ex
 exfs:∀b∈X.ex,b∉X.fs
 funs:X.s₀.heap.FunFrames X.base X.outer
 frf:∀b∈X.fs,X.H₀ b=none
structure Inv (X:Cx)(pins:List (Addr×Obj))(σ:List (Option V))(H:Hp)(s:Shared):Prop where
 ok:X.Ok
 os:s.os=X.s₀.os
 bare:AllBare s.gens
 base:Un X.fs X.ex X.H₀ H X.s₀.heap s.heap
 loc:∃m,s.heap.Ns X.env.locals m/\∀(i:Nat) (x:Str) (v:V),X.N[i]?=some x->σ[i]?=some (some v)->Vis X.env.scope x->∃u,RelV v u/\Look X.env s.heap m x u
 cell:∀x c,X.env.cells.lookup x=some c->∃v,s.heap.IsCell c v
 free:H X.env.locals=none
 freeC:∀x c,X.env.cells.lookup x=some c->H c=none
 pin:∀p∈X.pn++pins,s.heap.get? p.1=some p.2/\H p.1=none/\p.1≠X.env.locals/\p.1∉X.fs/\∀v,p.2.data≠.cell v
 hok:HOk X.prog X.w H s.heap
 len:σ.length=X.N.length
section
variable {X:Cx}{pins:List (Addr×Obj)}{σ:List (Option V)}{H H':Hp}{s:Shared}{h':Heap}
theorem Cx.Ok.nofr (ok:X.Ok){b o}(e:X.base.get? b=some o):b∉X.fs:=fun hb=>by
 have:=(ok.funs.mem hb).1;rw[e] at this;cases this
theorem Inv.bs (I:Inv X pins σ H s):∀b o,X.base.get? b=some o->s.heap.get? b=some o/\H b=none:=fun b o e=>
 ⟨I.base.keep b o (I.ok.bs b o e).1 (I.ok.bs b o e).2 (I.ok.nofr e) (I.ok.noex b o e),I.base.free b o (I.ok.bs b o e).1 (I.ok.bs b o e).2 (I.ok.noex b o e)⟩
theorem Inv.bk (I:Inv X pins σ H s):∀b o,X.base.get? b=some o->s.heap.get? b=some o:=fun b o e=>(I.bs b o e).1
theorem Inv.mod (I:Inv X pins σ H s):Mod X.K X.mg X.base:=I.ok.mod
theorem Inv.kIn (I:Inv X pins σ H s):X.K.In s.heap:=I.ok.mod.kin.keeps I.bk
theorem Inv.lt (I:Inv X pins σ H s):X.env.locals<s.heap.objs.size:=let⟨_,hn,_⟩:=I.loc;hn.lt
theorem Inv.sz (I:Inv X pins σ H s):X.s₀.heap.objs.size<=s.heap.objs.size:=Nat.le_trans I.ok.above (Nat.le_of_lt I.lt)
theorem Inv.nofs (I:Inv X pins σ H s){a}(h:s.heap.objs.size<=a):a∉X.fs:=fun hb=>by
 obtain⟨_,o,ho,_⟩:=I.ok.funs.mem hb;exact absurd (Nat.lt_of_lt_of_le (Heap.lt_size ho) (Nat.le_trans I.sz h)) (Nat.lt_irrefl _)
theorem Inv.cne (I:Inv X pins σ H s):∀x c,X.env.cells.lookup x=some c->c≠X.env.locals:=fun x c e z=>by
 obtain⟨v,o,ho,hd⟩:=I.cell x c e;obtain⟨m,⟨o',es,ep,ho',hd',_⟩,_⟩:=I.loc;rw[z,ho'] at ho;cases ho;rw[hd'] at hd;cases hd
theorem Inv.funs (I:Inv X pins σ H s):s.heap.FunFrames X.base X.outer:=by
 have all:∀(l:List Env),(∀b∈frs l,b∈X.fs)->X.s₀.heap.FunFrames X.base l->s.heap.FunFrames X.base l:=by
  intro l
  induction l with
  | nil=>intro _ _;trivial
  | cons env r ih=>
   intro hs hl;obtain⟨hk,⟨L,o,hf,hn,ho,hd⟩,hr⟩:=hl;have hL:L∈X.fs:=hs L (by unfold frs;rw[List.filterMap_cons,hf];exact List.mem_cons_self);obtain⟨sl,e⟩:=I.base.slot L o ho (I.ok.frf L hL) hL fun z=>I.ok.exfs L z hL;exact⟨hk,⟨L,_,hf,hn,e,hd⟩,ih (fun b hb=>hs b (by unfold frs;rw[List.filterMap_cons,hf];exact List.mem_cons_of_mem _ hb)) hr⟩
 exact all X.outer (fun _ hb=>hb) I.ok.funs
theorem Inv.stack (I:Inv X pins σ H s):s.heap.FunFrames X.base X.stack:=by
 rcases I.ok.stk with e|⟨e,hf⟩
 ·rw[e];exact I.funs
 ·rw[e];obtain⟨m,hn,_⟩:=I.loc;refine .cons (by rw[I.ok.kind];decide) hf hn ?_ I.funs;exact Heap.get?_none_of_le (Nat.le_trans I.ok.bsz I.ok.above)
theorem Inv.stkSub (I:Inv X pins σ H s):∀b∈frs X.stack,b∈X.env.locals::X.fs:=fun b hb=>by
 rcases I.ok.stk with e|⟨e,hf⟩
 ·rw[e] at hb;exact List.mem_cons_of_mem _ hb
 ·rw[e] at hb;unfold frs at hb;rw[List.filterMap_cons,hf] at hb;exact hb
theorem Inv.stkFree (I:Inv X pins σ H s):∀b∈frs X.stack,H b=none:=fun b hb=>by
 rcases List.mem_cons.mp (I.stkSub b hb) with e|hb
 ·rw[e];exact I.free
 ·obtain⟨_,o,ho,_⟩:=I.ok.funs.mem hb;exact I.base.free b o ho (I.ok.frf b hb) fun z=>I.ok.exfs b z hb
theorem Inv.step {g':Array GenState}{t':Nat}{d':Drawn}{ch:List Addr}(I:Inv X pins σ H s)
  (hch:∀b∈ch,(b∈X.ex\/X.s₀.heap.objs.size<=b)/\b≠X.env.locals/\(∀x c,X.env.cells.lookup x=some c->c≠b)/\∀p∈X.pn++pins,p.1≠b)
  (keep:∀b o,b≠X.env.locals->b∉X.fs->b∉ch->s.heap.get? b=some o->H b=none->h'.get? b=some o)
  (slot:∀b o,b≠X.env.locals->b∈X.fs->b∉ch->s.heap.get? b=some o->H b=none->∃sl,h'.get? b=some { o with slots:=sl }) (free:∀b o,b∉ch->s.heap.get? b=some o->H b=none->H' b=none)
  (there:∀b o,b∉ch->s.heap.get? b=some o->∃o',h'.get? b=some o')
  (tups:∀b xs,H b=some (.tup xs)->H' b=some (.tup xs)) (frzs:∀b o u,H b=some (.frz o u)->H' b=some (.frz o u)) (tbls:∀b ps,H b=some (.tbl ps)->∃more,H' b=some (.tbl (ps++more)))
  (ns:∀m,s.heap.Ns X.env.locals m->h'.Ns X.env.locals m) (hok:HOk X.prog X.w H' h') (hg:AllBare g') :
  Inv X pins σ H' { s with heap:=h',gens:=g',drawn:=d',toks:=t' }:=by
 have neL:∀b o,X.s₀.heap.get? b=some o->b≠X.env.locals:=fun b o e=>Nat.ne_of_lt (Nat.lt_of_lt_of_le (Heap.lt_size e) I.ok.above)
 have neC:∀b o,X.s₀.heap.get? b=some o->b∉X.ex->b∉ch:=fun b o e hx hb=>by
  rcases(hch b hb).1 with z|z
  ·exact hx z
  ·exact absurd (Nat.lt_of_lt_of_le (Heap.lt_size e) z) (Nat.lt_irrefl _)
 have cellK:∀x c,X.env.cells.lookup x=some c->∀v,s.heap.IsCell c v->h'.IsCell c v:=fun x c e v ⟨o,ho,hd⟩=>by
  have nch:c∉ch:=fun z=>(hch c z).2.2.1 x c e rfl;by_cases hc:c∈X.fs
  ·obtain⟨sl,q⟩:=slot c o (I.cne x c e) hc nch ho (I.freeC x c e);exact⟨_,q,hd⟩
  ·exact⟨o,keep c o (I.cne x c e) hc nch ho (I.freeC x c e),hd⟩
 refine⟨I.ok,I.os,hg,⟨fun b o e n hb hx=>?_,fun b o e n hb hx=>?_,fun b o e n hx=>?_,fun b o e hx=>?_,fun b xs e=>tups b xs (I.base.tups b xs e),fun b o xs e=>frzs b o xs (I.base.frzs b o xs e),fun b ps e=>?_⟩,?_,fun x c e=>?_,?_,fun x c e=>?_,fun p hp=>?_,hok,I.len⟩
 ·exact keep b o (neL b o e) hb (neC b o e hx) (I.base.keep b o e n hb hx) (I.base.free b o e n hx)
 ·obtain⟨sl,e1⟩:=I.base.slot b o e n hb hx;obtain⟨sl',e2⟩:=slot b _ (neL b o e) hb (neC b o e hx) e1 (I.base.free b o e n hx);exact⟨sl',e2⟩
 ·obtain⟨o',e1⟩:=I.base.there b o e hx;exact free b o' (neC b o e hx) e1 (I.base.free b o e n hx)
 ·obtain⟨o',e1⟩:=I.base.there b o e hx;exact there b o' (neC b o e hx) e1
 ·obtain⟨m1,e1⟩:=I.base.tbls b ps e;obtain⟨m2,e2⟩:=tbls b _ e1;exact⟨m1++m2,by rw[e2,Array.append_assoc]⟩
 ·obtain⟨m,hn,hl⟩:=I.loc;refine⟨m,ns m hn,fun i x v e1 e2 e3=>?_⟩;obtain⟨u,r,l⟩:=hl i x v e1 e2 e3;refine⟨u,r,?_⟩;rcases l with l|⟨k,c,e,z⟩
  ·exact .inl l
  ·exact .inr ⟨k,c,e,cellK x c e _ z⟩
 ·obtain⟨v,z⟩:=I.cell x c e;exact⟨v,cellK x c e v z⟩
 ·obtain⟨m,⟨o,_,_,ho,_⟩,_⟩:=I.loc;exact free _ o (fun z=>(hch _ z).2.1 rfl) ho I.free
 ·obtain⟨v,o,ho,hd⟩:=I.cell x c e;exact free c o (fun z=>(hch c z).2.2.1 x c e rfl) ho (I.freeC x c e)
 ·obtain⟨e,n,ne,nf,d⟩:=I.pin p hp;have nch:p.1∉ch:=fun z=>(hch p.1 z).2.2.2 p hp rfl;exact⟨keep p.1 p.2 ne nf nch e n,free p.1 p.2 nch e n,ne,nf,d⟩
theorem Inv.un {t':Nat}(I:Inv X pins σ H s)(u:Un X.fs [] H H' s.heap h')(hok:HOk X.prog X.w H' h'):Inv X pins σ H' { s with heap:=h',toks:=t' }:=by
 obtain⟨m,⟨o,es,ep,ho,r⟩,_⟩:=id I.loc;obtain⟨sl,hL⟩:=u.any ho I.free (by simp)
 exact I.step (g':=s.gens) (d':=s.drawn) (ch:=[]) (fun _ z=>nomatch z) (fun b o _ hb _ e n=>u.keep b o e n hb (by simp)) (fun b o _ hb _ e n=>u.slot b o e n hb (by simp)) (fun b o _ e n=>u.free b o e n (by simp)) (fun b o _ e=>u.there b o e (by simp)) u.tups u.frzs u.tbls (fun m' hm=>by
  obtain⟨o',es',ep',ho',r'⟩:=hm;rw[ho] at ho';cases ho'
  exact⟨_,es',ep',hL,r'⟩) hok I.bare
theorem Inv.call {g':Array GenState}{t':Nat}{d':Drawn}{ch}(I:Inv X pins σ H s)(u:Un (frs X.stack) ch H H' s.heap h')(hok:HOk X.prog X.w H' h')(hg:AllBare g')
  (hch:∀b∈ch,(b∈X.ex\/X.s₀.heap.objs.size<=b)/\b≠X.env.locals/\(∀x c,X.env.cells.lookup x=some c->c≠b)/\∀p∈X.pn++pins,p.1≠b) :
  Inv X pins σ H' { s with heap:=h',gens:=g',drawn:=d',toks:=t' }:=by
 obtain⟨m,⟨o,es,ep,ho,r⟩,_⟩:=id I.loc;obtain⟨sl,hL⟩:=u.any ho I.free fun z=>(hch _ z).2.1 rfl
 exact I.step (ch:=ch) hch (fun b o hL hb hc e n=>u.keep b o e n (fun z=>(List.mem_cons.mp (I.stkSub b z)).elim hL hb) hc) (fun b o _ _ hc e n=>u.any e n hc) (fun b o hc e n=>u.free b o e n hc) (fun b o hc e=>u.there b o e hc) u.tups u.frzs u.tbls (fun m' hm=>by
  obtain⟨o',es',ep',ho',r'⟩:=hm;rw[ho] at ho';cases ho'
  exact⟨_,es',ep',hL,r'⟩) hok hg
theorem Inv.turned {t':Nat}{it}(I:Inv X pins σ H s)(k:∀b o,b≠it->s.heap.get? b=some o->h'.get? b=some o)(hn:H it=none)(hL:it≠X.env.locals)
  (h1:it∈X.ex\/X.s₀.heap.objs.size<=it) (h2:∀x c,X.env.cells.lookup x=some c->c≠it) (h3:∀p∈X.pn++pins,p.1≠it):Inv X pins σ H { s with heap:=h',toks:=t' }:=by
 have nit:∀b u,H b=some u->b≠it:=fun b u e z=>by rw[z,hn] at e;cases e
 refine I.step (g':=s.gens) (d':=s.drawn) (ch:=[it]) (fun b hb=>?_) (fun b o _ _ hc e _=>k b o (fun z=>hc (by simp[z])) e) (fun b o _ _ hc e _=>⟨o.slots,k b o (fun z=>hc (by simp[z])) e⟩) (fun _ _ _ _ n=>n)
  (fun b o hc e=>⟨o,k b o (fun z=>hc (by simp[z])) e⟩) (fun _ _ e=>e) (fun _ _ _ e=>e) (fun b ps e=>⟨#[],by rw[e];simp⟩) (fun m hm=>?_) (fun b u e=>?_) I.bare
 ·have e:b=it:=by simpa using hb
  subst e;exact⟨h1,hL,h2,h3⟩
 ·obtain⟨o,es,ep,ho,r⟩:=hm;exact⟨o,es,ep,k _ o (Ne.symm hL) ho,r⟩
 ·refine(I.hok b u e).stay (fun c v hc q=>k c v ?_ q) (fun _ q=>q) fun _ _ q=>q;rcases hc with z|z
  ·rw[z];exact nit b u e
  ·exact nit c _ z
theorem Inv.tok (I:Inv X pins σ H s)(t:Nat):Inv X pins σ H { s with toks:=t }:=I.un (h':=s.heap) (t':=t) Un.refl I.hok
theorem Inv.kept {t':Nat}(I:Inv X pins σ H s)(k:∀b u,s.heap.get? b=some u->h'.get? b=some u):Inv X pins σ H { s with heap:=h',toks:=t' }:=I.un (Un.kept k) (I.hok.kept k)
theorem Inv.laid {a o}{t':Nat}(I:Inv X pins σ H s)(k:∀b u,s.heap.get? b=some u->h'.get? b=some u)(hp:s.heap.objs.size<=a)(new:ObjOk X.prog X.w (upd H a o) h' a o) :
  Inv X pins σ (upd H a o) { s with heap:=h',toks:=t' }:=I.un (Un.laid k hp (I.hok.fresh hp)) (I.hok.laid k hp new)
theorem Inv.write {x e o}{t':Nat}(I:Inv X pins σ H s)(mu:Mut (H x))(he:e=x\/H e=some (.own x))(k:∀b u,b≠e->s.heap.get? b=some u->h'.get? b=some u)(heo:∃u,h'.get? e=some u)
  (new:ObjOk X.prog X.w (upd H x o) h' x o):Inv X pins σ (upd H x o) { s with heap:=h',toks:=t' }:=I.un (Un.write mu he k heo) (I.hok.write mu he k heo new)
theorem Inv.pins_of {pins'}(I:Inv X pins σ H s)(h:∀p∈pins',s.heap.get? p.1=some p.2/\H p.1=none/\p.1≠X.env.locals/\p.1∉X.fs/\∀v,p.2.data≠.cell v):Inv X pins' σ H s:=
 ⟨I.ok,I.os,I.bare,I.base,I.loc,I.cell,I.free,I.freeC,fun p hp=>(List.mem_append.mp hp).elim (fun z=>I.pin p (List.mem_append_left _ z)) (h p),I.hok,I.len⟩
theorem nodup_ix {N:List Str}(hN:N.Nodup){i j:Nat}{x}(a:N[i]?=some x)(b:N[j]?=some x):i=j:=by
 obtain⟨h1,e1⟩:=List.getElem?_eq_some_iff.mp a;obtain⟨h2,e2⟩:=List.getElem?_eq_some_iff.mp b;exact(List.getElem_inj hN).mp (e1.trans e2.symm)
theorem store_ok2 {M:Model}{A:Around}{E:Value->Shared->Prop}{i:Nat}{x v u}{Q:Unit->Shared->Prop}(I:Inv X pins σ H s)(hN:X.N.Nodup)(hi:X.N[i]?=some x)(hx:Loc X.env.scope x)(r:RelV v u)
  (h:∀s',Inv X pins (σ.set i (some v)) H s'->(∃a,Heap.SameBut a s.heap s'.heap/\(a=X.env.locals\/X.env.cells.lookup x=some a))->Q () s') (hf:X.fn x=true\/X.env.scope.names.lookup x=some .local:=by first|exact .inl rfl|exact .inr rfl|assumption):wpAny M A (storeName X.env x u) Q E s:=by
 obtain⟨m,hn,hl⟩:=id I.loc;have hcls:(X.env.scope.kind==.class||(X.env.scope.kind==.module&&X.env.locals != X.env.globals))=false:=by rw[I.ok.kind];rfl
 have hiσ:i<σ.length:=by rw[I.len];exact(List.getElem?_eq_some_iff.mp hi).1
 have cne:=I.cne
 have tracked:∀{a:Addr} {h':Heap},(∃o,s.heap.get? a=some o/\H a=none)->Heap.SameBut a s.heap h'->HOk X.prog X.w H h':=fun {a h'} ha hs b ob e=>by
  obtain⟨_,_,hfree⟩:=ha;refine(I.hok b ob e).stay (fun c w' hc q=>(hs.2 c ?_).trans q) (fun _ q=>q) fun _ _ q=>q;rintro rfl;rcases hc with rfl|hc
  ·rw[hfree] at e;cases e
  ·rw[hfree] at hc;cases hc
 rcases hx with hk|hk
 ·refine wpAny_storeName_local hk hn (fun h' hn' hs=>?_) hcls;obtain⟨oL,_,_,hoL,_⟩:=id hn;refine h _ ⟨I.ok,I.os,I.bare,⟨fun b o e n hb hx=>?_,fun b o e n hb hx=>?_,I.base.free,fun b o e hx=>?_,I.base.tups,I.base.frzs,I.base.tbls⟩,⟨_,hn',fun j y v' e1 e2 e3=>?_⟩,fun y c e=>?_,I.free,I.freeC,fun p hp=>?_,tracked ⟨oL,hoL,I.free⟩ hs,by simpa using I.len⟩ ⟨_,hs,.inl rfl⟩
  ·exact(hs.2 b (Nat.ne_of_lt (Nat.lt_of_lt_of_le (Heap.lt_size e) I.ok.above))).trans (I.base.keep b o e n hb hx)
  ·obtain⟨sl,e1⟩:=I.base.slot b o e n hb hx;exact⟨sl,(hs.2 b (Nat.ne_of_lt (Nat.lt_of_lt_of_le (Heap.lt_size e) I.ok.above))).trans e1⟩
  ·obtain⟨o',e1⟩:=I.base.there b o e hx;exact⟨o',(hs.2 b (Nat.ne_of_lt (Nat.lt_of_lt_of_le (Heap.lt_size e) I.ok.above))).trans e1⟩
  ·by_cases hj:j=i
   ·subst hj;rw[hi] at e1;cases e1;rw[List.getElem?_set_self hiσ] at e2;cases e2;exact⟨u,r,.inl ⟨hk,by simp⟩⟩
   ·rw[List.getElem?_set_ne (Ne.symm hj)] at e2;obtain⟨u',r',q⟩:=hl j y v' e1 e2 e3;refine⟨u',r',?_⟩;rcases q with⟨k,e⟩|⟨k,c,e,z⟩
    ·refine .inl ⟨k,?_⟩;have:y≠x:=fun e=>hj (nodup_ix hN e1 (e▸hi));simp[this,e]
    ·exact .inr ⟨k,c,e,z.sameBut hs (cne y c e)⟩
  ·obtain⟨w',z⟩:=I.cell y c e;exact⟨w',z.sameBut hs (cne y c e)⟩
  ·obtain⟨e,n,ne,nf,d⟩:=I.pin p hp;exact⟨(hs.2 p.1 ne).trans e,n,ne,nf,d⟩
 ·have hfn:X.fn x=true:=by
   rcases hf with z|z
   ·exact z
   ·rw[z] at hk;cases hk
  obtain⟨c,hc⟩:=I.ok.has x (.inl hk);obtain⟨w',z⟩:=I.cell x c hc;refine wpAny_storeName_cell I.ok.kind hk hc z (fun h' hc' hs=>?_);obtain⟨oc,hoc,hocd⟩:=id z
  refine h { s with heap:=h' } ⟨I.ok,I.os,I.bare,⟨fun b o e n hb hx=>?_,fun b o e n hb hx=>?_,I.base.free,fun b o e hx=>?_,I.base.tups,I.base.frzs,I.base.tbls⟩,⟨m,hn.sameBut hs (Ne.symm (cne x c hc)),fun j y v' e1 e2 e3=>?_⟩,fun y c' e=>?_,I.free,I.freeC,fun p hp=>?_,tracked ⟨oc,hoc,I.freeC x c hc⟩ hs,by simpa using I.len⟩ ⟨c,hs,.inr hc⟩
  ·exact(hs.2 b (Nat.ne_of_lt (Nat.lt_of_lt_of_le (Heap.lt_size e) (I.ok.cab x c hfn hc)))).trans (I.base.keep b o e n hb hx)
  ·obtain⟨sl,e1⟩:=I.base.slot b o e n hb hx;exact⟨sl,(hs.2 b (Nat.ne_of_lt (Nat.lt_of_lt_of_le (Heap.lt_size e) (I.ok.cab x c hfn hc)))).trans e1⟩
  ·obtain⟨o',e1⟩:=I.base.there b o e hx;exact⟨o',(hs.2 b (Nat.ne_of_lt (Nat.lt_of_lt_of_le (Heap.lt_size e) (I.ok.cab x c hfn hc)))).trans e1⟩
  ·by_cases hj:j=i
   ·subst hj;rw[hi] at e1;cases e1;rw[List.getElem?_set_self hiσ] at e2;cases e2;exact⟨u,r,.inr ⟨.inl hk,c,hc,hc'⟩⟩
   ·rw[List.getElem?_set_ne (Ne.symm hj)] at e2;obtain⟨u',r',q⟩:=hl j y v' e1 e2 e3;refine⟨u',r',?_⟩;rcases q with q|⟨k,c',e,z'⟩
    ·exact .inl q
    ·refine .inr ⟨k,c',e,z'.sameBut hs ?_⟩;rintro rfl;exact hj (nodup_ix hN e1 (I.ok.inj _ _ _ e hc▸hi))
  ·by_cases hcc:c'=c
   ·subst hcc;exact⟨_,hc'⟩
   ·obtain⟨w2,z2⟩:=I.cell y c' e;exact⟨w2,z2.sameBut hs hcc⟩
  ·obtain⟨e,n,ne,nf,d⟩:=I.pin p hp;refine⟨(hs.2 p.1 ?_).trans e,n,ne,nf,d⟩;intro q;rw[q,hoc] at e;have q':oc=p.2:=Option.some.inj e;exact d w' (by rw[<- q'];exact hocd)
theorem store_ok {M:Model}{A:Around}{E:Value->Shared->Prop}{i:Nat}{x v u}{Q:Unit->Shared->Prop}(I:Inv X pins σ H s)(hN:X.N.Nodup)(hi:X.N[i]?=some x)(hx:Loc X.env.scope x)(r:RelV v u)
  (h:∀s',Inv X pins (σ.set i (some v)) H s'->Q () s') (hf:X.fn x=true\/X.env.scope.names.lookup x=some .local:=by first|exact .inl rfl|exact .inr rfl|assumption):wpAny M A (storeName X.env x u) Q E s:=
 store_ok2 I hN hi hx r (fun s' I' _=>h s' I') hf
theorem Inv.call' {s':Shared}{ch}(I:Inv X pins σ H s)(ho:s'.os=s.os)(u:Un (frs X.stack) ch H H' s.heap s'.heap)(hok:HOk X.prog X.w H' s'.heap)(hg:AllBare s'.gens)
  (hch:∀b∈ch,(b∈X.ex\/X.s₀.heap.objs.size<=b)/\b≠X.env.locals/\(∀x c,X.env.cells.lookup x=some c->c≠b)/\∀p∈X.pn++pins,p.1≠b):Inv X pins σ H' s':=by
 obtain⟨h',g',d',t',o'⟩:=s';have e:o'=s.os:=ho;subst e;exact I.call (g':=g') (t':=t') (d':=d') u hok hg hch
end
abbrev XK:=Value->Option Addr->Hp->Prop
abbrev St:=List (Option V)
abbrev VK:=V->Hp->Prop
abbrev TE:=St->Hp->VK->Prop
abbrev TT:=St->Hp->(Bool->Hp->Prop)->Prop
abbrev TA:=St->Hp->(List V->Hp->Prop)->Prop
structure Ends where
 nx:St->Hp->Prop
 rt:VK
 bk:St->Hp->Prop:=fun _ _=>False
 ct:St->Hp->Prop:=fun _ _=>False
abbrev TS:=Ends->St->Hp->Prop
def EP (X:Cx)(pins:List (Addr×Obj))(σ:St)(Q:VK)(u:Value)(s':Shared):Prop:=∃v H',Inv X pins σ H' s'/\RelV v u/\Q v H'
def TP (X:Cx)(pins:List (Addr×Obj))(σ:St)(Q:Bool->Hp->Prop)(b:Bool)(s':Shared):Prop:=∃H',Inv X pins σ H' s'/\Q b H'
def AP (X:Cx)(pins:List (Addr×Obj))(σ:St)(Q:List V->Hp->Prop)(us:List Value)(s':Shared):Prop:=∃vs H',Inv X pins σ H' s'/\Vals vs us/\Q vs H'
def SP (X:Cx)(pins:List (Addr×Obj))(D:Ends)(f:Flow)(s':Shared):Prop:=
 match f with
 | .next=>∃σ' H',Inv X pins σ' H' s'/\D.nx σ' H'
 | .brk=>∃σ' H',Inv X pins σ' H' s'/\D.bk σ' H'
 | .cont=>∃σ' H',Inv X pins σ' H' s'/\D.ct σ' H'
 | .ret u=>∃v σ' H',Inv X pins σ' H' s'/\RelV v u/\D.rt v H'
def PE (X:Cx)(e:Expr)(t:TE):Prop:=
 ∀(pins:List (Addr×Obj)) (s:Shared) (σ:St) (H:Hp) (Q:VK),Inv X pins σ H s->t σ H Q->wpAny (model X.prog X.w) X.A (eval e X.env) (EP X pins σ Q) X.xe s
def PT (X:Cx)(e:Expr)(t:TT):Prop:=
 ∀(pins:List (Addr×Obj)) (s:Shared) (σ:St) (H:Hp) (Q:Bool->Hp->Prop),Inv X pins σ H s->t σ H Q->wpAny (model X.prog X.w) X.A (isTrue e X.env (eval e X.env)) (TP X pins σ Q) X.xe s
def PW (X:Cx)(e:Expr)(t:TT):Prop:=
 ∀(whole:Sem Value) (pins:List (Addr×Obj)) (s:Shared) (σ:St) (H:Hp) (Q:Bool->Hp->Prop),Inv X pins σ H s->t σ H Q->wpAny (model X.prog X.w) X.A (isTrue e X.env whole) (TP X pins σ Q) X.xe s
theorem PW.pt {X:Cx}{e t}(h:PW X e t):PT X e t:=h _
def PA (X:Cx)(es:List Expr)(t:TA):Prop:=
 ∀(pos:Pos) (pins:List (Addr×Obj)) (s:Shared) (σ:St) (H:Hp) (Q:List V->Hp->Prop),Inv X pins σ H s->t σ H Q->wpAny (model X.prog X.w) X.A (spliced (backTo pos (starEach es X.env))) (AP X pins σ Q) X.xe s
def PS (X:Cx)(st:Stmt)(t:TS):Prop:=
 ∀(pins:List (Addr×Obj)) (s:Shared) (σ:St) (H:Hp) (D:Ends),Inv X pins σ H s->t D σ H->wpAny (model X.prog X.w) X.A (exec st X.env) (SP X pins D) X.xe s
def PSs (X:Cx)(st:List Stmt)(t:TS):Prop:=
 ∀(pins:List (Addr×Obj)) (s:Shared) (σ:St) (H:Hp) (D:Ends),Inv X pins σ H s->t D σ H->wpAny (model X.prog X.w) X.A (execs st X.env) (SP X pins D) X.xe s
theorem thn {α:Type}{t:Sem α}{Q Q':α->Shared->Prop}{M:Model}{A:Around}{E:Value->Shared->Prop}{s:Shared}(h:wpAny M A t Q E s)(hQ:∀a s,Q a s->Q' a s):wpAny M A t Q' E s:=wpAny_mono h hQ fun _ _ x=>x
section
variable {X:Cx}
def tVar (i:Nat):TE:=fun σ H Q=>∃v,σ[i]?=some (some v)/\Q v H
def tC (v:V):TE:=fun _ H Q=>Q v H
theorem pe_var {i:Nat}{x}{pos:Pos}(hN:X.N[i]?=some x)(hv:Vis X.env.scope x)(hd:(x==("__debug__" : Str))=false:=by decide)(hcd:(x==("__classdict__" : Str))=false:=by decide):PE X (.Name x pos) (tVar i):=by
 intro pins s σ H Q I h;obtain⟨v,e,h⟩:=h;obtain⟨m,hn,hl⟩:=I.loc;obtain⟨u,r,l⟩:=hl i x v hN e hv;have fin:EP X pins σ Q u s:=⟨v,H,I,r,h⟩;rcases l with⟨hk,hm⟩|⟨hk,c,hc,hcell⟩
 ·exact wpAny_Name (wpAny_loadName_local I.ok.kind hk hn hm fin) hd
 ·rcases hk with hk|hk
  ·exact wpAny_Name (wpAny_loadName_cell I.ok.kind hk hc hcell fin) hd
  ·exact wpAny_Name (wpAny_loadName_free I.ok.kind hk hc hcell fin hcd) hd
theorem pe_int {i j pos}:PE X (.Constant (.int i) j pos) (tC (.int i)):=fun _ _ _ H _ I h=>wpAny_Constant_int ⟨.int i,H,I.tok _,⟨_,rfl⟩,h⟩
theorem pe_bl {b j pos}:PE X (.Constant (.bool b) j pos) (tC (.bl b)):=fun _ _ _ H _ I h=>Constant_bool ⟨.bl b,H,I,rfl,h⟩
theorem pe_non {j pos}:PE X (.Constant .none j pos) (tC .non):=fun _ _ _ H _ I h=>Constant_none ⟨.non,H,I,rfl,h⟩
theorem pe_str {x j pos}:PE X (.Constant (.str x) j pos) (tC (.str x)):=fun _ _ _ H _ I h=>Calls.Constant_str ⟨.str x,H,I.tok _,⟨_,rfl⟩,h⟩
def Gl (X:Cx)(x:Str):Prop:=X.env.kindOf x=some .globalImplicit
theorem ld_glob {E:Value->Shared->Prop}{pins}{s:Shared}{σ:St}{H:Hp}{x u}{pos:Pos}{Q:Value->Shared->Prop}(I:Inv X pins σ H s)(hg:Gl X x)(hm:X.mg x=some u)(h:Q u s)
  (hd:(x==("__debug__" : Str))=false:=by decide):wpAny (model X.prog X.w) X.A (eval (.Name x pos) X.env) Q E s:=
 Calls.Name_function_global I.ok.kind hg (Calls.loadGlobal_global (by rw[I.ok.glob];exact I.mod.glob.keeps I.bk) hm h) hd
theorem ld_blt {E:Value->Shared->Prop}{pins}{s:Shared}{σ:St}{H:Hp}{x u}{pos:Pos}{Q:Value->Shared->Prop}(I:Inv X pins σ H s)(hg:Gl X x)(hm:X.mg x=none)(hv:bootBuiltins x=some u)(h:Q u s)
  (hn:x ≠ "__name__":=by decide) (hd:(x==("__debug__" : Str))=false:=by decide):wpAny (model X.prog X.w) X.A (eval (.Name x pos) X.env) Q E s:=by
 obtain⟨mb,h1,h2⟩:=I.mod.blt;exact Calls.Name_function_global I.ok.kind hg (Calls.loadGlobal_builtin (by rw[I.ok.glob];exact I.mod.glob.keeps I.bk) hm (by rw[I.ok.blt];exact h1.keeps I.bk) ((h2 x hn).trans hv) h) hd
theorem pe_glob {x v u}{pos:Pos}(hg:Gl X x)(hm:X.mg x=some u)(r:RelV v u)(hd:(x==("__debug__" : Str))=false:=by decide):PE X (.Name x pos) (tC v):=
 fun _ _ _ H _ I h=>ld_glob I hg hm ⟨v,H,I,r,h⟩ hd
theorem pe_bltn {x v u}{pos:Pos}(hg:Gl X x)(hm:X.mg x=none)(hv:bootBuiltins x=some u)(r:RelV v u)(hn:x ≠ "__name__":=by decide)(hd:(x==("__debug__" : Str))=false:=by decide):PE X (.Name x pos) (tC v):=
 fun _ _ _ H _ I h=>ld_blt I hg hm hv ⟨v,H,I,r,h⟩ hn hd
variable {a b:Expr}{ta tb:TE}{pos:Pos}
def tB (t:TE):TT:=fun σ H Q=>t σ H fun x H1=>∃c,x=.bl c/\Q c H1
theorem pt_val {e:Expr}{t}(h:PE X e t)(he:∀whole,isTrue e X.env whole=(do let v <- whole;standAt e.pos;holding [v] (truthy v)):=by intro _;rfl):PT X e (tB t):=by
 intro pins s σ H Q I hw;refine isTrue_plain (thn (h pins s σ H _ I hw) fun v s1 ⟨x,H1,I1,r1,q1⟩=>?_) (he _);obtain⟨d,rfl,q⟩:=q1;cases r1;exact wpAny_truthy_bool ⟨H1,I1,q⟩
variable {tA tB':TT}{rest:List Expr}
def tAnd (t u:TT):TT:=fun σ H Q=>t σ H fun c H1=>if c=true then u σ H1 Q else Q false H1
def tOr (t u:TT):TT:=fun σ H Q=>t σ H fun c H1=>if c=true then Q true H1 else u σ H1 Q
def tNot (t:TT):TT:=fun σ H Q=>t σ H fun c H1=>Q (!c) H1
theorem pw_and1 (ha:PT X a tA):PW X (.BoolOp .And [a] pos) tA:=by
 intro wh pins s σ H Q I h;refine isTrue_and (thn (ha pins s σ H Q I h) fun c s1 e=>?_);cases c with
 | true=>exact isTrue_and_nil e
 | false=>exact e
theorem pw_or1 (ha:PT X a tA):PW X (.BoolOp .Or [a] pos) tA:=by
 intro wh pins s σ H Q I h;refine isTrue_or (thn (ha pins s σ H Q I h) fun c s1 e=>?_);cases c with
 | false=>exact isTrue_or_nil e
 | true=>exact e
theorem pw_and (ha:PT X a tA)(hb:PW X (.BoolOp .And (b::rest) pos) tB'):PW X (.BoolOp .And (a::b::rest) pos) (tAnd tA tB'):=by
 intro wh pins s σ H Q I h;refine isTrue_and (thn (ha pins s σ H _ I h) fun c s1 ⟨H1,I1,q1⟩=>?_);cases c with
 | true=>exact hb wh pins s1 σ H1 Q I1 q1
 | false=>exact⟨H1,I1,q1⟩
theorem pw_or (ha:PT X a tA)(hb:PW X (.BoolOp .Or (b::rest) pos) tB'):PW X (.BoolOp .Or (a::b::rest) pos) (tOr tA tB'):=by
 intro wh pins s σ H Q I h;refine isTrue_or (thn (ha pins s σ H _ I h) fun c s1 ⟨H1,I1,q1⟩=>?_);cases c with
 | true=>exact⟨H1,I1,q1⟩
 | false=>exact hb wh pins s1 σ H1 Q I1 q1
theorem pt_not (ha:PT X a tA):PT X (.UnaryOp .Not a pos) (tNot tA):=by
 intro pins s σ H Q I h;exact isTrue_not (ha pins s σ H (fun c H1=>Q (!c) H1) I h)
def tAndV (ta tb:TE):TE:=fun σ H Q=>ta σ H fun x H1=>∃c,x=.bl c/\if c=true then tb σ H1 Q else Q (.bl false) H1
def tNotV (ta:TE):TE:=fun σ H Q=>ta σ H fun x H1=>∃c,x=.bl c/\Q (.bl (!c)) H1
theorem pe_one {op t}(h:PE X a t):PE X (.BoolOp op [a] pos) t:=fun pins s σ H Q I hw=>BoolOp_one (h pins s σ H Q I hw)
theorem pe_and (ha:PE X a ta)(hb:PE X (.BoolOp .And (b::rest) pos) tb):PE X (.BoolOp .And (a::b::rest) pos) (tAndV ta tb):=by
 intro pins s σ H Q I h;refine BoolOp_and (thn (ha pins s σ H _ I h) fun v s1 ⟨x,H1,I1,r1,q1⟩=>?_);obtain⟨c,rfl,q1⟩:=q1;cases r1;refine wpAny_truthy_bool ?_;cases c with
 | true=>exact hb pins s1 σ H1 Q I1 q1
 | false=>exact⟨.bl false,H1,I1,rfl,q1⟩
theorem pe_not (ha:PE X a ta):PE X (.UnaryOp .Not a pos) (tNotV ta):=by
 intro pins s σ H Q I h;refine UnaryOp_ (thn (ha pins s σ H _ I h) fun v s1 ⟨x,H1,I1,r1,q1⟩=>?_);obtain⟨c,rfl,q1⟩:=q1;cases r1;exact not_of (wpAny_truthy_bool ⟨.bl (!c),H1,I1,rfl,q1⟩)
def tIf (t:TT)(ta tb:TE):TE:=fun σ H Q=>t σ H fun c H1=>if c=true then ta σ H1 Q else tb σ H1 Q
theorem pe_ifExp {c}(hc:PT X c tA)(ha:PE X a ta)(hb:PE X b tb):PE X (.IfExp c a b pos) (tIf tA ta tb):=by
 intro pins s σ H Q I h;refine wpAny_IfExp (thn (hc pins s σ H _ I h) fun d s1 ⟨H1,I1,q1⟩=>?_);cases d with
 | true=>exact ha pins s1 σ H1 Q I1 q1
 | false=>exact hb pins s1 σ H1 Q I1 q1
end
def SqL (K:Frag)(H:Hp)(a:Addr)(xs:List V):Prop:=
 Rd H a (.lst xs) \/
  ∃(o:Obj) (its:Array Value) (n:Nat),K.lookup a=some o/\o.cls=.type "list"/\o.dict=none/\o.data=.seq its n/\its.size<=sizeLine/\Vals xs its.toList
def SqT (K:Frag)(H:Hp)(a:Addr)(xs:List V):Prop:=
 Rd H a (.tup xs) \/
  ∃(o:Obj) (its:Array Value) (n:Nat),K.lookup a=some o/\o.cls=.type "tuple"/\o.data=.seq its n/\its.size<=sizeLine/\Vals xs its.toList
def absV:Value->Option V
 | .none=>some .non
 | .bool b=>some (.bl b)
 | .int i _=>some (.int i)
 | .str x _=>some (.str x)
 | .bytes b _=>some (.byt b)
 | .float b _=>some (.flt b)
 | .ref a=>some (.ref a)
 | .type n=>some (.ty n)
 | _=>none
theorem RelV.abs {x u}(r:RelV x u):absV u=some x:=by
 cases x with
 | non=>cases r;rfl
 | bl _=>cases r;rfl
 | int _=>obtain⟨t,rfl⟩:=r;rfl
 | str _=>obtain⟨t,rfl⟩:=r;rfl
 | byt _=>obtain⟨t,rfl⟩:=r;rfl
 | flt _=>obtain⟨t,rfl⟩:=r;rfl
 | ref _=>cases r;rfl
 | ty _=>cases r;rfl
theorem RelV.inj {x y u}(r:RelV x u)(q:RelV y u):x=y:=Option.some.inj (r.abs.symm.trans q.abs)
theorem Vals.inj:∀{xs ys:List V} {us:List Value},Vals xs us->Vals ys us->xs=ys
 | _,_,_,.nil,.nil=>rfl
 | _,_,_,.cons r t,.cons r' t'=>by rw[r.inj r',Vals.inj t t']
section
variable {X:Cx}{pins:List (Addr×Obj)}{σ:St}{H:Hp}{s:Shared}{a:Addr}{xs ys:List V}
theorem SqL.of {K}(h:H a=some (.lst xs)):SqL K H a xs:=.inl (.inl h)
theorem SqT.of {K}(h:H a=some (.tup xs)):SqT K H a xs:=.inl (.inl h)
theorem Inv.list (I:Inv X pins σ H s)(h:SqL X.K H a xs):∃its:List Value,Vals xs its/\PlainL s.heap a its.toArray/\xs.length<=sizeLine:=by
 rcases h with h|⟨o,its,n,hk,hc,hd,hs,hz,r⟩
 ·obtain⟨z,its,n,r,e⟩:=h.ok I.hok;exact⟨its,r,⟨_,n,e,rfl,rfl,rfl⟩,z⟩
 ·refine⟨its.toList,r,⟨o,n,I.kIn a o hk,hc,hd,by simpa using hs⟩,?_⟩;have e:=r.length;simp only[Array.length_toList] at e;omega
theorem Inv.tuple (I:Inv X pins σ H s)(h:SqT X.K H a xs):∃its:List Value,Vals xs its/\IsTup s.heap a its.toArray/\xs.length<=sizeLine:=by
 rcases h with h|⟨o,its,n,hk,hc,hs,hz,r⟩
 ·obtain⟨z,its,r,p,_⟩:=h.ok I.hok;exact⟨its,r,p,z⟩
 ·refine⟨its.toList,r,⟨o,I.kIn a o hk,hc,n,by simpa using hs⟩,?_⟩;have e:=r.length;simp only[Array.length_toList] at e;omega
theorem Inv.list_inj (I:Inv X pins σ H s)(h:SqL X.K H a xs)(h':SqL X.K H a ys):xs=ys:=by
 obtain⟨its,r,⟨o,n,e,_,_,d⟩,_⟩:=I.list h;obtain⟨its',r',⟨o',n',e',_,_,d'⟩,_⟩:=I.list h';rw[e] at e';cases e';rw[d] at d';injection d' with d1 _;have:its=its':=by simpa using congrArg Array.toList d1
 subst this;exact r.inj r'
theorem Inv.tuple_inj (I:Inv X pins σ H s)(h:SqT X.K H a xs)(h':SqT X.K H a ys):xs=ys:=by
 obtain⟨its,r,⟨o,e,_,n,d⟩,_⟩:=I.tuple h;obtain⟨its',r',⟨o',e',_,n',d'⟩,_⟩:=I.tuple h';rw[e] at e';cases e';rw[d] at d';injection d' with d1 _;have:its=its':=by simpa using congrArg Array.toList d1
 subst this;exact r.inj r'
end
abbrev Cx.wish (X:Cx)(E:Value->Shared->Prop):Cx:={ X with xe:=E }
abbrev Cx.nox (X:Cx):Cx:=X.wish fun _ _=>False
theorem Cx.Ok.wish {X:Cx}(ok:X.Ok)(E:Value->Shared->Prop):(X.wish E).Ok:=
 ⟨ok.mod,ok.kind,ok.glob,ok.blt,ok.above,ok.inj,ok.has,ok.cab,ok.hd,ok.frames,ok.stk,ok.exf,ok.bs,ok.bsz,ok.noex,ok.exfs,ok.funs,ok.frf⟩
theorem Cx.Ok.unwish {X:Cx}{E:Value->Shared->Prop}(ok:(X.wish E).Ok):X.Ok:=
 ⟨ok.mod,ok.kind,ok.glob,ok.blt,ok.above,ok.inj,ok.has,ok.cab,ok.hd,ok.frames,ok.stk,ok.exf,ok.bs,ok.bsz,ok.noex,ok.exfs,ok.funs,ok.frf⟩
section
variable {X:Cx}{pins:List (Addr×Obj)}{σ:St}{H:Hp}{s:Shared}{E:Value->Shared->Prop}
theorem Inv.wish (I:Inv X pins σ H s)(E:Value->Shared->Prop):Inv (X.wish E) pins σ H s:=⟨I.ok.wish E,I.os,I.bare,I.base,I.loc,I.cell,I.free,I.freeC,I.pin,I.hok,I.len⟩
theorem Inv.unwish (I:Inv (X.wish E) pins σ H s):Inv X pins σ H s:=⟨I.ok.unwish,I.os,I.bare,I.base,I.loc,I.cell,I.free,I.freeC,I.pin,I.hok,I.len⟩
theorem SP.unwish {D:Ends}{f:Flow}{s':Shared}(h:SP (X.wish E) pins D f s'):SP X pins D f s':=by
 cases f with
 | next=>obtain⟨σ',H',I,q⟩:=h;exact⟨σ',H',I.unwish,q⟩
 | brk=>obtain⟨σ',H',I,q⟩:=h;exact⟨σ',H',I.unwish,q⟩
 | cont=>obtain⟨σ',H',I,q⟩:=h;exact⟨σ',H',I.unwish,q⟩
 | ret u=>obtain⟨v,σ',H',I,r,q⟩:=h;exact⟨v,σ',H',I.unwish,r,q⟩
theorem PSs.nox {st t}(h:PSs X.nox st t):PSs X st t:=fun pins s σ H D I hw=>
 wpAny_mono (h pins s σ H D (I.wish _) hw) (fun _ _ q=>q.unwish) fun _ _ z=>False.elim z
end
section
variable {X:Cx}{st:Stmt}{rest:List Stmt}{t u:TS}{e:Expr}{te:TE}{pos:Pos}
def tNext:TS:=fun D σ H=>D.nx σ H
def tSeq (t u:TS):TS:=fun D σ H=>t { D with nx:=u D } σ H
theorem pss_nil:PSs X [] tNext:=fun _ _ σ H _ I h=>wpAny_execs_nil ⟨σ,H,I,h⟩
theorem pss_cons (h1:PS X st t)(h2:PSs X rest u):PSs X (st::rest) (tSeq t u):=by
 intro pins s σ H D I h;refine wpAny_execs_cons (thn (h1 pins s σ H { D with nx:=u D } I h) fun f s1 q=>?_);cases f with
 | next=>
  obtain⟨σ',H',I',q⟩:=q;exact h2 pins s1 σ' H' D I' q
 | ret v=>exact q
 | brk=>exact q
 | cont=>exact q
theorem pss_one (h1:PS X st t):PSs X [st] t:=by
 intro pins s σ H D I h;refine wpAny_execs_cons (thn (h1 pins s σ H D I h) fun f s1 q=>?_);cases f with
 | next=>exact wpAny_execs_nil q
 | ret v=>exact q
 | brk=>exact q
 | cont=>exact q
theorem Inv.quiet {pins}{σ:St}{H:Hp}{s:Shared}(I:Inv X pins σ H s):interactive X.env=false:=by simp[interactive,I.ok.kind]
def tDrop (te:TE):TS:=fun D σ H=>te σ H fun _ H1=>D.nx σ H1
theorem ps_expr (he:PE X e te)(hs:swapsWith e none pos.line X.env=pure false:=by rfl):PS X (.Expr e pos) (tDrop te):=by
 intro pins s σ H D I h;exact wpAny_Expr_any (thn (he pins s σ H _ I h) fun v s1 ⟨x,H1,I1,r1,q1⟩=>⟨σ,H1,I1,q1⟩) I.quiet hs
def tRet (te:TE):TS:=fun D σ H=>te σ H D.rt
theorem ps_ret (he:PE X e te):PS X (.Return (some e) pos) (tRet te):=by
 intro pins s σ H D I h;exact wpAny_Return_some (thn (he pins s σ H _ I h) fun v s1 ⟨x,H1,I1,r1,q1⟩=>⟨x,σ,H1,I1,r1,q1⟩)
def tRetN:TS:=fun D _ H=>D.rt .non H
theorem ps_retN:PS X (.Return none pos) tRetN:=fun _ _ σ H _ I h=>wpAny_Return_none ⟨.non,σ,H,I,rfl,h⟩
def tIfS (c:TT)(t u:TS):TS:=fun D σ H=>c σ H fun b H1=>if b=true then t D σ H1 else u D σ H1
theorem ps_if {c a b tc}(hc:PT X c tc)(ha:PSs X a t)(hb:PSs X b u):PS X (.If c a b pos) (tIfS tc t u):=by
 intro pins s σ H D I h;refine wpAny_If (thn (hc pins s σ H _ I h) fun d s1 ⟨H1,I1,q1⟩=>?_);cases d with
 | true=>exact ha pins s1 σ H1 D I1 q1
 | false=>exact hb pins s1 σ H1 D I1 q1
def tNever:TS:=fun _ _ _=>False
theorem ps_never:PS X st tNever:=fun _ _ _ _ _ _ h=>h.elim
end
abbrev TG:=V->St->Hp->(St->Hp->Prop)->Prop
abbrev TGs:=List V->St->Hp->(St->Hp->Prop)->Prop
def PG (X:Cx)(target:Expr)(t:TG):Prop:=
 ∀(pins:List (Addr×Obj)) (s:Shared) (σ:St) (H:Hp) (v:V) (u:Value) (Q:St->Hp->Prop),Inv X pins σ H s->RelV v u->t v σ H Q ->
  wpAny (model X.prog X.w) X.A (assign target X.env u) (fun _ s'=>∃σ' H',Inv X pins σ' H' s'/\Q σ' H') X.xe s
def PGs (X:Cx)(ts:List Expr)(t:TGs):Prop:=
 ∀(pins:List (Addr×Obj)) (s:Shared) (σ:St) (H:Hp) (vs:List V) (us:List Value) (Q:St->Hp->Prop),Inv X pins σ H s->Vals vs us->t vs σ H Q ->
  wpAny (model X.prog X.w) X.A (assignInOrder ((assignEach ts X.env).map (·.2)) us) (fun _ s'=>∃σ' H',Inv X pins σ' H' s'/\Q σ' H') X.xe s
abbrev TSet:=V->V->V->Hp->(Hp->Prop)->Prop
def PSet (X:Cx)(t:TSet):Prop:=
 ∀(pins:List (Addr×Obj)) (s:Shared) (σ:St) (H:Hp) (o i v:V) (ov iv u:Value) (Q:Hp->Prop),Inv X pins σ H s->RelV o ov->RelV i iv->RelV v u->t o i v H Q ->
  wpAny (model X.prog X.w) X.A (setItem ov iv u) (fun _ s'=>∃H',Inv X pins σ H' s'/\Q H') X.xe s
section
variable {X:Cx}{pos:Pos}
def gName (i:Nat):TG:=fun v σ H Q=>Q (σ.set i (some v)) H
theorem pg_name {i:Nat}{x}(hN:X.N.Nodup)(hi:X.N[i]?=some x)(hx:Loc X.env.scope x)(hf:X.fn x=true\/X.env.scope.names.lookup x=some .local:=by first|exact .inl rfl|exact .inr rfl|assumption):PG X (.Name x pos) (gName i):=by
 intro pins s σ H v u Q I r h;exact wpAny_assign_Name (store_ok I hN hi hx r (fun s' I'=>⟨_,H,I',h⟩) hf)
def gNil:TGs:=fun vs σ H Q=>vs=[]/\Q σ H
def gCons (t:TG)(u:TGs):TGs:=fun vs σ H Q=>∃v r,vs=v::r/\t v σ H fun σ' H'=>u r σ' H' Q
theorem pgs_nil:PGs X [] gNil:=by
 intro pins s σ H vs us Q I r h;obtain⟨e,h⟩:=h;subst e;cases r;exact assignInOrder_nil ⟨σ,H,I,h⟩
theorem pgs_cons {e es t}{u:TGs}(h1:PG X e t)(h2:PGs X es u)
  (hs:(assignEach (e::es) X.env).map (·.2)=assign e X.env::(assignEach es X.env).map (·.2):=by rfl):PGs X (e::es) (gCons t u):=by
 intro pins s σ H vs us Q I r h;obtain⟨v,vr,e1,h⟩:=h;subst e1;cases r with
 | cons r rr=>
  rw[hs];refine assignInOrder_cons (thn (h1 pins s σ H _ _ _ I r h) fun _ s1 ⟨σ1,H1,I1,q1⟩=>?_);exact h2 pins s1 σ1 H1 _ _ Q I1 rr q1
def gTup (K:Frag)(n:Nat)(t:TGs):TG:=fun v σ H Q=>∃a xs,v=.ref a/\SqT K H a xs/\xs.length=n/\t xs σ H Q
theorem pg_tup {es}{k:Nat}{t:TGs}{n:Nat}(hc:X.calm=true)(h:PGs X es t)
  (hn:(assignEach es X.env).length=n:=by rfl) (hst:(assignEach es X.env).findIdx? (·.1)=none:=by rfl):PG X (.Tuple es k pos) (gTup X.K n t):=by
 intro pins s σ H v u Q I r hw;obtain⟨a,xs,e1,hq,hl,hw⟩:=hw;subst e1;cases r;obtain⟨its,rv,ht,hz⟩:=I.tuple hq;refine assign_Tuple_tuple (I.ok.hd hc) ht (by simp[hn,<- hl,rv.length]) hst fun h' hx=>?_;have I1:Inv X pins σ H { s with heap:=h' }:=I.kept (t':=s.toks) fun b o e=>hx b o (Nat.ne_of_lt (Heap.lt_size e)) e;exact h pins _ σ H xs _ Q I1 (by simpa using rv) hw
def gSub (to ti:TE)(t:TSet):TG:=fun v σ H Q=>to σ H fun o H1=>ti σ H1 fun i H2=>t o i v H2 fun H3=>Q σ H3
theorem pg_sub {o i to ti}{t:TSet}(ho:PE X o to)(hi:PE X i ti)(hs:PSet X t)
  (ha:∀v,assign (.Subscript o i pos) X.env v=(do
   let ov <- holding [v] (eval o X.env)
   let iv <- holding [v,ov] (eval i X.env)
   standAt pos
   holding [v,ov,iv] (setItem ov iv v)
   release [v,ov,iv] []):=by intro _;rfl):PG X (.Subscript o i pos) (gSub to ti t):=by
 intro pins s σ H v u Q I r h;rw[ha];refine wpAny_bind (wpAny_holding (thn (ho pins s σ H _ I h) fun ov s1 ⟨x,H1,I1,r1,q1⟩=>?_));refine wpAny_bind (wpAny_holding (thn (hi pins s1 σ H1 _ I1 q1) fun iv s2 ⟨y,H2,I2,r2,q2⟩=>?_));refine wpAny_bind (wpAny_standAt (wpAny_bind (wpAny_holding (thn (hs pins s2 σ H2 x y v ov iv u _ I2 r1 r2 r q2) fun _ s3 ⟨H3,I3,q3⟩=>?_))));exact wpAny_release ⟨σ,H3,I3,q3⟩
def tAsg (te:TE)(g:TG):TS:=fun D σ H=>te σ H fun x H1=>g x σ H1 D.nx
theorem ps_asg {tg e te g}(he:PE X e te)(hg:PG X tg g)(hs:swapsWithSole [tg] e pos.line X.env=pure false:=by rfl)(hw:swappedStores [tg] e X.env=pure none:=by rfl)
  (h1:(assignEach [tg] X.env).map (·.2)=[assign tg X.env]:=by rfl):PS X (.Assign [tg] e pos) (tAsg te g):=by
 intro pins s σ H D I h;refine wpAny_Assign_stores (thn (he pins s σ H _ I h) fun v s1 ⟨x,H1,I1,r1,q1⟩=>?_) hs hw;rw[h1];exact thn (hg pins s1 σ H1 x v _ I1 r1 q1) fun _ s2 q=>q
theorem ps_set {i:Nat}{x e te pos'}(hN:X.N.Nodup)(hi:X.N[i]?=some x)(hx:Loc X.env.scope x)(he:PE X e te)(hs:swapsWith e (some (.Name x pos')) pos.line X.env=pure false:=by rfl)(hf:X.fn x=true\/X.env.scope.names.lookup x=some .local:=by first|exact .inl rfl|exact .inr rfl|assumption) :
  PS X (.Assign [.Name x pos'] e pos) (tAsg te (gName i)):=by
 intro pins s σ H D I h;refine wpAny_Assign_Name (thn (he pins s σ H _ I h) fun v s1 ⟨y,H1,I1,r1,q1⟩=>?_) hs;exact store_ok I1 hN hi hx r1 (fun s2 I2=>⟨_,H1,I2,q1⟩) hf
def tPar (i j:Nat)(ta:TA):TS:=fun D σ H=>ta σ H fun vs H1=>∃v w,vs=[v,w]/\D.nx ((σ.set i (some v)).set j (some w)) H1
theorem ps_par {i j:Nat}{x y a b ta px py pt}{kt k2 pt2}(hc:X.calm=true)(hN:X.N.Nodup)(hi:X.N[i]?=some x)(hj:X.N[j]?=some y)(hij:i≠j)
  (hx:X.env.scope.names.lookup x=some .local) (hy:X.env.scope.names.lookup y=some .local) (ha:PA X [a,b] ta)
  (hw:swappedStores [.Tuple [.Name x px,.Name y py] kt pt] (.Tuple [a,b] k2 pt2) X.env=pure (some [x,y]))
  (hs:swapsWithSole [.Tuple [.Name x px,.Name y py] kt pt] (.Tuple [a,b] k2 pt2) pos.line X.env=pure false:=by rfl) :
  PS X (.Assign [.Tuple [.Name x px,.Name y py] kt pt] (.Tuple [a,b] k2 pt2) pos) (tPar i j ta):=by
 intro pins s σ H D I h;rw[exec_Assign_arm];refine wpAny_bind (wpAny_standAt ?_);rw[hs];refine wpAny_bind (wpAny_pure ?_);rw[if_neg (by decide)];refine wpAny_bind (Tuple_ (thn (ha _ pins s σ H _ I h) fun us s1 ⟨vs,H1,I1,r1,q1⟩=>?_));obtain⟨v,w,e1,q1⟩:=q1;subst e1
 obtain⟨u1,u2,rfl,rv,rw'⟩:∃u1 u2,us=[u1,u2]/\RelV v u1/\RelV w u2:=by
  cases r1 with
  | cons p q=>
   cases q with
   | cons p' q'=>
    cases q';exact⟨_,_,rfl,p,p'⟩
 refine wpAny_newObj_type ?_ (by show 2<=sizeLine;decide);have I2:Inv X pins σ H1 { s1 with heap:=s1.heap.push { cls:=.type "tuple",data:=.seq [u1,u2].toArray } }:=I1.kept (t':=s1.toks) fun b o e=>Heap.get?_push_of_some _ e;rw[hw];refine wpAny_bind (wpAny_pure ?_)
 show wpAny (model X.prog X.w) X.A (do rule "assign.swapped-stores";let items <- unpackItems (.ref s1.heap.objs.size) 2 none;assignInOrder [fun v=>bindName X.env y v,fun v=>bindName X.env x v] items.reverse;pure Flow.next) _ _ _;refine wpAny_bind (wpAny_rule (wpAny_bind (unpackItems_tuple (items:=#[u1,u2]) (I.ok.hd hc) (IsTup.new s1.heap _) fun h' hx'=>?_)))
 have I3:=I2.kept (h':=h') (t':=s1.toks) fun b o e=>hx' b o (Nat.ne_of_lt (Heap.lt_size e)) e;show wpAny _ _ (assignInOrder [fun v=>bindName X.env y v,fun v=>bindName X.env x v] [u2,u1] >>= fun _=>pure Flow.next) _ _ _;refine wpAny_bind (assignInOrder_cons (wpAny_bindName (store_ok I3 hN hj (.inl hy) rw' (fun s2 I4=>?_) (.inr hy))))
 refine assignInOrder_cons (wpAny_bindName (store_ok I4 hN hi (.inl hx) rv (fun s3 I5=>assignInOrder_nil (wpAny_pure ?_)) (.inr hx)));rw[List.set_comm _ _ (Ne.symm hij)] at I5;exact⟨_,H1,I5,q1⟩
end
structure It where
 go:Nat->Hp->Prop
 yld:Nat->Hp->V->Hp->Prop
 stop:Nat->Hp->Prop
def FpOk (X:Cx)(pins:List (Addr×Obj))(H:Hp)(b:Addr):Prop:=
 H b=none/\b≠X.env.locals/\b∉X.fs/\(b∈X.ex\/X.s₀.heap.objs.size<=b)/\(∀x c,X.env.cells.lookup x=some c->c≠b)/\∀p∈X.pn++pins,p.1≠b
theorem Inv.fpOk {X:Cx}{pins}{σ:St}{H H':Hp}{s:Shared}{b}(I:Inv X pins σ H s)(hb:s.heap.objs.size<=b)(hn:H' b=none):FpOk X pins H' b:=by
 refine⟨hn,Nat.ne_of_gt (Nat.lt_of_lt_of_le I.lt hb),I.nofs hb,.inr (Nat.le_trans I.sz hb),fun x c e z=>?_,fun p hp z=>?_⟩
 ·obtain⟨v,q⟩:=I.cell x c e;exact absurd (Nat.lt_of_lt_of_le q.lt (by rw[z];exact hb)) (Nat.lt_irrefl _)
 ·exact absurd (Nat.lt_of_lt_of_le (Heap.lt_size (I.pin p hp).1) (by rw[z];exact hb)) (Nat.lt_irrefl _)
structure Turn (P:Program)(w:World)(K:Frag)(tg:Expr)(J:It)(fp:List Addr)(it:Addr)(tn:Nat->Heap->Prop):Prop where
 mem:it∈fp
 obj:∀i h,tn i h->∀b∈fp,∃o,h.get? b=some o/\∀v,o.data≠.cell v
 keep:∀i h h',tn i h->(∀b∈fp,∀o,h.get? b=some o->h'.get? b=some o)->tn i h'
 item:∀(X:Cx),X.prog=P->X.w=w->X.K=K->X.calm=true->∀(i:Nat) (pins:List (Addr×Obj)) (s:Shared) (σ:St) (H:Hp) (E:Value->Shared->Prop),Inv X pins σ H s->(∀b∈fp,FpOk X pins H b)->tn i s.heap->J.go i H ->
  wpAny (model P w) X.A (pyNext (.ref it)) (fun r s1=>∃u,r=some u /\
   wpAny (model P w) X.A (letOwnedTupleGo tg (.ref it) u) (fun _ s2=>∃x H',Inv X pins σ H' s2/\RelV x u/\J.yld i H x H'/\tn (i+1) s2.heap/\∀b∈fp,H' b=none) E s1) E s
 done:∀(X:Cx),X.prog=P->X.w=w->X.K=K->X.calm=true->∀(i:Nat) (pins:List (Addr×Obj)) (s:Shared) (σ:St) (H:Hp) (E:Value->Shared->Prop),Inv X pins σ H s->(∀b∈fp,FpOk X pins H b)->tn i s.heap->J.stop i H ->
  wpAny (model P w) X.A (pyNext (.ref it)) (fun r s1=>r=none/\Inv X pins σ H s1) E s
 self:∀(A:Around) (i:Nat) (s:Shared) (Q:Value->Shared->Prop) (E:Value->Shared->Prop),tn i s.heap->Q (.ref it) s->wpAny (model P w) A (pyIter (.ref it)) Q E s
abbrev TI:=St->Hp->(It->Hp->Prop)->Prop
def PIE (X:Cx)(pins:List (Addr×Obj))(σ:St)(tg:Expr)(R:It->Hp->Prop)(itv:Value)(s2:Shared):Prop:=
 ∃(it:Addr) (fp:List Addr) (tn:Nat->Heap->Prop) (J:It) (H':Hp),itv=.ref it/\Inv X pins σ H' s2/\Turn X.prog X.w X.K tg J fp it tn/\tn 0 s2.heap/\(∀b∈fp,FpOk X pins H' b)/\R J H'
def PI (X:Cx)(tg iter:Expr)(wi:TI):Prop:=
 ∀(pins:List (Addr×Obj)) (s:Shared) (σ:St) (H:Hp) (R:It->Hp->Prop),Inv X pins σ H s->wi σ H R ->
  wpAny (model X.prog X.w) X.A (eval iter X.env) (fun v s1=>wpAny (model X.prog X.w) X.A (pyIter v) (PIE X pins σ tg R) X.xe s1) X.xe s
theorem go_of {M:Model}{A:Around}{E:Value->Shared->Prop}{s:Shared}{tg it u}{o:Obj}{n vs}{Q:Unit->Shared->Prop}(ho:s.heap.get? it=some o)(hc:o.cls=.type n)(hd:o.data=.fields vs)
    (hn:["enumerate","zip","dict_itemiterator","dict_reverseitemiterator","odict_iterator","itertools.zip_longest","itertools.pairwise"].contains n=false) (hQ:Q () s):wpAny M A (letOwnedTupleGo tg (.ref it) u) Q E s:=by
  unfold letOwnedTupleGo
  cases tg<;>first
    | exact wpAny_pure hQ
    | (cases u<;>first
        | exact wpAny_pure hQ
        | (refine wpAny_bind (wpAny_load ho ?_)
           rw[hc,hd];show wpAny M A (if (["enumerate","zip","dict_itemiterator","dict_reverseitemiterator","odict_iterator","itertools.zip_longest","itertools.pairwise"].contains n&&vs[0]?==some (rawInt _))=true then _ else _) Q E s;rw[if_neg (by intro h;rw[hn,Bool.false_and] at h;cases h)]
           exact wpAny_pure hQ))
def Itl (K:Frag)(a:Addr):It:=
 ⟨fun i H=>∃xs x,SqL K H a xs/\xs[i]?=some x,fun i H x H'=>H'=H/\∀xs,SqL K H a xs->xs[i]?=some x,fun i H=>∃xs,SqL K H a xs/\xs.length<=i⟩
def Itt (K:Frag)(a:Addr):It:=
 ⟨fun i H=>∃xs x,SqT K H a xs/\xs[i]?=some x,fun i H x H'=>H'=H/\∀xs,SqT K H a xs->xs[i]?=some x,fun i H=>∃xs,SqT K H a xs/\xs.length<=i⟩
def Itr (lo:Int)(n:Nat):It:=⟨fun i _=>i<n,fun i H x H'=>H'=H/\x=.int (lo+i),fun i _=>n<=i⟩
theorem turn_list {P w K tg}(a it:Addr):Turn P w K tg (Itl K a) [it] it (fun i h=>h.IsListIter it a i) where
 mem:=by simp
 obj:=fun i h st b hb=>by
  have e:b=it:=by simpa using hb
  subst e;obtain⟨o,e,c,d⟩:=st;exact⟨o,e,fun v z=>by rw[d] at z;cases z⟩
 keep:=fun i h h' st k=>st.at fun o e=>k it (by simp) o e
 item:=by
  intro X hP hw hK hc i pins s σ H E I hf st hg;subst hP hw hK;obtain⟨xs,x,hq,hx⟩:=hg;obtain⟨its,rv,p,hz⟩:=I.list hq;obtain⟨u,hu,ru⟩:=rv.get hx;obtain⟨f0,f1,f2,f3,f4,f5⟩:=hf it (by simp);refine wpAny_pyNext_list_item st p.isList (x:=u) (by simpa using hu) fun h' st' sb=>?_;have I1:Inv X pins σ H { s with heap:=h' }:=I.turned (t':=s.toks) (fun b o hb e=>(sb.2 b hb).trans e) f0 f1 f3 f4 f5
  obtain⟨o,e,c,d⟩:=id st';exact⟨u,rfl,go_of (s:={ s with heap:=h' }) e c d (by decide) ⟨x,H,I1,ru,⟨rfl,fun ys hy=>by rw[I.list_inj hy hq];exact hx⟩,st',fun b hb=>(hf b hb).1⟩⟩
 done:=by
  intro X hP hw hK hc i pins s σ H E I hf st hg;subst hP hw hK;obtain⟨xs,hq,hx⟩:=hg;obtain⟨its,rv,p,hz⟩:=I.list hq;obtain⟨f0,f1,f2,f3,f4,f5⟩:=hf it (by simp);have hl:=rv.length;exact wpAny_pyNext_list_end (I.ok.hd hc) st p.isList (by simp;omega) fun h' eb=>⟨rfl,I.turned (t':=s.toks) (fun b o hb e=>eb b o hb e) f0 f1 f3 f4 f5⟩
 self:=fun _ _ _ _ _ st h=>wpAny_pyIter_listiter st h
theorem turn_tuple {P w K tg}(a it:Addr):Turn P w K tg (Itt K a) [it] it (fun i h=>h.IsTupleIter it a i) where
 mem:=by simp
 obj:=fun i h st b hb=>by
  have e:b=it:=by simpa using hb
  subst e;obtain⟨o,e,c,d⟩:=st;exact⟨o,e,fun v z=>by rw[d] at z;cases z⟩
 keep:=fun i h h' st k=>st.at fun o e=>k it (by simp) o e
 item:=by
  intro X hP hw hK hc i pins s σ H E I hf st hg;subst hP hw hK;obtain⟨xs,x,hq,hx⟩:=hg;obtain⟨its,rv,p,hz⟩:=I.tuple hq;obtain⟨u,hu,ru⟩:=rv.get hx;obtain⟨f0,f1,f2,f3,f4,f5⟩:=hf it (by simp);refine wpAny_pyNext_tuple_item st (show s.heap.IsTuple a its.toArray from p) (x:=u) (by simpa using hu) fun h' st' sb=>?_
  have I1:Inv X pins σ H { s with heap:=h' }:=I.turned (t':=s.toks) (fun b o hb e=>(sb.2 b hb).trans e) f0 f1 f3 f4 f5;obtain⟨o,e,c,d⟩:=id st';exact⟨u,rfl,go_of (s:={ s with heap:=h' }) e c d (by decide) ⟨x,H,I1,ru,⟨rfl,fun ys hy=>by rw[I.tuple_inj hy hq];exact hx⟩,st',fun b hb=>(hf b hb).1⟩⟩
 done:=by
  intro X hP hw hK hc i pins s σ H E I hf st hg;subst hP hw hK;obtain⟨xs,hq,hx⟩:=hg;obtain⟨its,rv,p,hz⟩:=I.tuple hq;obtain⟨f0,f1,f2,f3,f4,f5⟩:=hf it (by simp);have hl:=rv.length;exact wpAny_pyNext_tuple_end (I.ok.hd hc) st (show s.heap.IsTuple a its.toArray from p) (by simp;omega) fun h' eb=>⟨rfl,I.turned (t':=s.toks) (fun b o hb e=>eb b o hb e) f0 f1 f3 f4 f5⟩
 self:=fun _ _ _ _ _ st h=>wpAny_pyIter_tupleiter st h
theorem turn_range {P w K tg}(it:Addr)(lo:Int)(n:Nat):Turn P w K tg (Itr lo n) [it] it (fun i h=>IsRangeIter h it (lo+(i:Nat) * 1) ((n:Int) - (i:Nat)) 1) where
 mem:=by simp
 obj:=fun i h st b hb=>by
  have e:b=it:=by simpa using hb
  subst e
  exact⟨_,st,fun v z=>by
   have z':Data.fields _=Data.cell v:=z
   cases z'⟩
 keep:=fun i h h' st k=>k it (by simp) _ st
 item:=by
  intro X hP hw hK hc i pins s σ H E I hf st hg;subst hP hw hK;obtain⟨f0,f1,f2,f3,f4,f5⟩:=hf it (by simp);have W:=Walks.range (prog:=X.prog) (w:=X.w) (I.ok.hd hc) it lo 1 n;refine W.item i s _ _ hg st fun v h' tk hv st' kk=>?_;obtain⟨t,rfl⟩:=hv;have I1:Inv X pins σ H { s with heap:=h',toks:=tk }:=I.turned (fun b o hb e=>kk b o (by simpa using hb) e) f0 f1 f3 f4 f5
  refine⟨_,rfl,go_of (s:={ s with heap:=h',toks:=tk }) (n:="range_iterator") st' rfl rfl (by decide) ⟨.int (lo+i),H,I1,⟨t,?_⟩,⟨rfl,rfl⟩,st',fun b hb=>(hf b hb).1⟩⟩;rw[Int.mul_one]
 done:=by
  intro X hP hw hK hc i pins s σ H E I hf st hg;subst hP hw hK;obtain⟨f0,f1,f2,f3,f4,f5⟩:=hf it (by simp);exact wpAny_pyNext_range_end (I.ok.hd hc) st (by have:n<=i:=hg;omega) fun h' eb=>⟨rfl,I.turned (t':=s.toks) (fun b o hb e=>eb b o hb e) f0 f1 f3 f4 f5⟩
 self:=fun _ _ _ _ _ st h=>wpAny_pyIter_rangeiter st h
section
variable {X:Cx}{tg:Expr}
def iList (K:Frag)(tl:TE):TI:=fun σ H R=>tl σ H fun x H1=>∃a,x=.ref a/\(∃xs,SqL K H1 a xs)/\R (Itl K a) H1
def iTup (K:Frag)(tl:TE):TI:=fun σ H R=>tl σ H fun x H1=>∃a,x=.ref a/\(∃xs,SqT K H1 a xs)/\R (Itt K a) H1
theorem pi_list {l tl}(hl:PE X l tl):PI X tg l (iList X.K tl):=by
 intro pins s σ H R I h;refine thn (hl pins s σ H _ I h) fun v s1 ⟨x,H1,I1,r1,q1⟩=>?_;obtain⟨a,e,⟨xs,hq⟩,q⟩:=q1;subst e;cases r1;obtain⟨its,rv,p,hz⟩:=I1.list hq;refine wpAny_pyIter_list p.isList ?_;refine⟨s1.heap.objs.size,[s1.heap.objs.size],_,_,H1,rfl,I1.kept (t':=s1.toks) fun b o e=>Heap.get?_push_of_some _ e,turn_list a _,⟨_,Heap.get?_push_size _ rfl,rfl,rfl⟩,fun b hb=>?_,q⟩
 have e:b=s1.heap.objs.size:=by simpa using hb
 subst e;exact I1.fpOk (Nat.le_refl _) (I1.hok.fresh (Nat.le_refl _))
theorem pi_tup {l tl}(hl:PE X l tl):PI X tg l (iTup X.K tl):=by
 intro pins s σ H R I h;refine thn (hl pins s σ H _ I h) fun v s1 ⟨x,H1,I1,r1,q1⟩=>?_;obtain⟨a,e,⟨xs,hq⟩,q⟩:=q1;subst e;cases r1;obtain⟨its,rv,p,hz⟩:=I1.tuple hq;refine wpAny_pyIter_tuple (show s1.heap.IsTuple a its.toArray from p) ?_
 refine⟨s1.heap.objs.size,[s1.heap.objs.size],_,_,H1,rfl,I1.kept (t':=s1.toks) fun b o e=>Heap.get?_push_of_some _ e,turn_tuple a _,⟨_,Heap.get?_push_size _ rfl,rfl,rfl⟩,fun b hb=>?_,q⟩;have e:b=s1.heap.objs.size:=by simpa using hb
 subst e;exact I1.fpOk (Nat.le_refl _) (I1.hok.fresh (Nat.le_refl _))
theorem range_it {pins}{σ:St}{H:Hp}{s:Shared}{R:It->Hp->Prop}{E:Value->Shared->Prop}{lo hi:Int}{t u v:Tok}{tk:Nat}(I:Inv X pins σ H s)(h1:-(2 ^ 62)<=lo)(h2:lo<2 ^ 62)(h3:-(2 ^ 62)<=hi)(h4:hi<2 ^ 62)
  (q:R (Itr lo (hi - lo).toNat) H):wpAny (model X.prog X.w) X.A (pyIter (.ref s.heap.objs.size)) (PIE X pins σ tg R) E { s with heap:=s.heap.push { cls:=.type "range",data:=.fields #[.int lo t,.int hi u,.int 1 v] },toks:=tk }:=by
 refine wpAny_pyIter_range (IsRange.new ..) (small_one h1 h2 h3 h4) ?_;have I1:Inv X pins σ H { s with heap:=s.heap.push { cls:=.type "range",data:=.fields #[.int lo t,.int hi u,.int 1 v] },toks:=tk }:=I.kept fun b o e=>Heap.get?_push_of_some _ e
 refine⟨(s.heap.push { cls:=.type "range",data:=.fields #[.int lo t,.int hi u,.int 1 v] }).objs.size,[(s.heap.push { cls:=.type "range",data:=.fields #[.int lo t,.int hi u,.int 1 v] }).objs.size],_,_,H,rfl,
  I1.kept (t':=tk) fun b o e=>Heap.get?_push_of_some _ e,turn_range _ lo (hi - lo).toNat,?_,fun b hb=>?_,q⟩
 ·have e1:lo+((0:Nat):Int) * 1=lo:=by simp
  have e2:(((hi - lo).toNat:Nat):Int) - ((0:Nat):Int)=Builtin.Range.rangeSize lo hi 1:=by rw[rangeSize_one];split<;>omega
  show IsRangeIter _ _ (lo+((0:Nat):Int) * 1) ((((hi - lo).toNat:Nat):Int) - ((0:Nat):Int)) 1;rw[e1,e2];exact Heap.get?_push_size _ rfl
 ·have e:b=(s.heap.push { cls:=.type "range",data:=.fields #[.int lo t,.int hi u,.int 1 v] }).objs.size:=by simpa using hb
  subst e;exact I1.fpOk (Nat.le_refl _) (I1.hok.fresh (Nat.le_refl _))
def iRng1 (ta:TA):TI:=fun σ H R=>ta σ H fun vs H1=>∃j:Int,vs=[.int j]/\-(2 ^ 62)<=j/\j<2 ^ 62/\R (Itr 0 j.toNat) H1
def iRng2 (ta:TA):TI:=fun σ H R=>ta σ H fun vs H1=>∃i j:Int,vs=[.int i,.int j]/\(-(2 ^ 62)<=i/\i<2 ^ 62/\-(2 ^ 62)<=j/\j<2 ^ 62)/\R (Itr i (j - i).toNat) H1
theorem pi_range1 {a ta}{p pos:Pos}(hg:Gl X "range")(hm:X.mg "range" = none)(ha:PA X [a] ta)(hs:starEach [a] X.env=[(false,eval a X.env)]:=by rfl):PI X tg (.Call (.Name "range" p) [a] [] pos) (iRng1 ta):=by
 intro pins s σ H R I h;refine Call_ (ld_blt I hg hm boot_range (PyProof.Rows.callWith_type1 (thn (ha pos pins s σ H _ I h) fun us s1 ⟨vs,H1,I1,r1,q1⟩=>?_) hs rfl));obtain⟨j,e,q1,q2,q⟩:=q1;subst e;cases r1 with
 | cons r rr=>
  cases rr;obtain⟨t,rfl⟩:=r;exact call_range_1 (range_it I1 (by omega) (by omega) q1 q2 (by simpa using q))
theorem pi_range2 {a b ta}{p pos:Pos}(hg:Gl X "range")(hm:X.mg "range" = none)(ha:PA X [a,b] ta)(hs:starEach [a,b] X.env=[(false,eval a X.env),(false,eval b X.env)]:=by rfl)(hs2:starEach [b] X.env=[(false,eval b X.env)]:=by rfl) :
  PI X tg (.Call (.Name "range" p) [a,b] [] pos) (iRng2 ta):=by
 intro pins s σ H R I h;refine Call_ (ld_blt I hg hm boot_range (PyProof.Rows.callWith_type1 (thn (ha pos pins s σ H _ I h) fun us s1 ⟨vs,H1,I1,r1,q1⟩=>?_) (by rw[hs,hs2]) (by rw[hs2];rfl)));obtain⟨i,j,e,⟨q1,q2,q3,q4⟩,q⟩:=q1;subst e;cases r1 with
 | cons r rr=>
  cases rr with
  | cons r' rr=>
   cases rr;obtain⟨t,rfl⟩:=r;obtain⟨t',rfl⟩:=r';exact call_range_2 (range_it I1 q1 q2 q3 q4 q)
def tFor (wi:TI)(g:TG)(tb:TS):TS:=fun D σ H=>wi σ H fun J H1=>∃W:Nat->Nat->St->Hp->Prop,(∃m,W 0 m σ H1)/\∀i m σ H,W i m σ H ->
 (J.stop i H/\D.nx σ H)\/(J.go i H/\∃N:St->Hp->Prop,(∀σ' H',N σ' H'->∃m',m'<m/\W (i+1) m' σ' H')/\∀x H',J.yld i H x H'->g x σ H' fun σ2 H2=>tb { D with nx:=N,ct:=N,bk:=D.nx } σ2 H2)
def pinsAt (fp:List Addr)(h:Heap):List (Addr×Obj):=fp.filterMap fun b=>(h.get? b).map fun o=>(b,o)
theorem mem_pinsAt {fp}{h:Heap}{b o}(hb:b∈fp)(e:h.get? b=some o):(b,o)∈pinsAt fp h:=List.mem_filterMap.mpr ⟨b,hb,by rw[e];rfl⟩
theorem of_pinsAt {fp}{h:Heap}{p:Addr×Obj}(hp:p∈pinsAt fp h):p.1∈fp/\h.get? p.1=some p.2:=by
 obtain⟨b,hb,e⟩:=List.mem_filterMap.mp hp;cases q:h.get? b with
 | none=>rw[q] at e;cases e
 | some o=>
  rw[q] at e;have e':(b,o)=p:=Option.some.inj e;subst e';exact⟨hb,q⟩
theorem Inv.pinned {pins}{σ:St}{H:Hp}{s:Shared}{fp}(I:Inv X pins σ H s)(hf:∀b∈fp,FpOk X pins H b)(ho:∀b∈fp,∃o,s.heap.get? b=some o/\∀v,o.data≠.cell v):Inv X (pins++pinsAt fp s.heap) σ H s:=
 I.pins_of fun p hp=>(List.mem_append.mp hp).elim (fun z=>I.pin p (List.mem_append_right _ z)) fun z=>by
  obtain⟨hb,e⟩:=of_pinsAt z;obtain⟨f0,f1,f2,_⟩:=hf p.1 hb;obtain⟨o,e',d⟩:=ho p.1 hb;rw[e] at e';cases e';exact⟨e,f0,f1,f2,d⟩
theorem Inv.unpinned {pins pl}{σ:St}{H:Hp}{s:Shared}(I:Inv X (pins++pl) σ H s):Inv X pins σ H s:=I.pins_of fun p hp=>I.pin p (List.mem_append_right _ (List.mem_append_left _ hp))
theorem ps_for {iter body wi g tb}{pos:Pos}(hp:PassesOwn (model X.prog X.w) X.A X.env X.xe)(hc:X.calm=true)(hi:PI X tg iter wi)(hg:PG X tg g)(hb:PSs X body tb)
  (hs:∀x,foldedSetIterable iter X.env x=pure x:=by intro _;rfl):PS X (.For tg iter body [] pos) (tFor wi g tb):=by
 intro pins s σ H D I h;refine wpAny_For (thn (hi pins s σ H _ I h) fun v s1 h1=>thn h1 fun itv s2 h2=>?_) hs;obtain⟨it,fp,tn,J,H2,e,I2,T,st2,f2,W,⟨m0,w0⟩,turn⟩:=h2;subst e
 -- what stays true of the iterator's objects through the loop
 have stat:∀{H':Hp},(∀b∈fp,H' b=none)->∀b∈fp,FpOk X pins H' b:=fun hn b hb=>⟨hn b hb,(f2 b hb).2⟩;refine codeAny_forLoop_any (fun n s'=>∃i σ' H',Inv X pins σ' H' s'/\tn i s'.heap/\(∀b∈fp,H' b=none)/\W i n σ' H') ?_ m0 ⟨0,σ,H2,I2,st2,fun b hb=>(f2 b hb).1,w0⟩;rintro n s3 ⟨i,σ3,H3,I3,st3,fr3,w3⟩;rcases turn i n σ3 H3 w3 with⟨stop,qn⟩|⟨go,N,hN,step⟩
 ·refine wpAny_passesOwn hp (thn (T.done X rfl rfl rfl hc i pins s3 σ3 H3 X.xe I3 (stat fr3) st3 stop) fun r s4 ⟨hr,I4⟩=>?_);subst hr;exact wpAny_execs_nil ⟨σ3,H3,I4,qn⟩
 ·refine wpAny_passesOwn hp (thn (T.item X rfl rfl rfl hc i pins s3 σ3 H3 X.xe I3 (stat fr3) st3 go) fun r s4 ⟨u,hr,h4⟩=>?_);subst hr;refine wpAny_passesOwn hp (thn h4 fun _ s5 ⟨x,H5,I5,r5,y5,st5,fr5⟩=>?_);have I5':=I5.pinned (stat fr5) (T.obj _ _ st5);refine wpAny_passesOwn hp (thn (hg _ s5 σ3 H5 x u _ I5' r5 (step x H5 y5)) fun _ s6 ⟨σ6,H6,I6,q6⟩=>?_)
  refine wpAny_passesOwn hp (thn (hb _ s6 σ6 H6 _ I6 q6) fun f s7 q7=>?_)
  have again:∀{σ7:St} {H7:Hp},Inv X (pins++pinsAt fp s5.heap) σ7 H7 s7->N σ7 H7->∃m,m<n/\∃i σ' H',Inv X pins σ' H' s7/\tn i s7.heap/\(∀b∈fp,H' b=none)/\W i m σ' H':=fun {σ7 H7} I7 n7=>by
   obtain⟨m',hm,w7⟩:=hN σ7 H7 n7;refine⟨m',hm,i+1,σ7,H7,I7.unpinned,T.keep _ _ _ st5 fun b hb o e=>(I7.pin (b,o) (List.mem_append_right _ (List.mem_append_right _ (mem_pinsAt hb e)))).1,fun b hb=>?_,w7⟩;obtain⟨o,e,d⟩:=T.obj _ _ st5 b hb;exact(I7.pin (b,o) (List.mem_append_right _ (List.mem_append_right _ (mem_pinsAt hb e)))).2.1
  cases f with
  | next=>obtain⟨σ7,H7,I7,n7⟩:=q7;exact again I7 n7
  | cont=>obtain⟨σ7,H7,I7,n7⟩:=q7;exact again I7 n7
  | brk=>obtain⟨σ7,H7,I7,q7⟩:=q7;exact⟨σ7,H7,I7.unpinned,q7⟩
  | ret v=>obtain⟨x7,σ7,H7,I7,r7,q7⟩:=q7;exact⟨x7,σ7,H7,I7.unpinned,r7,q7⟩
end
theorem for_list {K:Frag}{a:Addr}{xs:List V}{g:TG}{tb:TS}{D:Ends}{σ:St}{H:Hp}(Pv:Nat->St->Hp->Prop)(h0:Pv 0 σ H)(hl:∀i σ H,i<=xs.length->Pv i σ H->SqL K H a xs)
  (hs:∀i x σ H,xs[i]?=some x->Pv i σ H->g x σ H fun σ2 H2=>tb { D with nx:=Pv (i+1),ct:=Pv (i+1),bk:=D.nx } σ2 H2) (hd:∀σ H,Pv xs.length σ H->D.nx σ H) :
  ∃W:Nat->Nat->St->Hp->Prop,(∃m,W 0 m σ H)/\∀i m σ H,W i m σ H ->
   ((Itl K a).stop i H/\D.nx σ H)\/((Itl K a).go i H/\∃N:St->Hp->Prop,(∀σ' H',N σ' H'->∃m',m'<m/\W (i+1) m' σ' H')/\∀x H',(Itl K a).yld i H x H'->g x σ H' fun σ2 H2=>tb { D with nx:=N,ct:=N,bk:=D.nx } σ2 H2):=by
 refine⟨fun i m σ H=>m=xs.length - i/\i<=xs.length/\Pv i σ H,⟨xs.length,by simp,Nat.zero_le _,h0⟩,?_⟩;rintro i m σ H ⟨rfl,hi,p⟩;have q:=hl i σ H hi p;by_cases hlt:i<xs.length
 ·refine .inr ⟨⟨xs,xs[i],q,by simp[hlt]⟩,Pv (i+1),fun σ' H' p'=>⟨xs.length - (i+1),by omega,rfl,hlt,p'⟩,fun x H' y=>?_⟩;obtain⟨e,y⟩:=y;subst e;exact hs i x σ _ (y xs q) p
 ·have e:i=xs.length:=by omega
  subst e;exact .inl ⟨⟨xs,q,Nat.le_refl _⟩,hd σ H p⟩
theorem for_range {lo:Int}{n:Nat}{g:TG}{tb:TS}{D:Ends}{σ:St}{H:Hp}(Pv:Nat->St->Hp->Prop)(h0:Pv 0 σ H)
  (hs:∀i σ H,i<n->Pv i σ H->g (.int (lo+i)) σ H fun σ2 H2=>tb { D with nx:=Pv (i+1),ct:=Pv (i+1),bk:=D.nx } σ2 H2) (hd:∀σ H,Pv n σ H->D.nx σ H) :
  ∃W:Nat->Nat->St->Hp->Prop,(∃m,W 0 m σ H)/\∀i m σ H,W i m σ H ->
   ((Itr lo n).stop i H/\D.nx σ H)\/((Itr lo n).go i H/\∃N:St->Hp->Prop,(∀σ' H',N σ' H'->∃m',m'<m/\W (i+1) m' σ' H')/\∀x H',(Itr lo n).yld i H x H'->g x σ H' fun σ2 H2=>tb { D with nx:=N,ct:=N,bk:=D.nx } σ2 H2):=by
 refine⟨fun i m σ H=>m=n - i/\i<=n/\Pv i σ H,⟨n,by simp,Nat.zero_le _,h0⟩,?_⟩;rintro i m σ H ⟨rfl,hi,p⟩;by_cases hlt:i<n
 ·refine .inr ⟨hlt,Pv (i+1),fun σ' H' p'=>⟨n - (i+1),by omega,rfl,hlt,p'⟩,fun x H' y=>?_⟩;obtain⟨e,y⟩:=y;subst e y;exact hs i σ _ hlt p
 ·have e:i=n:=by omega
  subst e;exact .inl ⟨Nat.le_refl _,hd σ H p⟩
abbrev R2:=V->V->Hp->VK->Prop
def OpR (X:Cx)(f:Value->Value->Sem Value)(r:R2):Prop:=
 ∀(pins:List (Addr×Obj)) (s:Shared) (σ:St) (H:Hp) (x y:V) (v u:Value) (Q:VK),Inv X pins σ H s->RelV x v->RelV y u->r x y H Q ->
  wpAny (model X.prog X.w) X.A (f v u) (EP X pins σ Q) X.xe s
def UnR (X:Cx)(f:Value->Sem Value)(r:V->Hp->VK->Prop):Prop:=
 ∀(pins:List (Addr×Obj)) (s:Shared) (σ:St) (H:Hp) (x:V) (v:Value) (Q:VK),Inv X pins σ H s->RelV x v->r x H Q ->
  wpAny (model X.prog X.w) X.A (f v) (EP X pins σ Q) X.xe s
def CallR (X:Cx)(f:Value)(r:List V->Hp->VK->Prop):Prop:=
 ∀(pins:List (Addr×Obj)) (s:Shared) (σ:St) (H:Hp) (xs:List V) (us:List Value) (Q:VK),Inv X pins σ H s->Vals xs us->r xs H Q ->
  wpAny (model X.prog X.w) X.A (call f us) (EP X pins σ Q) X.xe s
def TruR (X:Cx)(r:V->Hp->(Bool->Hp->Prop)->Prop):Prop:=
 ∀(pins:List (Addr×Obj)) (s:Shared) (σ:St) (H:Hp) (x:V) (v:Value) (Q:Bool->Hp->Prop),Inv X pins σ H s->RelV x v->r x H Q ->
  wpAny (model X.prog X.w) X.A (truthy v) (TP X pins σ Q) X.xe s
def tOp (r:R2)(ta tb:TE):TE:=fun σ H Q=>ta σ H fun x H1=>tb σ H1 fun y H2=>r x y H2 Q
def tUn (r:V->Hp->VK->Prop)(ta:TE):TE:=fun σ H Q=>ta σ H fun x H1=>r x H1 Q
def rI (C:Int->Int->Prop)(g:Int->Int->V):R2:=fun x y H Q=>∃i j,x=.int i/\y=.int j/\C i j/\Q (g i j) H
def rI0 (g:Int->Int->V):R2:=fun x y H Q=>∃i j,x=.int i/\y=.int j/\Q (g i j) H
def rU (g:Int->V):V->Hp->VK->Prop:=fun x H Q=>∃i,x=.int i/\Q (g i) H
section
variable {X:Cx}{a b c:Expr}{ta tb tc:TE}{pos:Pos}
theorem binT (ha:PE X a ta)(hb:PE X b tb){pins}{s:Shared}{σ:St}{H:Hp}{R:V->V->Hp->Prop}(I:Inv X pins σ H s)
  (h:ta σ H fun x H1=>tb σ H1 fun y H2=>R x y H2) {Q:Value->Shared->Prop} {f:Value->Value->Sem Value}
  (hf:∀v u s2 x y H2,Inv X pins σ H2 s2->RelV x v->RelV y u->R x y H2->wpAny (model X.prog X.w) X.A (f v u) Q X.xe s2) :
  wpAny (model X.prog X.w) X.A (eval a X.env) (fun v s₁=>wpAny (model X.prog X.w) X.A (eval b X.env) (fun u s₂=>wpAny (model X.prog X.w) X.A (f v u) Q X.xe s₂) X.xe s₁) X.xe s:=by
 refine thn (ha pins s σ H _ I h) fun v s1 ⟨x,H1,I1,r1,q1⟩=>?_;refine thn (hb pins s1 σ H1 _ I1 q1) fun u s2 ⟨y,H2,I2,r2,q2⟩=>?_;exact hf v u s2 x y H2 I2 r1 r2 q2
theorem pe_op {op:Operator}{r}(ho:OpR X (binaryOp op) r)(ha:PE X a ta)(hb:PE X b tb):PE X (.BinOp a op b pos) (tOp r ta tb):=by
 intro pins s σ H Q I h;exact wpAny_BinOp (binT ha hb I h fun v u s2 x y H2 I2 rx ry q=>ho pins s2 σ H2 x y v u Q I2 rx ry q)
theorem pe_un {op:UnaryOp}{r:V->Hp->VK->Prop}(ho:UnR X (unaryOp op) r)(ha:PE X a ta):PE X (.UnaryOp op a pos) (tUn r ta):=by
 intro pins s σ H Q I h;exact UnaryOp_ (thn (ha pins s σ H _ I h) fun v s1 ⟨x,H1,I1,r1,q1⟩=>ho pins s1 σ H1 x v Q I1 r1 q1)
theorem opI {f:Value->Value->Sem Value}{C:Int->Int->Prop}{g:Int->Int->Int}
  (rule:∀(i j:Int) (t u:Tok) (s:Shared) (Q:Value->Shared->Prop) (E:Value->Shared->Prop),C i j->Q (.int (g i j) s.toks) { s with toks:=s.toks+1 }->wpAny (model X.prog X.w) X.A (f (.int i t) (.int j u)) Q E s) :
  OpR X f (rI C fun i j=>.int (g i j)):=by
 intro pins s σ H x y v u Q I rx ry h;obtain⟨i,j,rfl,rfl,hc,q⟩:=h;obtain⟨t,rfl⟩:=rx;obtain⟨t',rfl⟩:=ry;exact rule i j t t' s _ _ hc ⟨.int (g i j),H,I.tok _,⟨_,rfl⟩,q⟩
theorem opI0 {f:Value->Value->Sem Value}{g:Int->Int->Int}
  (rule:∀(i j:Int) (t u:Tok) (s:Shared) (Q:Value->Shared->Prop) (E:Value->Shared->Prop),Q (.int (g i j) s.toks) { s with toks:=s.toks+1 }->wpAny (model X.prog X.w) X.A (f (.int i t) (.int j u)) Q E s) :
  OpR X f (rI0 fun i j=>.int (g i j)):=by
 intro pins s σ H x y v u Q I rx ry h;obtain⟨i,j,rfl,rfl,q⟩:=h;obtain⟨t,rfl⟩:=rx;obtain⟨t',rfl⟩:=ry;exact rule i j t t' s _ _ ⟨.int (g i j),H,I.tok _,⟨_,rfl⟩,q⟩
theorem opB0 {f:Value->Value->Sem Value}{g:Int->Int->Bool}
  (rule:∀(i j:Int) (t u:Tok) (s:Shared) (Q:Value->Shared->Prop) (E:Value->Shared->Prop),Q (.bool (g i j)) s->wpAny (model X.prog X.w) X.A (f (.int i t) (.int j u)) Q E s) :
  OpR X f (rI0 fun i j=>.bl (g i j)):=by
 intro pins s σ H x y v u Q I rx ry h;obtain⟨i,j,rfl,rfl,q⟩:=h;obtain⟨t,rfl⟩:=rx;obtain⟨t',rfl⟩:=ry;exact rule i j t t' s _ _ ⟨.bl (g i j),H,I,rfl,q⟩
def CPow (i j:Int):Prop:=0<=j/\j<=1000000/\i.natAbs<2 ^ 64
def CMul (i j:Int):Prop:=(-(2 ^ 64)<i/\i<2 ^ 64)\/(-(2 ^ 64)<j/\j<2 ^ 64)
theorem CMul.ok {i j:Int}(h:CMul i j):IntMulOk i j:=by
 rcases h with⟨h1,h2⟩|⟨h1,h2⟩
 ·exact .of_left (intBits_le_64 h1 h2)
 ·exact .of_right (intBits_le_64 h1 h2)
theorem op_add:OpR X (binaryOp .Add) (rI0 fun i j=>.int (i+j)):=opI0 fun _ _ _ _ _ _ _ q=>add_int q
theorem op_sub:OpR X (binaryOp .Sub) (rI0 fun i j=>.int (i - j)):=opI0 fun _ _ _ _ _ _ _ q=>sub_int q
theorem op_mul:OpR X (binaryOp .Mult) (rI CMul fun i j=>.int (i * j)):=opI fun _ _ _ _ _ _ _ hc q=>mul_int q hc.ok
theorem op_mod:OpR X (binaryOp .Mod) (rI (fun _ j=>0<j) fun i j=>.int (i % j)):=opI fun i j _ _ _ _ _ hc q=>by
 have h1:(0:Int)<j:=hc;exact mod_int' (by omega) (by rw[Int.fmod_eq_emod_of_nonneg i (by omega)];exact q)
theorem op_pow:OpR X (binaryOp .Pow) (rI CPow fun i j=>.int (i ^ j.toNat)):=opI fun _ _ _ _ _ _ _ hc q=>pow_int_small hc.1 hc.2.1 hc.2.2 q
theorem unI {f:Value->Sem Value}{g:Int->Int}
  (rule:∀(i:Int) (t:Tok) (s:Shared) (Q:Value->Shared->Prop) (E:Value->Shared->Prop),Q (.int (g i) s.toks) { s with toks:=s.toks+1 }->wpAny (model X.prog X.w) X.A (f (.int i t)) Q E s) :
  UnR X f (rU fun i=>.int (g i)):=by
 intro pins s σ H x v Q I rx h;obtain⟨i,rfl,q⟩:=h;obtain⟨t,rfl⟩:=rx;exact rule i t s _ _ ⟨.int (g i),H,I.tok _,⟨_,rfl⟩,q⟩
theorem un_neg:UnR X (unaryOp .USub) (rU fun i=>.int (-i)):=unI fun _ _ _ _ _ q=>neg_int q
end
def scal:V->V->Bool
 | .non,.non=>true|.non,.int _=>true|.int _,.non=>true|.non,.bl _=>true|.bl _,.non=>true|.non,.str _=>true|.str _,.non=>true
 | .int _,.int _=>true|.bl _,.bl _=>true|.str _,.str _=>true|.byt _,.byt _=>true
 | .int _,.str _=>true|.str _,.int _=>true|.bl _,.str _=>true|.str _,.bl _=>true
 | _,_=>false
def rEq:R2:=fun x y H Q=>scal x y=true/\Q (.bl (decide (x=y))) H
def rNe:R2:=fun x y H Q=>scal x y=true/\Q (.bl (!decide (x=y))) H
theorem dec_int {i j:Int}:decide (V.int i=V.int j)=(i==j):=by
 rw[Bool.eq_iff_iff];simp
theorem dec_bl {i j}:decide (V.bl i=V.bl j)=(i==j):=by
 rw[Bool.eq_iff_iff];simp
theorem dec_str {i j}:decide (V.str i=V.str j)=(i==j):=by
 rw[Bool.eq_iff_iff];simp
theorem dec_byt {i j:Array UInt8}:decide (V.byt i=V.byt j)=(i.toList==j.toList):=by
 rw[Bool.eq_iff_iff];cases i;cases j;simp
section
variable {X:Cx}{a b c:Expr}{ta tb tc:TE}{pos:Pos}
theorem fin_bl {pins}{σ:St}{H:Hp}{s:Shared}{Q k k'}(I:Inv X pins σ H s)(q:Q (.bl k) H)(e:k=k'):EP X pins σ Q (.bool k') s:=by
 subst e;exact⟨.bl k,H,I,rfl,q⟩
theorem op_eq:OpR X (compareOp .Eq) rEq:=by
 intro pins s σ H x y v u Q I rx ry h;obtain⟨hs,q⟩:=h;cases x with
 | non=>
  cases rx;cases y with
  | non=>cases ry;exact PySem.EqNone.eq_none_none (fin_bl I q (by simp))
  | bl j=>cases ry;exact PySem.EqNone.eq_none_bool (fin_bl I q (by simp))
  | int j=>obtain⟨t',rfl⟩:=ry;exact PySem.EqNone.eq_none_int (fin_bl I q (by simp))
  | str j=>obtain⟨t',rfl⟩:=ry;exact PySem.EqNone.eq_none_str (fin_bl I q (by simp))
  | _=>exact absurd (show false=true from hs) Bool.false_ne_true
 | bl i=>
  cases rx;cases y with
  | non=>cases ry;exact PySem.EqNone.eq_bool_none (fin_bl I q (by simp))
  | bl j=>cases ry;exact eq_bool (fin_bl I q dec_bl)
  | str j=>obtain⟨t',rfl⟩:=ry;exact PySem.EqMixed.eq_bool_str (fin_bl I q (by simp))
  | _=>exact absurd (show false=true from hs) Bool.false_ne_true
 | int i=>
  obtain⟨t,rfl⟩:=rx;cases y with
  | non=>cases ry;exact PySem.EqNone.eq_int_none (fin_bl I q (by simp))
  | int j=>obtain⟨t',rfl⟩:=ry;exact eq_int (fin_bl I q dec_int)
  | str j=>obtain⟨t',rfl⟩:=ry;exact PySem.EqMixed.eq_int_str (fin_bl I q (by simp))
  | _=>exact absurd (show false=true from hs) Bool.false_ne_true
 | str i=>
  obtain⟨t,rfl⟩:=rx;cases y with
  | non=>cases ry;exact PySem.EqNone.eq_str_none (fin_bl I q (by simp))
  | bl j=>cases ry;exact PySem.EqMixed.eq_str_bool (fin_bl I q (by simp))
  | int j=>obtain⟨t',rfl⟩:=ry;exact PySem.EqMixed.eq_str_int (fin_bl I q (by simp))
  | str j=>obtain⟨t',rfl⟩:=ry;exact eq_str (fin_bl I q dec_str)
  | _=>exact absurd (show false=true from hs) Bool.false_ne_true
 | byt i=>
  obtain⟨t,rfl⟩:=rx;cases y with
  | byt j=>obtain⟨t',rfl⟩:=ry;exact PySem.W.eq_bytes (fin_bl I q dec_byt)
  | _=>exact absurd (show false=true from hs) Bool.false_ne_true
 | _=>cases y<;>exact absurd (show false=true from hs) Bool.false_ne_true
theorem op_ne:OpR X (compareOp .NotEq) rNe:=by
 intro pins s σ H x y v u Q I rx ry h;obtain⟨hs,q⟩:=h;cases x with
 | non=>
  cases rx;cases y with
  | non=>cases ry;exact PySem.EqNone.ne_none_none (fin_bl I q (by simp))
  | bl j=>cases ry;exact PySem.EqNone.ne_none_bool (fin_bl I q (by simp))
  | int j=>obtain⟨t',rfl⟩:=ry;exact PySem.EqNone.ne_none_int (fin_bl I q (by simp))
  | str j=>obtain⟨t',rfl⟩:=ry;exact PySem.EqNone.ne_none_str (fin_bl I q (by simp))
  | _=>exact absurd (show false=true from hs) Bool.false_ne_true
 | bl i=>
  cases rx;cases y with
  | non=>cases ry;exact PySem.EqNone.ne_bool_none (fin_bl I q (by simp))
  | bl j=>cases ry;exact ne_bool (fin_bl I q (congrArg not dec_bl))
  | str j=>obtain⟨t',rfl⟩:=ry;exact PySem.EqMixed.ne_bool_str (fin_bl I q (by simp))
  | _=>exact absurd (show false=true from hs) Bool.false_ne_true
 | int i=>
  obtain⟨t,rfl⟩:=rx;cases y with
  | non=>cases ry;exact PySem.EqNone.ne_int_none (fin_bl I q (by simp))
  | int j=>obtain⟨t',rfl⟩:=ry;exact ne_int (fin_bl I q (congrArg not dec_int))
  | str j=>obtain⟨t',rfl⟩:=ry;exact PySem.EqMixed.ne_int_str (fin_bl I q (by simp))
  | _=>exact absurd (show false=true from hs) Bool.false_ne_true
 | str i=>
  obtain⟨t,rfl⟩:=rx;cases y with
  | non=>cases ry;exact PySem.EqNone.ne_str_none (fin_bl I q (by simp))
  | bl j=>cases ry;exact PySem.EqMixed.ne_str_bool (fin_bl I q (by simp))
  | int j=>obtain⟨t',rfl⟩:=ry;exact PySem.EqMixed.ne_str_int (fin_bl I q (by simp))
  | str j=>obtain⟨t',rfl⟩:=ry;exact ne_str (fin_bl I q (congrArg not dec_str))
  | _=>exact absurd (show false=true from hs) Bool.false_ne_true
 | byt i=>
  obtain⟨t,rfl⟩:=rx;cases y with
  | byt j=>obtain⟨t',rfl⟩:=ry;exact PySem.W.ne_bytes (fin_bl I q (congrArg not dec_byt))
  | _=>exact absurd (show false=true from hs) Bool.false_ne_true
 | _=>cases y<;>exact absurd (show false=true from hs) Bool.false_ne_true
theorem op_lt:OpR X (compareOp .Lt) (rI0 fun i j=>.bl (decide (i<j))):=opB0 fun _ _ _ _ _ _ _ q=>lt_int q
theorem op_le:OpR X (compareOp .LtE) (rI0 fun i j=>.bl (decide (i<=j))):=opB0 fun _ _ _ _ _ _ _ q=>le_int q
theorem op_gt:OpR X (compareOp .Gt) (rI0 fun i j=>.bl (decide (j<i))):=opB0 fun _ _ _ _ _ _ _ q=>gt_int q
theorem op_ge:OpR X (compareOp .GtE) (rI0 fun i j=>.bl (decide (j<=i))):=opB0 fun _ _ _ _ _ _ _ q=>ge_int q
theorem op_isN:OpR X (compareOp .Is) (fun x y H Q=>y=.non/\Q (.bl (decide (x=.non))) H):=by
 intro pins s σ H x y v u Q I rx ry h;obtain⟨rfl,q⟩:=h;cases ry;refine is_none_gen (fin_bl I q ?_)
 cases x<;>first
  | (cases rx;rfl)
  | (obtain⟨t,rfl⟩:=rx;rfl)
theorem op_notN:OpR X (compareOp .IsNot) (fun x y H Q=>y=.non/\Q (.bl (!decide (x=.non))) H):=by
 intro pins s σ H x y v u Q I rx ry h;obtain⟨rfl,q⟩:=h;cases ry;refine isnot_none_gen (fin_bl I q ?_)
 cases x<;>first
  | (cases rx;rfl)
  | (obtain⟨t,rfl⟩:=rx;rfl)
theorem nomark (b:Expr){op:CmpOp}(h:op≠.In:=by decide)(h2:op≠.NotIn:=by decide):behindInMarks op b=false:=by
 have e1:(op==CmpOp.In)=false:=by cases op<;>first|rfl|exact absurd rfl h
 have e2:(op==CmpOp.NotIn)=false:=by cases op<;>first|rfl|exact absurd rfl h2
 cases b<;>simp[behindInMarks,e1,e2]
theorem pe_cmpR {op:CmpOp}{r}(ho:OpR X (compareOp op) r)(ha:PE X a ta)(hb:PE X b tb)(hm:behindInMarks op b=false):PE X (.Compare a [op] [b] pos) (tOp r ta tb):=by
 intro pins s σ H Q I h;exact wpAny_Compare1 (binT ha hb I h fun v u s2 x y H2 I2 rx ry q=>ho pins s2 σ H2 x y v u Q I2 rx ry q) hm
def tTest (t:TE):TT:=fun σ H Q=>t σ H fun x H'=>∃k,x=.bl k/\Q k H'
theorem pt_cmpR {op:CmpOp}{r}(ho:OpR X (compareOp op) r)(ha:PE X a ta)(hb:PE X b tb)(hm:behindInMarks op b=false):PT X (.Compare a [op] [b] pos) (tTest (tOp r ta tb)):=by
 intro pins s σ H Q I h
 refine wpAny_isTrue_Compare1 (thn (ha pins s σ H _ I h) fun v s1 ⟨x,H1,I1,r1,q1⟩=>thn (hb pins s1 σ H1 _ I1 q1) fun u s2 ⟨y,H2,I2,r2,q2⟩=>
  thn (ho pins s2 σ H2 x y v u _ I2 r1 r2 q2) fun c s3 ⟨z,H3,I3,r3,k,e,q3⟩=>?_) hm
 subst e;cases r3;exact wpAny_truthy_bool ⟨H3,I3,q3⟩
def tChain (r r':R2)(ta tb tc:TE):TE:=fun σ H Q=>ta σ H fun x H1=>tb σ H1 fun y H2=>r x y H2 fun z H3=>∃k,z=.bl k /\
 (if k=true then tc σ H3 fun w' H4=>r' y w' H4 Q else Q (.bl false) H3)
theorem pe_chain {op op':CmpOp}{r r'}(ho:OpR X (compareOp op) r)(ho':OpR X (compareOp op') r')(ha:PE X a ta)(hb:PE X b tb)(hc:PE X c tc)
  (hm:lastMarks [op,op'] [b,c]=false:=by with_unfolding_all rfl):PE X (.Compare a [op,op'] [b,c] pos) (tChain r r' ta tb tc):=by
 intro pins s σ H Q I h
 refine Compare_chain (thn (ha pins s σ H _ I h) fun v s1 ⟨x,H1,I1,r1,q1⟩=>chain_link (thn (hb pins s1 σ H1 _ I1 q1) fun u s2 ⟨y,H2,I2,r2,q2⟩=>
  thn (ho pins s2 σ H2 x y v u _ I2 r1 r2 q2) fun d s3 ⟨z,H3,I3,r3,k,e,q3⟩=>?_)) hm
 subst e;cases r3;refine wpAny_truthy_bool ?_;cases k with
 | false=>exact ite_ff ⟨.bl false,H3,I3,rfl,q3⟩
 | true=>exact ite_tt (chain_last (thn (hc pins s3 σ H3 _ I3 q3) fun w' s4 ⟨z',H4,I4,r4,q4⟩=>ho' pins s4 σ H4 y z' u w' Q I4 r2 r4 q4))
def TruV (K:Frag)(x:V)(H:Hp)(k:Bool):Prop:=
 match x with
 | .non=>k=false
 | .bl b=>k=b
 | .int i=>k=(i != 0)
 | .str y=>y.length<=sizeLine/\k=((y.length:Int) != 0)
 | .byt y=>y.size<=sizeLine/\k=((y.size:Int) != 0)
 | .ref p=>(∃xs,SqL K H p xs/\k = !xs.isEmpty)\/(∃xs,SqT K H p xs/\k = !xs.isEmpty)\/∃kvs,H p=some (.dK kvs)/\k = !kvs.isEmpty
 | _=>False
theorem isEmpty_kv {κ:Type}{kvs:List (κ×V)}{vs:List (κ×Value)}(r:KV kvs vs):(!vs.isEmpty) = !kvs.isEmpty:=by
 cases r<;>rfl
theorem isEmpty_of {xs:List V}{its:List Value}(r:Vals xs its):(!its.toArray.isEmpty) = !xs.isEmpty:=by
 cases r<;>simp
theorem line63:(sizeLine:Nat)<2 ^ 63:=by rw[sizeLine_eq];decide
theorem tru_ok:TruR X (fun x H Q=>∃k,TruV X.K x H k/\Q k H):=by
 intro pins s σ H x v Q I rx h;obtain⟨k,e,q⟩:=h;have hl:=line63;have hs:sizeLine=16777216:=sizeLine_eq;cases x with
 | non=>
  cases rx;have e':k=false:=e;subst e';exact truthy_none ⟨H,I,q⟩
 | bl b=>
  cases rx;have e':k=b:=e;subst e';exact wpAny_truthy_bool ⟨H,I,q⟩
 | int i=>
  obtain⟨t,rfl⟩:=rx;have e':k=(i != 0):=e;subst e';exact PySem.P.truthy_int ⟨H,I,q⟩
 | str y=>
  obtain⟨t,rfl⟩:=rx;obtain⟨hy,e'⟩:y.length<=sizeLine/\k=((y.length:Int) != 0):=e;subst e';exact PySem.P.truthy_str (by omega) ⟨H,I.tok _,q⟩
 | byt y=>
  obtain⟨t,rfl⟩:=rx;obtain⟨hy,e'⟩:y.size<=sizeLine/\k=((y.size:Int) != 0):=e;subst e';exact PySem.W.truthy_bytes (by omega) ⟨H,I.tok _,q⟩
 | ref p=>
  cases rx;have e':(∃xs,SqL X.K H p xs/\k = !xs.isEmpty)\/(∃xs,SqT X.K H p xs/\k = !xs.isEmpty)\/∃kvs,H p=some (.dK kvs)/\k = !kvs.isEmpty:=e;rcases e' with⟨xs,hx,e'⟩|⟨xs,hx,e'⟩|⟨kvs,hx,e'⟩
  ·subst e';obtain⟨its,r,pl,hz⟩:=I.list hx;have hlen:=r.length;exact wpAny_truthy_list pl.isList (by simp only[List.size_toArray];omega) ⟨H,I.tok _,by rw[isEmpty_of r];exact q⟩
  ·subst e';obtain⟨its,r,pl,hz⟩:=I.tuple hx;have hlen:=r.length;exact truthy_tuple pl (by simp only[List.size_toArray];omega) ⟨H,I.tok _,by rw[isEmpty_of r];exact q⟩
  ·subst e';obtain⟨hz,hS,vs,r,m⟩:kvs.length<=sizeLine/\(p==sysModules)=false/\∃vs,KV kvs vs/\s.heap.DictOf (mixKind X.prog X.w) p vs:=I.hok p _ hx;have hlen:kvs.length=vs.length:=Paired.length r;exact wpAny_truthy_dict hS m (by omega) ⟨H,I.tok _,by rw[isEmpty_kv r];exact q⟩
 | _=>exact(show False from e).elim
theorem pt_truth (ha:PE X a ta)(he:∀whole,isTrue a X.env whole=(do let v <- whole;standAt a.pos;holding [v] (truthy v))) :
  PT X a (fun σ H Q=>ta σ H fun x H'=>∃k,TruV X.K x H' k/\Q k H'):=by
 intro pins s σ H Q I h;exact isTrue_plain (thn (ha pins s σ H _ I h) fun v s1 ⟨x,H1,I1,r1,q1⟩=>tru_ok pins s1 σ H1 x v Q I1 r1 q1) (he _)
theorem vals1 {x us}(r:Vals [x] us):∃u,us=[u]/\RelV x u:=by
 cases r with
 | cons r1 r2=>cases r2;exact⟨_,rfl,r1⟩
theorem vals2 {x y us}(r:Vals [x,y] us):∃u w',us=[u,w']/\RelV x u/\RelV y w':=by
 cases r with
 | cons r1 r2=>
  cases r2 with
  | cons r3 r4=>cases r4;exact⟨_,_,rfl,r1,r3⟩
theorem call_max2 (hc:X.calm=true):CallR X (.builtin "max") (fun xs H Q=>∃i j,xs=[.int i,.int j]/\Q (.int (if j > i then j else i)) H):=by
 intro pins s σ H xs us Q I r h;obtain⟨i,j,rfl,q⟩:=h;obtain⟨u,w',rfl,⟨t,rfl⟩,⟨t',rfl⟩⟩:=vals2 r;refine max_two_ints (I.ok.hd hc) fun h' tk k=>⟨_,H,I.kept k,?_,q⟩;by_cases hj:j > i
 ·rw[if_pos hj,if_pos hj];exact⟨_,rfl⟩
 ·rw[if_neg hj,if_neg hj];exact⟨_,rfl⟩
theorem call_min2 (hc:X.calm=true):CallR X (.builtin "min") (fun xs H Q=>∃i j,xs=[.int i,.int j]/\Q (.int (if j<i then j else i)) H):=by
 intro pins s σ H xs us Q I r h;obtain⟨i,j,rfl,q⟩:=h;obtain⟨u,w',rfl,⟨t,rfl⟩,⟨t',rfl⟩⟩:=vals2 r;refine min_two_ints (I.ok.hd hc) fun h' tk k=>⟨_,H,I.kept k,?_,q⟩;by_cases hj:j<i
 ·rw[if_pos hj,if_pos hj];exact⟨_,rfl⟩
 ·rw[if_neg hj,if_neg hj];exact⟨_,rfl⟩
theorem call_int1:CallR X (.type "int") (fun xs H Q=>(∃i,xs=[.int i]/\Q (.int i) H)\/∃k,xs=[.bl k]/\Q (.int (if k then 1 else 0)) H):=by
 intro pins s σ H xs us Q I r h;rcases h with⟨i,rfl,q⟩|⟨k,rfl,q⟩
 ·obtain⟨u,rfl,t,rfl⟩:=vals1 r;exact call_int_int ⟨.int i,H,I,⟨_,rfl⟩,q⟩
 ·obtain⟨u,rfl,r1⟩:=vals1 r;cases r1;exact call_int_bool ⟨.int (if k then 1 else 0),H,I.tok _,⟨_,rfl⟩,q⟩
end
structure ObjM (h:Heap)(x dx C:Addr)(mA:Str->Option Value):Prop where
 obj:h.get? x=some (PySem.W.instObj C dx)
 ns:h.Ns1 dx mA
 ne:dx≠x
theorem lookIn_ns {h:Heap}{dx}{mA:Str->Option Value}(n:h.Ns1 dx mA):∃od,h.get? dx=some od/\∀name,PySem.W.lookIn name od=some (mA name):=by
 obtain⟨o,es,ep,ho,hd,hk,_,hm⟩:=n;refine⟨o,ho,fun name=>?_⟩;have e:=hm name;unfold nsFind findBy at e;rw[<- Array.find?_toList] at e;unfold PySem.W.lookIn;rw[hd];dsimp only;split
 ·rename_i y q
  rw[q] at e;exact congrArg some e
 ·rename_i q
  rw[q] at e
  have a:es.toList.any (·.refKey)=false:=by
   rw[List.any_eq_false];intro y hy;obtain⟨z,t,hkey⟩:=hk y (Array.mem_toList_iff.mp hy);simp[DictEntry.refKey,hkey]
  have a':¬es.toList.any (·.refKey)=true:=by rw[a];exact Bool.false_ne_true
  rw[if_neg a'];exact congrArg some e
theorem ObjM.look {h x dx C}{mA:Str->Option Value}(I:ObjM h x dx C mA):∃od,InstAt h x (PySem.W.instObj C dx) C (some od)/\∀name,PySem.W.lookIn name od=some (mA name):=
 let⟨od,ho,hl⟩:=lookIn_ns I.ns
 ⟨od,⟨I.obj,rfl,rfl,ho⟩,hl⟩
section
variable {prog:Program}{w:World}{A:Around}{E:Value->Shared->Prop}{s:Shared}{K:Frag}{x dx C f:Addr}{mA:Str->Option Value}{name:Str}{v:Value}
theorem get_map {expr:Bool}{Q:Value->Shared->Prop}(X:K.In s.heap)(I:ObjM s.heap x dx C mA)(hg:PySem.W.plainGet K C name=true)(hh:hasDictIn K C=true)
  (ha:findIn K (.ref C) name=some none) (hv:mA name=some v) (hv':PySem.W.handedIn v=true) (h:Q v { s with toks:=s.toks+1 }) :
  wpAny (model prog w) A (getAttr (.ref x) name expr) Q E s:=by
 obtain⟨od,J,hl⟩:=I.look;exact PySem.W.get_value X J (PySem.W.plainGet_of hg).1 (PySem.W.findObj_own hh ha rfl (by rw[hl,hv])) hv' h
theorem get_meth {pl:Sem Bool}{Q:Value×List Value->Shared->Prop}(X:K.In s.heap)(I:ObjM s.heap x dx C mA)(hg:PySem.W.plainGet K C name=true)
  (hf:findIn K (.ref C) name=some (some (.ref f))) (ht:isFn K (.ref f)=true) (hv:mA name=none) (h:Q (.ref f,[.ref x]) s) :
  wpAny (model prog w) A (getMethod (.ref x) name pl) Q E s:=by
 obtain⟨od,J,hl⟩:=I.look;exact PySem.W.method_fn X J (PySem.W.plainGet_of hg).1 (PySem.W.plainGet_of hg).2 hf (beq_iff_eq.mp ht) (by show (PySem.W.lookIn name od).map (·.isSome)=some false;rw[hl,hv];rfl) h
theorem set_map {ns:List Str}{Q:Unit->Shared->Prop}(X:K.In s.heap)(I:ObjM s.heap x dx C mA)
  (hs:findIn K (.ref C) "__setattr__" = some (some (.builtin "object.__setattr__"))) (hp:PySem.W.plainOver K C=true) (ht:PySem.W.takerIn K C name=some none) (hh:hasDictIn K C=true)
  (hw:PySem.Within mA ns) (hsz:ns.length<=sizeLine)
  (h:∀h',ObjM h' x dx C (fun y=>if y=name then some v else mA y)->Heap.SameBut dx s.heap h'->Q () { s with heap:=h',toks:=s.toks+2 }) :
  wpAny (model prog w) A (setAttr (.ref x) name v) Q E s:=by
 obtain⟨od,J,hl⟩:=I.look;refine PySem.W.set_plain X J hs (PySem.W.osa_open (s:={ s with toks:=s.toks+1 }) (r:=none) X J hp ht fun b=>?_);obtain⟨cd,hc,hd'⟩:=PySem.W.any_some hh;have hx:s.heap.get? x=some ⟨.ref C,some dx,.plain,#[]⟩:=I.obj
 refine wpAny_bind (wpAny_pure (wpAny_bind (wpAny_bind (wpAny_loadPart hx (wpAny_bind (PySem.W.Looks.here (s:={ s with toks:=s.toks+1 }) (PySem.W.looks_clsIn X hc) ?_))))));rw[hd'];refine wpAny_pure (a:=some dx) (wpAny_bind (wpAny_pure (wpAny_bind ?_)));refine wpAny_nsSet1 (s:={ s with toks:=s.toks+1 }) I.ns fun h' hn2 hs2=>?_;obtain⟨oD,esD,epD,hoD,hdD,hcD⟩:=hn2.count (PySem.Within.cons name v hw)
 refine wpAny_bind (wpAny_lookBehind hoD (by rw[hdD];exact pastItsLine_dict (Nat.le_trans hcD (by rw[List.length_cons];omega))) ?_);exact wpAny_pure (h _ ⟨(hs2.2 _ (Ne.symm I.ne)).trans I.obj,hn2,I.ne⟩ hs2)
theorem make_map {R:Result->Shared->Prop}{vs kw}(X:K.In s.heap)(hm:PySem.W.makesIn K C=true)
  (hi:findIn K (.ref C) "__init__" = some (some (.ref f))) (hf:typeIn K (.ref f)=some (.type "function"))
  (h:codeAny (model prog w) (A.under (.builtin "type.__call__" ⟨.ref C::vs,kw⟩)) (.call (.ref f) ⟨.ref (s.heap.objs.size+1)::vs,kw⟩) (PySem.W.InitBack (s.heap.objs.size+1) R)
   { s with heap:=(s.heap.push PySem.W.emptyDict).push (PySem.W.instObj C s.heap.objs.size) }) :
  codeAny (model prog w) A (.call (.ref C) ⟨vs,kw⟩) R s:=by
 obtain⟨hh,g,d,t,os⟩:=s;exact PySem.W.make_core (PySem.W.makes_of X hm) (looks_findIn X hi) (fun self=>PySem.W.bind_fn X self hf) (.inl rfl) h
end
def putF (f:Str)(v:V):List (Str×V)->List (Str×V)
 | []=>[(f,v)]
 | (g,x)::r=>if g=f then (g,v)::r else (g,x)::putF f v r
theorem lookup_putF (f g:Str)(v:V):∀fs:List (Str×V),(putF f v fs).lookup g=if g=f then some v else fs.lookup g
 | []=>by
  show List.lookup g [(f,v)]=_;by_cases h:g=f
  ·have hb:(g==f)=true:=beq_iff_eq.mpr h;simp only[List.lookup,hb,if_pos h]
  ·have hb:(g==f)=false:=beq_eq_false_iff_ne.mpr h;simp only[List.lookup,hb,if_neg h]
 | (k,x)::r=>by
  have ih:=lookup_putF f g v r;rw[show putF f v ((k,x)::r)=(if k=f then (k,v)::r else (k,x)::putF f v r) from rfl];by_cases hk:k=f
  ·rw[if_pos hk];by_cases h:g=k
   ·have hb:(g==k)=true:=beq_iff_eq.mpr h;simp only[List.lookup,hb,if_pos (h.trans hk)]
   ·have hb:(g==k)=false:=beq_eq_false_iff_ne.mpr h;simp only[List.lookup,hb,if_neg (fun e:g=f=>h (e.trans hk.symm))]
  ·rw[if_neg hk];by_cases h:g=k
   ·have hb:(g==k)=true:=beq_iff_eq.mpr h;simp only[List.lookup,hb,if_neg (fun e:g=f=>hk (h.symm.trans e))]
   ·have hb:(g==k)=false:=beq_eq_false_iff_ne.mpr h;simp only[List.lookup,hb];exact ih
theorem keys_putF (f:Str)(v:V):∀fs:List (Str×V),f∈(putF f v fs).map (·.1)/\∀g,g∈fs.map (·.1)->g∈(putF f v fs).map (·.1)
 | []=>⟨by simp[putF],fun g h=>by simp at h⟩
 | (k,x)::r=>by
  obtain⟨i1,i2⟩:=keys_putF f v r;rw[show putF f v ((k,x)::r)=(if k=f then (k,v)::r else (k,x)::putF f v r) from rfl];by_cases hk:k=f
  ·rw[if_pos hk];subst hk;exact⟨by simp,fun g h=>by simpa using h⟩
  ·rw[if_neg hk];refine⟨?_,fun g h=>?_⟩
   ·rw[List.map_cons];exact List.mem_cons_of_mem _ i1
   ·rw[List.map_cons] at h ⊢;rcases List.mem_cons.mp h with e|e
    ·exact List.mem_cons.mpr (.inl e)
    ·exact List.mem_cons_of_mem _ (i2 g e)
theorem length_putF (f:Str)(v:V):∀fs:List (Str×V),(putF f v fs).length<=fs.length+1
 | []=>by simp[putF]
 | (k,x)::r=>by
  have ih:=length_putF f v r;rw[show putF f v ((k,x)::r)=(if k=f then (k,v)::r else (k,x)::putF f v r) from rfl];by_cases hk:k=f
  ·rw[if_pos hk,List.length_cons,List.length_cons];omega
  ·rw[if_neg hk,List.length_cons,List.length_cons];omega
theorem RelO.some_of {v o}(r:RelO (some v) o):∃u,o=some u/\RelV v u:=by
 cases o with
 | none=>exact(show False from r).elim
 | some u=>exact⟨u,rfl,r⟩
theorem RelO.none_of {o}(r:RelO none o):o=none:=by
 cases o with
 | none=>rfl
 | some u=>exact(show False from r).elim
theorem handed_of {v u}(r:RelV v u):PySem.W.handedIn u=true:=by
 cases v with
 | non=>cases(show u=Value.none from r);rfl
 | bl b=>cases(show u=Value.bool b from r);rfl
 | int i=>obtain⟨t,e⟩:=(show ∃t,u=Value.int i t from r);cases e;rfl
 | str x=>obtain⟨t,e⟩:=(show ∃t,u=Value.str x t from r);cases e;rfl
 | byt b=>obtain⟨t,e⟩:=(show ∃t,u=Value.bytes b t from r);cases e;rfl
 | flt b=>obtain⟨t,e⟩:=(show ∃t,u=Value.float b t from r);cases e;rfl
 | ref a=>cases(show u=Value.ref a from r);rfl
 | ty n=>cases(show u=Value.type n from r);rfl
section
variable {P:Program}{w:World}{H H':Hp}{h h':Heap}{a C dx:Addr}{fs fs':List (Str×V)}
theorem ins_get (hok:HOk P w H h)(e:H a=some (.ins C dx fs)):∃mA,ObjM h a dx C mA/\(∀f,RelO (fs.lookup f) (mA f))/\PySem.Within mA (fs.map (·.1))/\fs.length<=1000/\H dx=some (.own a):=by
 obtain⟨d,z,ne,ob,mA,n,r,q⟩:=(show ObjOk P w H h a (.ins C dx fs) from hok a _ e);exact⟨mA,⟨ob,n,ne⟩,r,q,z,d⟩
end
structure Cls (K:Frag)(C:Addr):Prop where
 pg:PySem.W.plainGet K C Str.empty=true
 hd:hasDictIn K C=true
 po:PySem.W.plainOver K C=true
 sa:findIn K (.ref C) "__setattr__" = some (some (.builtin "object.__setattr__"))
theorem Cls.get {K C}(c:Cls K C)(f:Str):PySem.W.plainGet K C f=true:=c.pg
def NoAttr (K:Frag)(C:Addr)(f:Str):Prop:=findIn K (.ref C) f=some none
theorem NoAttr.taker {K C f}(n:NoAttr K C f):PySem.W.takerIn K C f=some none:=by
 unfold PySem.W.takerIn;rw[show findIn K (.ref C) f=some none from n];rfl
structure Meth (K:Frag)(C:Addr)(m:Str)(f:Addr):Prop where
 at_:findIn K (.ref C) m=some (some (.ref f))
 fn:isFn K (.ref f)=true
 kp:keepIn K (.ref f)=true
section
variable {X:Cx}{pins:List (Addr×Obj)}{σ:St}{H:Hp}{s:Shared}{a C dx:Addr}{fs:List (Str×V)}{f:Str}{v:V}{A:Around}{E:Value->Shared->Prop}
theorem getattr_ok {b}{Q:Value->Shared->Prop}(I:Inv X pins σ H s)(e:H a=some (.ins C dx fs))(c:Cls X.K C)(n:NoAttr X.K C f)(l:fs.lookup f=some v)
  (h:∀u s',Inv X pins σ H s'->RelV v u->Q u s'):wpAny (model X.prog X.w) A (getAttr (.ref a) f b) Q E s:=by
 obtain⟨mA,O,r,_,_,_⟩:=ins_get I.hok e;obtain⟨u,hu,ru⟩:=RelO.some_of (v:=v) (o:=mA f) (by rw[<- l];exact r f);exact get_map I.kIn O (c.get f) c.hd n hu (handed_of ru) (h u _ (I.tok _) ru)
theorem getmeth_ok {m g}{pl:Sem Bool}{Q:Value×List Value->Shared->Prop}(I:Inv X pins σ H s)(e:H a=some (.ins C dx fs))(c:Cls X.K C)(k:Meth X.K C m g)(l:fs.lookup m=none)
  (h:Q (.ref g,[.ref a]) s):wpAny (model X.prog X.w) A (getMethod (.ref a) m pl) Q E s:=by
 obtain⟨mA,O,r,_,_,_⟩:=ins_get I.hok e;have hn:mA m=none:=RelO.none_of (by rw[<- l];exact r m);exact get_meth I.kIn O (c.get m) k.at_ k.fn hn h
theorem setattr_ok {y u}{Q:Unit->Shared->Prop}(I:Inv X pins σ H s)(e:H a=some (.ins C dx fs))(c:Cls X.K C)(n:NoAttr X.K C f)(hl:fs.length<1000)(ry:RelV y u)
  (h:∀s',Inv X pins σ (upd H a (.ins C dx (putF f y fs))) s'->Q () s'):wpAny (model X.prog X.w) A (setAttr (.ref a) f u) Q E s:=by
 obtain⟨mA,O,r,wi,_,ho⟩:=ins_get I.hok e;have hz:(fs.map (·.1)).length<=sizeLine:=by rw[List.length_map,sizeLine_eq];omega
 refine set_map I.kIn O c.sa c.po n.taker c.hd wi hz fun h' O' sb=>h _ ?_;have hd:∃o,h'.get? dx=some o:=let⟨o,_,_,e',_⟩:=O'.ns;⟨o,e'⟩;refine I.write (x:=a) (e:=dx) (by rw[e];exact True.intro) (.inr ho) (fun b q hb z=>(sb.2 b hb).trans z) hd ?_;refine⟨by rw[upd_ne O.ne];exact ho,?_,O.ne,O'.obj,_,O'.ns,fun g=>?_,fun g hg=>?_⟩
 ·have:=length_putF f y fs;omega
 ·show RelO ((putF f y fs).lookup g) (if g=f then some u else mA g);rw[lookup_putF];by_cases q:g=f
  ·rw[if_pos q,if_pos q];exact ry
  ·rw[if_neg q,if_neg q];exact r g
 ·by_cases q:g=f
  ·rw[q];exact(keys_putF f y fs).1
  ·refine(keys_putF f y fs).2 g (wi g fun z=>hg ?_);show (if g=f then some u else mA g)=none;rw[if_neg q];exact z
theorem Inv.made (I:Inv X pins σ H s):Inv X pins σ (upd (upd H s.heap.objs.size (.own (s.heap.objs.size+1))) (s.heap.objs.size+1) (.ins C s.heap.objs.size []))
  { s with heap:=(s.heap.push PySem.W.emptyDict).push (PySem.W.instObj C s.heap.objs.size) }:=by
 have e1:(s.heap.push PySem.W.emptyDict).get? s.heap.objs.size=some PySem.W.emptyDict:=Heap.get?_push_size s.heap rfl
 have e2:((s.heap.push PySem.W.emptyDict).push (PySem.W.instObj C s.heap.objs.size)).get? (s.heap.objs.size+1)=some (PySem.W.instObj C s.heap.objs.size):=by
  have:=Heap.get?_push_size (s.heap.push PySem.W.emptyDict) (o:=PySem.W.instObj C s.heap.objs.size) rfl
  rwa[Heap.size_push] at this
 have e3:(s.heap.push PySem.W.emptyDict).Ns s.heap.objs.size (fun _=>none):=⟨PySem.W.emptyDict,#[],_,e1,rfl,(fun e he=>absurd he (by simp)),fun _=>rfl⟩;have I1:=I.laid (a:=s.heap.objs.size) (o:=.own (s.heap.objs.size+1)) (h':=s.heap.push PySem.W.emptyDict) (t':=s.toks) (fun b u q=>Heap.get?_push_of_some _ q) (Nat.le_refl _) ⟨_,e1⟩
 refine I1.laid (a:=s.heap.objs.size+1) (o:=.ins C s.heap.objs.size []) (t':=s.toks) (fun b u q=>Heap.get?_push_of_some _ q) (Nat.le_of_eq (Heap.size_push _ _)) ?_;have ne:s.heap.objs.size≠s.heap.objs.size+1:=Nat.ne_of_lt (Nat.lt_succ_self _)
 refine⟨by rw[upd_ne ne,upd_same],Nat.zero_le _,ne,e2,fun _=>none,(Heap.Ns1.of_empty e3).at fun o q=>Heap.get?_push_of_some _ q,fun _=>True.intro,fun y hy=>absurd rfl hy⟩
theorem attr_of {prog w}{env:Env}{e f pos}{s:Shared}{Q:Value->Shared->Prop}(hb:attributeBase e f env (eval e env)=eval e env)
  (h:wpAny (model prog w) A (eval e env) (fun o s₁=>wpAny (model prog w) A (getAttr o f true) Q E s₁) E s):wpAny (model prog w) A (eval (.Attribute e f pos) env) Q E s:=
 Attribute_any_ h (by rw[arm_eval_Attribute,hb])
end
def tFld (K:Frag)(ta:TE)(f:Str):TE:=fun σ H Q=>ta σ H fun x H1=>∃a C dx fs v,x=.ref a/\H1 a=some (.ins C dx fs)/\Cls K C/\NoAttr K C f/\fs.lookup f=some v/\Q v H1
def sFld (K:Frag)(ta tv:TE)(f:Str):TS:=fun D σ H=>tv σ H fun y H1=>ta σ H1 fun x H2=>∃a C dx fs,x=.ref a/\H2 a=some (.ins C dx fs)/\Cls K C/\NoAttr K C f/\fs.length<1000 /\
 D.nx σ (upd H2 a (.ins C dx (putF f y fs)))
def InOp (X:Cx)(op:Operator)(rd:V->V->Hp->VK->Prop):Prop:=
 ∀(pins:List (Addr×Obj)) (s:Shared) (σ:St) (H:Hp) (x y:V) (u v:Value) (Q:VK),Inv X pins σ H s->RelV x u->RelV y v->rd x y H Q->wpAny (model X.prog X.w) X.A (inplaceOp op u v) (EP X pins σ Q) X.xe s
def sFldAug (K:Frag)(ta tv:TE)(rd:V->V->Hp->VK->Prop)(f:Str):TS:=fun D σ H=>ta σ H fun x H1=>∃a C dx fs v,x=.ref a/\H1 a=some (.ins C dx fs)/\Cls K C/\NoAttr K C f/\fs.lookup f=some v /\
 tv σ H1 fun y H2=>rd v y H2 fun z H3=>∃dx' fs',H3 a=some (.ins C dx' fs')/\fs'.length<1000/\D.nx σ (upd H3 a (.ins C dx' (putF f z fs')))
section
variable {X:Cx}{o e value:Expr}{f:Str}{pos pos' tpos:Pos}{ta tv:TE}
theorem pe_fld (he:PE X e ta)(hb:attributeBase e f X.env (eval e X.env)=eval e X.env):PE X (.Attribute e f pos) (tFld X.K ta f):=by
 intro pins s σ H Q I h;refine attr_of hb (thn (he pins s σ H _ I h) fun u s1 ⟨x,H1,I1,rx,a,C,dx,fs,v,ex,ea,c,n,l,q⟩=>?_);subst ex;obtain rfl:u=Value.ref a:=rx;exact getattr_ok I1 ea c n l fun u' s2 I2 ru=>⟨v,H1,I2,ru,q⟩
theorem ps_fld (ha:PE X o ta)(hv:PE X value tv)(hs:swapsWith value (some (.Attribute o f pos')) pos.line X.env=pure false):PS X (.Assign [.Attribute o f pos'] value pos) (sFld X.K ta tv f):=by
 intro pins s σ H D I h;refine plainObj_wpAny_Assign_Attribute (thn (hv pins s σ H _ I h) fun u s1 ⟨y,H1,I1,ry,q⟩=>thn (ha pins s1 σ H1 _ I1 q) fun ov s2 ⟨x,H2,I2,rx,a,C,dx,fs,ex,ea,c,n,l,q2⟩=>?_) hs;subst ex;obtain rfl:ov=Value.ref a:=rx;exact setattr_ok I2 ea c n l ry fun s3 I3=>⟨σ,_,I3,q2⟩
theorem ps_fldaug {op:Operator}{rd:V->V->Hp->VK->Prop}(ha:PE X o ta)(hv:PE X value tv)(hop:InOp X op rd):PS X (.AugAssign (.Attribute o f tpos) op value pos) (sFldAug X.K ta tv rd f):=by
 intro pins s σ H D I h;refine wpAny_AugAssign_AttributeAny (thn (ha pins s σ H _ I h) fun ov s1 ⟨x,H1,I1,rx,a,C,dx,fs,v,ex,ea,c,n,l,q⟩=>?_);subst ex;obtain rfl:ov=Value.ref a:=rx;refine getattr_ok I1 ea c n l fun u s2 I2 ru=>thn (hv pins s2 σ H1 _ I2 q) fun w3 s3 ⟨y,H2,I3,ry,q3⟩=>thn (hop pins s3 σ H2 v y u w3 _ I3 ru ry q3) fun w4 s4 ⟨z,H3,I4,rz,dx',fs',ea',l',q4⟩=>?_
 exact setattr_ok I4 ea' c n l' rz fun s5 I5=>⟨σ,_,I5,q4⟩
def rAdd:V->V->Hp->VK->Prop:=fun x y H Q=>∃i j,x=.int i/\y=.int j/\Q (.int (i+j)) H
theorem in_add:InOp X .Add rAdd:=by
 rintro pins s σ H x y u v Q I rx ry ⟨i,j,rfl,rfl,q⟩;obtain⟨t,rfl⟩:=(show ∃t,u=Value.int i t from rx);obtain⟨t',rfl⟩:=(show ∃t',v=Value.int j t' from ry);exact PyProof.Rows.iadd_int ⟨.int (i+j),H,I.tok _,⟨_,rfl⟩,q⟩
end
section
variable {X:Cx}{pins:List (Addr×Obj)}{σ:St}{H:Hp}{s:Shared}{A:Around}{E:Value->Shared->Prop}{Q:Value->Shared->Prop}{c:Value}{b:Bool}
inductive TyOf (K:Frag)(H:Hp):V->Value->Prop where
 | non:TyOf K H .non (.type "NoneType")
 | bl (x:Bool):TyOf K H (.bl x) (.type "bool")
 | int (i:Int):TyOf K H (.int i) (.type "int")
 | str (x:Str):TyOf K H (.str x) (.type "str")
 | flt (x:UInt64):TyOf K H (.flt x) (.type "float")
 | lst {a:Addr} {xs:List V} (e:H a=some (.lst xs)):TyOf K H (.ref a) (.type "list")
 | frz {a:Addr} {o:Obj} {xs:List V} (e:H a=some (.frz o (.lst xs))):TyOf K H (.ref a) (.type "list")
 | tup {a:Addr} {xs:List V} (e:H a=some (.tup xs)):TyOf K H (.ref a) (.type "tuple")
 | dK {a:Addr} {kvs:List (Key×V)} (e:H a=some (.dK kvs)):TyOf K H (.ref a) (.type "dict")
 | dT {a:Addr} {kvs:List (List Key×V)} (e:H a=some (.dT kvs)):TyOf K H (.ref a) (.type "dict")
 | ins {a C dx:Addr} {fs:List (Str×V)} (e:H a=some (.ins C dx fs)) (cl:Cls K C) (ha:findIn K (.ref C) "__class__" = some (some (.builtin "object.__class__")))
   (hn:specialIn K (.builtin "object.__class__") "__get__" = some (some (.builtin "getset_descriptor.__get__"))) (htk:takesIn K (.builtin "object.__class__")=some true)
   (hm:mroIn K C (.type "object")=some true):TyOf K H (.ref a) (.ref C)
theorem isinst_ok {x u t}(I:Inv X pins σ H s)(rx:RelV x u)(ty:TyOf X.K H x t)(e:kitOne X.K t c=some b)(h:∀tk,Q (.bool b) { s with toks:=tk }) :
  wpAny (model X.prog X.w) A (call (.builtin "isinstance") [u,c]) Q E s:=by
 cases ty with
 | non=>cases(show u=Value.none from rx);exact kia_one PySem.W.kitx_none I.kIn True.intro e (fun z=>nomatch z) h
 | bl y=>cases(show u=Value.bool y from rx);exact kia_one PySem.W.kitx_bool I.kIn True.intro e (fun z=>nomatch z) h
 | int i=>obtain⟨t,q⟩:=(show ∃t,u=Value.int i t from rx);cases q;exact kia_one PySem.W.kitx_int I.kIn True.intro e (fun z=>nomatch z) h
 | str y=>obtain⟨t,q⟩:=(show ∃t,u=Value.str y t from rx);cases q;exact kia_one PySem.W.kitx_str I.kIn True.intro e (fun z=>nomatch z) h
 | flt y=>obtain⟨t,q⟩:=(show ∃t,u=Value.float y t from rx);cases q;exact kia_one PySem.W.kitx_float I.kIn True.intro e (fun z=>nomatch z) h
 | @lst a xs ea=>
  cases(show u=Value.ref a from rx);obtain⟨_,_,n,_,h1⟩:=(show ObjOk X.prog X.w H s.heap a (.lst xs) from I.hok a _ ea);exact kia_one PySem.W.kitx_list I.kIn ⟨_,h1,rfl⟩ e (fun z=>nomatch z) h
 | @frz a ob xs ea=>
  cases(show u=Value.ref a from rx);obtain⟨_,_,_,n,_,h1⟩:=(show ObjOk X.prog X.w H s.heap a (.frz ob (.lst xs)) from I.hok a _ ea);exact kia_one PySem.W.kitx_list I.kIn ⟨_,h1,rfl⟩ e (fun z=>nomatch z) h
 | @tup a xs ea=>
  cases(show u=Value.ref a from rx);obtain⟨_,_,_,p,_⟩:=(show ObjOk X.prog X.w H s.heap a (.tup xs) from I.hok a _ ea);obtain⟨o,h1,h2,_⟩:=p;exact kia_one PySem.W.kitx_tuple I.kIn ⟨o,h1,h2⟩ e (fun z=>nomatch z) h
 | @dK a kvs ea=>
  cases(show u=Value.ref a from rx);obtain⟨_,_,vs,_,p⟩:=(show ObjOk X.prog X.w H s.heap a (.dK kvs) from I.hok a _ ea);obtain⟨o,es,ep,h1,h2,_⟩:=p;exact kia_one PySem.W.kitx_dict I.kIn ⟨o,h1,h2.1⟩ e (fun z=>nomatch z) h
 | @dT a kvs ea=>
  cases(show u=Value.ref a from rx);obtain⟨_,_,xs,_,o,es,ep,h1,h2,_⟩:=(show ObjOk X.prog X.w H s.heap a (.dT kvs) from I.hok a _ ea);exact kia_one PySem.W.kitx_dict I.kIn ⟨o,h1,h2.1⟩ e (fun z=>nomatch z) h
 | @ins a C dx fs ea cl ha hn htk hm=>
  cases(show u=Value.ref a from rx);obtain⟨mA,O,_⟩:=ins_get I.hok ea;obtain⟨od,J,_⟩:=O.look;exact kia_one (PySem.W.kitx_own (cl.get _) cl.hd ha hn htk hm) I.kIn J e (fun z=>nomatch z) h
end
structure RoomG (b:Bool)(k:Nat)(A:Around):Prop where
 hd:b=true->A.handled=none
 dp:A.depth+3 * k+5<recursionLimit
 un:A.units+16 * k+200<cLine
 gd:A.guards=some []
abbrev Room:=RoomG true
theorem RoomG.mono {b}{j k:Nat}{A:Around}(r:RoomG b k A)(h:j<=k):RoomG b j A:=⟨r.hd,by have:=r.dp;omega,by have:=r.un;omega,r.gd⟩
theorem RoomG.deeper {b}{k:Nat}{A:Around}(r:RoomG b (k+1) A)(env:Env):RoomG b k (A.deeper env):=
 ⟨r.hd,by have:=r.dp;show A.depth+1+3 * k+5<_;omega,by have:=r.un;show A.units+3+16 * k+200<_;omega,r.gd⟩
theorem make_depth {A:Around}{C us kw}:(A.under (.builtin "type.__call__" ⟨.ref C::us,kw⟩)).depth=A.depth+1:=by
 first|rfl|simp[Around.under,Code.weight,Code.isCreation,Code.isGuard,Code.isCaller,Code.frames,Code.isFrame,guardIds]
theorem make_units {A:Around}{C us kw}:(A.under (.builtin "type.__call__" ⟨.ref C::us,kw⟩)).units=A.units+1:=by
 first|rfl|simp[Around.under,Code.cUnits,Code.frames,Code.isFrame]
theorem make_guards {A:Around}{C us kw}:(A.under (.builtin "type.__call__" ⟨.ref C::us,kw⟩)).guards=A.guards:=by
 first|rfl|simp[Around.under,Code.cUnits,Code.frames,Code.isFrame]
theorem RoomG.make {k:Nat}{A:Around}(r:Room (k+1) A)(C:Addr)(us:List Value)(kw:List (Str×Value)):Room k (A.under (.builtin "type.__call__" ⟨.ref C::us,kw⟩)):=
 ⟨r.hd,by have:=r.dp;rw[make_depth];omega,by have:=r.un;rw[make_units];omega,by rw[make_guards];exact r.gd⟩
theorem RoomG.depth {b}{k:Nat}{A:Around}(r:RoomG b k A):A.depth<recursionLimit:=by have:=r.dp;omega
theorem RoomG.units {b}{k:Nat}{A:Around}(r:RoomG b k A):A.units+64<cLine:=by have:=r.un;omega
theorem RoomG.units0 {b}{k:Nat}{A:Around}(r:RoomG b k A):A.units<cLine:=by have:=r.un;omega
def tNil:TA:=fun _ H Q=>Q [] H
def tCons (ta:TE)(tr:TA):TA:=fun σ H Q=>ta σ H fun x H1=>tr σ H1 fun xs H2=>Q (x::xs) H2
section
variable {X:Cx}{e:Expr}{es:List Expr}{te:TE}{t:TA}{pos:Pos}
theorem pa_nil:PA X [] tNil:=fun _ _ _ _ H Q I h=>Calls.spliced_nil ⟨[],H,I,.nil,h⟩
theorem pa_cons (ha:PE X e te)(hr:PA X es t)(hs:starEach (e::es) X.env=(false,eval e X.env)::starEach es X.env:=by rfl):PA X (e::es) (tCons te t):=by
 intro pos pins s σ H Q I h;rw[hs];show wpAny _ _ (spliced ((false,eval e X.env)::backTo pos (starEach es X.env))) _ _ s;refine Calls.spliced_cons (thn (ha pins s σ H _ I h) fun u s1 ⟨x,H1,I1,r1,q1⟩=>?_);exact thn (hr pos pins s1 σ H1 _ I1 q1) fun us s2 ⟨xs,H2,I2,r2,q2⟩=>⟨x::xs,H2,I2,.cons r1 r2,q2⟩
def tTup (t:TA):TE:=fun σ H Q=>t σ H fun xs H1=>xs.length<=sizeLine/\∀p,H1 p=none->Q (.ref p) (upd H1 p (.tup xs))
def tLst (t:TA):TE:=fun σ H Q=>t σ H fun xs H1=>xs.length<=sizeLine/\∀p,H1 p=none->Q (.ref p) (upd H1 p (.lst xs))
theorem pe_tup {x1}(h:PA X es t):PE X (.Tuple es x1 pos) (tTup t):=by
 intro pins s σ H Q I hq;refine wpAny_Tuple_spliced (thn (h pos pins s σ H _ I hq) fun us s1 ⟨xs,H1,I1,r,z,q⟩=>⟨by rw[<- r.length];exact z,?_⟩);have hf:H1 s1.heap.objs.size=none:=I1.hok.fresh (Nat.le_refl _);refine⟨.ref s1.heap.objs.size,upd H1 s1.heap.objs.size (.tup xs),I1.laid (t':=s1.toks) (fun b u e=>Heap.get?_push_of_some _ e) (Nat.le_refl _) ?_,rfl,q _ hf⟩
 exact⟨z,us,r,⟨_,Heap.get?_push_size _ rfl,rfl,_,rfl⟩,tup_nodict⟩
theorem pe_lst (h:PA X es t):PE X (.List es pos) (tLst t):=by
 intro pins s σ H Q I hq;refine wpAny_List_spliced (thn (h pos pins s σ H _ I hq) fun us s1 ⟨xs,H1,I1,r,z,q⟩=>⟨by rw[<- r.length];exact z,?_⟩);have hf:H1 s1.heap.objs.size=none:=I1.hok.fresh (Nat.le_refl _);refine⟨.ref s1.heap.objs.size,upd H1 s1.heap.objs.size (.lst xs),I1.laid (t':=s1.toks) (fun b u e=>Heap.get?_push_of_some _ e) (Nat.le_refl _) ?_,rfl,q _ hf⟩
 exact⟨z,us,0,r,Heap.get?_push_size _ rfl⟩
end
abbrev Sp:=List V->Hp->VK->XK->Prop
abbrev CXT:=List Env->Hp->Shared->XK->Value->Shared->Prop
structure Env0 (P:Program)(w:World)(K:Frag)(mg:Str->Option Value)(base:Heap)(A:Around)(outer:List Env)(s:Shared)(H:Hp):Prop where
 frames:A.frames=some outer
 mod:Mod K mg base
 bs:∀b o,base.get? b=some o->s.heap.get? b=some o/\H b=none
 bsz:base.objs.size<=s.heap.objs.size
 funs:s.heap.FunFrames base outer
 frf:∀b∈frs outer,H b=none
 hok:HOk P w H s.heap
 bare:AllBare s.gens
def CE (outer:List Env)(P:Program)(w:World)(H:Hp)(s:Shared)(Q:VK)(u:Value)(s':Shared):Prop:=
 ∃v H',s'.os=s.os/\AllBare s'.gens/\Un (frs outer) [] H H' s.heap s'.heap/\HOk P w H' s'.heap/\RelV v u/\Q v H'
def CR (CX:CXT)(outer:List Env)(P:Program)(w:World)(H:Hp)(s:Shared)(Q:VK)(E:XK)(r:Result)(s':Shared):Prop:=
 match r with
 | .ok (.ret u)=>CE outer P w H s Q u s'
 | .ok _=>False
 | .error e=>CX outer H s E e s'
structure FnOkG (b:Bool)(P:Program)(w:World)(K:Frag)(mg:Str->Option Value)(base:Heap)(CX:CXT)(k:Nat)(f:Addr)(fd:FuncData)(ps:List Str)(sp:Sp):Prop where
 len:∀vs H Q E,sp vs H Q E->vs.length=ps.length
 run:∀(A:Around) (outer:List Env) (s:Shared) (H:Hp) (args:Args) (us:List Value) (vs:List V) (Q:VK) (E:XK),RoomG b k A->Env0 P w K mg base A outer s H->BindsTo s fd args (ps.zip us)->Vals vs us->sp vs H Q E ->
  codeAny (model P w) A (.call (.ref f) args) (CR CX outer P w H s Q E) s
abbrev FnOk:=FnOkG true
theorem Env0.make {P w K}{mg:Str->Option Value}{base}{A:Around}{outer:List Env}{s:Shared}{H:Hp}(e:Env0 P w K mg base A outer s H)(C:Addr)(us:List Value)(kw:List (Str×Value)) :
  Env0 P w K mg base (A.under (.builtin "type.__call__" ⟨.ref C::us,kw⟩)) outer s H:=⟨by first|exact e.frames|(simpa[Around.under,Code.envs,Code.isFrame,pushEnvs] using e.frames),e.mod,e.bs,e.bsz,e.funs,e.frf,e.hok,e.bare⟩
section
variable {X:Cx}{pins:List (Addr×Obj)}{σ:St}{H:Hp}{s s':Shared}
theorem Inv.env0 (I:Inv X pins σ H s):Env0 X.prog X.w X.K X.mg X.base X.A X.stack s H:=
 ⟨I.ok.frames,I.ok.mod,I.bs,Nat.le_trans I.ok.bsz I.sz,I.stack,I.stkFree,I.hok,I.bare⟩
theorem Inv.after {Q u}(I:Inv X pins σ H s)(h:CE X.stack X.prog X.w H s Q u s'):EP X pins σ Q u s':=by
 obtain⟨v,H',os,bare,un,hok,r,q⟩:=h;obtain⟨hh,g,d,t,os'⟩:=s';obtain rfl:os'=s.os:=os;exact⟨v,H',I.call (h':=hh) (g':=g) (d':=d) (t':=t) (ch:=[]) un hok bare (fun b z=>absurd z (by simp)),r,q⟩
end
def tCall (sp:Sp)(dvs:List V)(E:XK)(t:TA):TE:=fun σ H Q=>t σ H fun vs H1=>sp (vs++dvs) H1 Q E
def tMeth (C:Addr)(m:Str)(sp:Sp)(dvs:List V)(E:XK)(ta:TE)(t:TA):TE:=fun σ H Q=>ta σ H fun x H1=>∃a dx fs,x=.ref a/\H1 a=some (.ins C dx fs)/\fs.lookup m=none /\
 t σ H1 fun vs H2=>sp (x::(vs++dvs)) H2 Q E
def tMake (C:Addr)(sp:Sp)(dvs:List V)(E:XK)(t:TA):TE:=fun σ H Q=>t σ H fun vs H1=>∀x dx,H1 x=none->H1 dx=none->dx≠x ->
 sp (.ref x::(vs++dvs)) (upd (upd H1 dx (.own x)) x (.ins C dx [])) (fun v H2=>v=.non/\Q (.ref x) H2) E
def Binds (K:Frag)(fd:FuncData)(ps:List Str)(ds:List Value):Prop:=
 ∀(s:Shared) (us:List Value),K.In s.heap->(us++ds).length=ps.length->BindsTo s fd ⟨us,[]⟩ (ps.zip (us++ds))
theorem Binds.all {K fd}{ps:List Str}(h:∀us:List Value,us.length=ps.length->bindArgs fd ⟨us,[]⟩=pure (ps.zip us)):Binds K fd ps []:=fun s us _ hl=>by
 rw[List.append_nil] at hl ⊢;exact .of_eq (h us hl)
def Passes (CX:CXT)(X:Cx)(E:XK):Prop:=∀(pins:List (Addr×Obj)) (σ:St) (H:Hp) (s:Shared) (e:Value) (s':Shared),Inv X pins σ H s->CX X.stack H s E e s'->X.xe e s'
section
variable {X:Cx}{CX:CXT}{k:Nat}{f C:Addr}{fd:FuncData}{ps:List Str}{sp:Sp}{dvs:List V}{ds:List Value}{E:XK}{x m:Str}{p pos apos:Pos}{e o:Expr}{es:List Expr}{ta:TE}{t:TA}
theorem run_fn {b pins}{σ:St}{H:Hp}{s:Shared}{Q us vs}(F:FnOkG b X.prog X.w X.K X.mg X.base CX k f fd ps sp)(hr:RoomG b k X.A)(hb:Binds X.K fd ps ds)(hd:Vals dvs ds)(hx:Passes CX X E)
  (I:Inv X pins σ H s) (r:Vals vs us) (h:sp (vs++dvs) H Q E):wpAny (model X.prog X.w) X.A (call (.ref f) us) (EP X pins σ Q) X.xe s:=by
 have r2:Vals (vs++dvs) (us++ds):=r.append hd;have hl:(us++ds).length=ps.length:=by rw[<- r2.length];exact F.len _ _ _ _ h
 refine wpAny_call (codeAny_mono (F.run X.A X.stack s H ⟨us,[]⟩ (us++ds) (vs++dvs) Q E hr I.env0 (hb s us I.kIn hl) r2 h) fun r s' hq=>?_);cases r with
 | error e=>exact hx pins σ H s e s' I hq
 | ok fl=>
  cases fl with
  | ret u=>exact I.after hq
  | next=>exact False.elim hq
  | brk=>exact False.elim hq
  | cont=>exact False.elim hq
theorem pe_call {b}(F:FnOkG b X.prog X.w X.K X.mg X.base CX k f fd ps sp)(hr:RoomG b k X.A)(hg:Gl X x)(hm:X.mg x=some (.ref f))(hk:keepIn X.K (.ref f)=true)(hb:Binds X.K fd ps ds)(hd:Vals dvs ds)(hx:Passes CX X E)
  (ha:PA X (e::es) t) (hdb:(x==("__debug__" : Str))=false:=by decide) (he:starEach (e::es) X.env=(false,eval e X.env)::starEach es X.env:=by rfl) (hpl:(backTo pos (starEach es X.env)).any (·.1)=false:=by rfl) :
  PE X (.Call (.Name x p) (e::es) [] pos) (tCall sp dvs E t):=by
 intro pins s σ H Q I h;refine wpAny_Call_Name_kw (ld_glob I hg hm ?_ hdb);refine PySem.W.callWith_K (h₀:=X.base) I.ok.mod.kin hk (thn (ha pos pins s σ H _ I h) fun us s1 ⟨vs,H1,I1,r,q⟩=>⟨I1.kIn,?_⟩) he hpl;exact run_fn F hr hb hd hx I1 r q
theorem pe_meth {pl:Sem Bool}(he:PE X o ta)(c:Cls X.K C)(hm:Meth X.K C m f)(F:FnOk X.prog X.w X.K X.mg X.base CX k f fd ps sp)(hr:Room k X.A)(hb:Binds X.K fd ps ds)(hd:Vals dvs ds)(hx:Passes CX X E)(ha:PA X (e::es) t)
  (hst:starEach (e::es) X.env=(false,eval e X.env)::starEach es X.env:=by rfl) (hpl:(backTo pos (starEach es X.env)).any (·.1)=false:=by rfl)
  (ht:eval (.Call (.Attribute o m apos) (e::es) [] pos) X.env=(do
   let ov <- eval o X.env
   standAt apos.atName
   let(f,first) <- holding [ov] (getMethod ov m pl)
   callWith pos f first (backTo pos (starEach (e::es) X.env)) (backToKw pos (keywordEach [] X.env))):=by rfl) :
  PE X (.Call (.Attribute o m apos) (e::es) [] pos) (tMeth C m sp dvs E ta t):=by
 intro pins s σ H Q I h;refine PySem.W.methodCall_KW (pl:=pl) (thn (he pins s σ H _ I h) fun u s1 ⟨x,H1,I1,rx,a,dx,fs,ex,ea,l,q⟩=>?_) ht;subst ex;obtain rfl:u=Value.ref a:=rx;refine getmeth_ok I1 ea c hm l ?_;refine PySem.W.callWith_K (first:=[.ref a]) (h₀:=X.base) I.ok.mod.kin hm.kp (thn (ha pos pins s1 σ H1 _ I1 q) fun us s2 ⟨vs,H2,I2,r,q2⟩=>⟨I2.kIn,?_⟩) hst hpl
 exact run_fn (us:=.ref a::us) (vs:=.ref a::vs) F hr hb hd hx I2 (.cons rfl r) q2
theorem pe_meth0 {pl:Sem Bool}(he:PE X o ta)(c:Cls X.K C)(hm:Meth X.K C m f)(F:FnOk X.prog X.w X.K X.mg X.base CX k f fd ps sp)(hr:Room k X.A)(hb:Binds X.K fd ps ds)(hd:Vals dvs ds)(hx:Passes CX X E)
  (ht:eval (.Call (.Attribute o m apos) [] [] pos) X.env=(do
   let ov <- eval o X.env
   standAt apos.atName
   let(f,first) <- holding [ov] (getMethod ov m pl)
   callWith pos f first (backTo pos (starEach [] X.env)) (backToKw pos (keywordEach [] X.env))):=by rfl) :
  PE X (.Call (.Attribute o m apos) [] [] pos) (tMeth C m sp dvs E ta tNil):=by
 intro pins s σ H Q I h;refine PySem.W.methodCall_KW (pl:=pl) (thn (he pins s σ H _ I h) fun u s1 ⟨x,H1,I1,rx,a,dx,fs,ex,ea,l,q⟩=>?_) ht;subst ex;obtain rfl:u=Value.ref a:=rx;refine getmeth_ok I1 ea c hm l ?_;exact PySem.W.callWith_K0 (first:=[.ref a]) I1.kIn hm.kp (run_fn (us:=[.ref a]) (vs:=[.ref a]) F hr hb hd hx I1 (.cons rfl .nil) q)
structure Mk (K:Frag)(C f:Addr):Prop where
 makes:PySem.W.makesIn K C=true
 init:findIn K (.ref C) "__init__" = some (some (.ref f))
 fn:isFn K (.ref f)=true
 kp:keepIn K (.ref C)=true
theorem run_make {pins}{σ:St}{H:Hp}{s:Shared}{Q:VK}{us vs}(M:Mk X.K C f)(F:FnOk X.prog X.w X.K X.mg X.base CX k f fd ps sp)(hr:Room (k+1) X.A)(hb:Binds X.K fd ps ds)(hd:Vals dvs ds)
  (hx:Passes CX X E) (I:Inv X pins σ H s) (r:Vals vs us)
  (h:∀x dx,H x=none->H dx=none->dx≠x->sp (.ref x::(vs++dvs)) (upd (upd H dx (.own x)) x (.ins C dx [])) (fun v H2=>v=.non/\Q (.ref x) H2) E) :
  wpAny (model X.prog X.w) X.A (call (.ref C) us) (EP X pins σ Q) X.xe s:=by
 have hq:=h (s.heap.objs.size+1) s.heap.objs.size (I.hok.fresh (Nat.le_succ _)) (I.hok.fresh (Nat.le_refl _)) (Nat.ne_of_lt (Nat.lt_succ_self _));have I2:=Inv.made (C:=C) I;have r2:Vals (V.ref (s.heap.objs.size+1)::(vs++dvs)) (Value.ref (s.heap.objs.size+1)::(us++ds)):=.cons rfl (r.append hd)
 have hl:(Value.ref (s.heap.objs.size+1)::us++ds).length=ps.length:=by
  have e:=r2.length;rw[F.len _ _ _ _ hq] at e;exact e.symm
 refine wpAny_call (make_map (f:=f) I.kIn M.makes M.init (beq_iff_eq.mp M.fn) (codeAny_mono (F.run _ X.stack _ _ ⟨Value.ref (s.heap.objs.size+1)::us,[]⟩ (Value.ref (s.heap.objs.size+1)::(us++ds)) _ _ E (hr.make C us [])
  (I2.env0.make C us []) (hb _ (Value.ref (s.heap.objs.size+1)::us) I2.kIn hl) r2 hq) fun r s' hq'=>?_))
 cases r with
 | error e=>exact hx pins σ _ _ e s' I2 hq'
 | ok fl=>
  cases fl with
  | ret u=>
   obtain⟨v,H',I3,rv,ev,q3⟩:=I2.after hq';subst ev;exact⟨rv,⟨V.ref (s.heap.objs.size+1),H',I3,rfl,q3⟩⟩
  | next=>exact False.elim hq'
  | brk=>exact False.elim hq'
  | cont=>exact False.elim hq'
theorem pe_make (M:Mk X.K C f)(F:FnOk X.prog X.w X.K X.mg X.base CX k f fd ps sp)(hr:Room (k+1) X.A)(hg:Gl X x)(hm:X.mg x=some (.ref C))(hb:Binds X.K fd ps ds)(hd:Vals dvs ds)(hx:Passes CX X E)
  (ha:PA X (e::es) t) (hdb:(x==("__debug__" : Str))=false:=by decide) (he:starEach (e::es) X.env=(false,eval e X.env)::starEach es X.env:=by rfl) (hpl:(backTo pos (starEach es X.env)).any (·.1)=false:=by rfl) :
  PE X (.Call (.Name x p) (e::es) [] pos) (tMake C sp dvs E t):=by
 intro pins s σ H Q I h;refine wpAny_Call_Name_kw (ld_glob I hg hm ?_ hdb);refine PySem.W.callWith_K (h₀:=X.base) I.ok.mod.kin M.kp (thn (ha pos pins s σ H _ I h) fun us s1 ⟨vs,H1,I1,r,q⟩=>⟨I1.kIn,?_⟩) he hpl;exact run_make M F hr hb hd hx I1 r q
theorem pe_make0 (M:Mk X.K C f)(F:FnOk X.prog X.w X.K X.mg X.base CX k f fd ps sp)(hr:Room (k+1) X.A)(hg:Gl X x)(hm:X.mg x=some (.ref C))(hb:Binds X.K fd ps ds)(hd:Vals dvs ds)(hx:Passes CX X E)
  (hdb:(x==("__debug__" : Str))=false:=by decide):PE X (.Call (.Name x p) [] [] pos) (tMake C sp dvs E tNil):=by
 intro pins s σ H Q I h;refine wpAny_Call_Name_kw (ld_glob I hg hm ?_ hdb);exact PySem.W.callWith_K0 I.kIn M.kp (run_make (us:=[]) M F hr hb hd hx I .nil h)
end
def PK (X:Cx)(kws:List Keyword)(t:TA):Prop:=
 ∀(pos:Pos) (pins:List (Addr×Obj)) (s:Shared) (σ:St) (H:Hp) (Q:List V->Hp->Prop),Inv X pins σ H s->t σ H Q->wpAny (model X.prog X.w) X.A (evalAll ((backToKw pos (keywordEach kws X.env)).map (·.2))) (AP X pins σ Q) X.xe s
section
variable {X:Cx}{CX:CXT}{k:Nat}{f C:Addr}{fd:FuncData}{ps ks:List Str}{sp:Sp}{E:XK}{x m:Str}{p pos apos kpos:Pos}{e o:Expr}{es:List Expr}{kws:List Keyword}{te ta:TE}{t tk:TA}{nm:Option Str}
theorem pk_nil:PK X [] tNil:=fun _ _ _ _ H Q I h=>wpAny_evalAll_nil ⟨[],H,I,.nil,h⟩
theorem pk_cons (ha:PE X e te)(hr:PK X kws t):PK X (⟨nm,e,kpos⟩::kws) (tCons te t):=by
 intro pos pins s σ H Q I h;show wpAny _ _ (evalAll ((do let v <- eval e X.env;standAt pos;pure v)::(backToKw pos (keywordEach kws X.env)).map (·.2))) _ _ s;refine wpAny_evalAll_cons (wpAny_bind (thn (ha pins s σ H _ I h) fun u s1 ⟨x,H1,I1,r1,q1⟩=>wpAny_bind (wpAny_standAt (wpAny_pure ?_))));exact thn (hr pos pins s1 σ H1 _ I1 q1) fun us s2 ⟨xs,H2,I2,r2,q2⟩=>⟨x::xs,H2,I2,.cons r1 r2,q2⟩
variable {g:List Value->List Value->List Value}{gV:List V->List V->List V}
end
structure FnScope (N P:List Str)(sc:Scope):Prop where
 kind:sc.kind=.function
 co:sc.isCoroutine=false
 gen:sc.isGenerator=false
 nd:N.Nodup
 pre:N.take P.length=P
 par:∀x∈P,sc.names.lookup x=some .local\/sc.names.lookup x=some .cell
 nofree:∀y∈sc.names,y.2≠.free
theorem bindL_out {kindOf:Str->Option NameKind}{x}:∀{binds:List (Str×Value)} {m:Str->Option Value},(∀v,(x,v)∉binds)->bindL kindOf binds m x=m x
 | [],_,_=>rfl
 | (n,v)::r,m,h=>by
  unfold bindL;rw[bindL_out fun w hw=>h w (List.mem_cons_of_mem _ hw)];split
  ·have:x≠n:=by rintro rfl;exact h v List.mem_cons_self
   simp[this]
  ·rfl
theorem bindC_out {kindOf:Str->Option NameKind}{x}:∀{binds:List (Str×Value)} {m:Str->Option Value},(∀v,(x,v)∉binds)->bindC kindOf binds m x=m x
 | [],_,_=>rfl
 | (n,v)::r,m,h=>by
  unfold bindC;rw[bindC_out fun w hw=>h w (List.mem_cons_of_mem _ hw)];split
  ·rfl
  ·have:x≠n:=by rintro rfl;exact h v List.mem_cons_self
   simp[this]
theorem bindL_get {kindOf:Str->Option NameKind}{x v}:∀{P:List Str} {vs:List Value} {i:Nat} {m:Str->Option Value},P.Nodup->P[i]?=some x->vs[i]?=some v->kindOf x=some .local ->
  bindL kindOf (P.zip vs) m x=some v
 | [],_,_,_,_,h,_,_=>by simp at h
 | _::_,[],_,_,_,_,h,_=>by simp at h
 | p::P,w::vs,0,m,nd,h1,h2,hk=>by
  simp at h1 h2;subst h1;subst h2;show bindL kindOf ((p,w)::P.zip vs) m p=_;unfold bindL;rw[bindL_out fun v hv=>(List.nodup_cons.mp nd).1 (List.of_mem_zip hv).1,if_pos hk];simp
 | p::P,w::vs,i+1,m,nd,h1,h2,hk=>by
  show bindL kindOf ((p,w)::P.zip vs) m x=_;unfold bindL;exact bindL_get (i:=i) (List.nodup_cons.mp nd).2 (by simpa using h1) (by simpa using h2) hk
theorem bindC_get {kindOf:Str->Option NameKind}{x v}:∀{P:List Str} {vs:List Value} {i:Nat} {m:Str->Option Value},P.Nodup->P[i]?=some x->vs[i]?=some v->kindOf x≠some .local ->
  bindC kindOf (P.zip vs) m x=some v
 | [],_,_,_,_,h,_,_=>by simp at h
 | _::_,[],_,_,_,_,h,_=>by simp at h
 | p::P,w::vs,0,m,nd,h1,h2,hk=>by
  simp at h1 h2;subst h1;subst h2;show bindC kindOf ((p,w)::P.zip vs) m p=_;unfold bindC;rw[bindC_out fun v hv=>(List.nodup_cons.mp nd).1 (List.of_mem_zip hv).1,if_neg hk];simp
 | p::P,w::vs,i+1,m,nd,h1,h2,hk=>by
  show bindC kindOf ((p,w)::P.zip vs) m x=_;unfold bindC;exact bindC_get (i:=i) (List.nodup_cons.mp nd).2 (by simpa using h1) (by simpa using h2) hk
def start (N:List Str)(vs:List V):St:=vs.map some++List.replicate (N.length - vs.length) none
def cxOfG (b:Bool)(CX:CXT)(P:Program)(w:World)(K:Frag)(mg:Str->Option Value)(base:Heap)(N:List Str)(qual:Str)(scope:Scope)(f:Addr)(cd:Value)(A:Around)(outer:List Env)(s:Shared)(H:Hp)(E:XK):Cx where
 prog:=P
 w:=w
 K:=K
 mg:=mg
 base:=base
 A:=A.deeper (envOfC qual scope s.heap.objs.size f cd)
 N:=N
 s₀:=s
 H₀:=H
 env:=envOfC qual scope s.heap.objs.size f cd
 outer:=outer
 stack:=envOfC qual scope s.heap.objs.size f cd::outer
 ex:=[]
 calm:=b
 fn:=fun _=>true
 pn:=[]
 xe:=fun e s'=>wpAny (model P w) (A.deeper (envOfC qual scope s.heap.objs.size f cd)) (leaving (envOfC qual scope s.heap.objs.size f cd) e) (fun _ s''=>CX outer H s E e s'') (fun e' s''=>CX outer H s E e' s'') s'
abbrev cxOf:=cxOfG true
theorem cell_has {sc:Scope}{n:Nat}{x}(h:sc.names.lookup x=some .cell):∃c,(cellsFrom n sc.names []).lookup x=some c:=by
 have q:=PySem.W.cellsFrom_some sc.names n [] (.inl h);exact Option.isSome_iff_exists.mp q
theorem inv_start {bb CX P w K}{mg:Str->Option Value}{base}{N ps:List Str}{qual}{scope:Scope}{f cd}{A:Around}{outer:List Env}{s s1:Shared}{H:Hp}{E us}{vs:List V}
  (S:FnScope N ps scope) (hd:bb=true->A.handled=none) (e0:Env0 P w K mg base A outer s H) (hl:vs.length=ps.length) (r:Vals vs us)
  (x:InCallC s s.heap.objs.size (bindL (envOfC qual scope s.heap.objs.size f cd).kindOf (ps.zip us) fun _=>none) (cellsFrom (s.heap.objs.size+1) scope.names []) (bindC (envOfC qual scope s.heap.objs.size f cd).kindOf (ps.zip us) fun _=>none) s1) :
  Inv (cxOfG bb CX P w K mg base N qual scope f cd A outer s H E) [] (start N vs) H s1:=by
 have hpl:ps.length<=N.length:=by have:=congrArg List.length S.pre;rw[List.length_take] at this;omega
 obtain⟨h1,tk,rfl,hk⟩:=x.done;have noA:∀b:Addr,b∉(cxOfG bb CX P w K mg base N qual scope f cd A outer s H E).ex:=fun b z=>absurd (show b∈([]:List Addr) from z) (by simp)
 refine⟨⟨e0.mod,S.kind,rfl,rfl,Nat.le_refl _,fun y z c h1 h2=>?_,fun y hy=>?_,fun y c _ h=>?_,hd,Around.frames_deeper e0.frames,.inr ⟨rfl,rfl⟩,fun b z=>absurd z (noA b),e0.bs,e0.bsz,fun b _ _=>noA b,fun b z=>absurd z (noA b),e0.funs,e0.frf⟩,
  rfl,e0.bare,Un.kept hk,⟨_,x.toInCall.ns,fun i y v h1 h2 h3=>?_⟩,fun y c h=>⟨_,x.cell y c h⟩,e0.hok.fresh (Nat.le_refl _),fun y c h=>?_,fun p hp=>absurd (show p∈([]:List (Addr×Obj)) from hp) (by simp),e0.hok.kept hk,?_⟩
 ·exact name_of_addr x.apart (PySem.mem_of_lookup h1) (PySem.mem_of_lookup h2)
 ·have hy:scope.names.lookup y=some .cell\/scope.names.lookup y=some .free:=hy;rcases hy with hy|hy
  ·exact cell_has hy
  ·exact absurd rfl (S.nofree _ (PySem.mem_of_lookup hy))
 ·exact Nat.le_of_lt (x.above y c (PySem.mem_of_lookup h))
 ·have hi:i<vs.length:=by
   unfold start at h2;by_cases hi:i<vs.length
   ·exact hi
   ·rw[List.getElem?_append_right (by simpa using hi)] at h2;rw[List.getElem?_replicate] at h2;split at h2<;>cases h2
  have ha:vs[i]?=some v:=by
   unfold start at h2;rw[List.getElem?_append_left (by simpa using hi),List.getElem?_map] at h2;cases e:vs[i]? with
   | none=>rw[e] at h2;cases h2
   | some a=>rw[e] at h2;cases h2;rfl
  obtain⟨u,hu,rv⟩:=r.get ha
  have hp:ps[i]?=some y:=by
   rw[<- S.pre,List.getElem?_take_of_lt (by omega)];exact h1
  have ndP:ps.Nodup:=by rw[<- S.pre];exact S.nd.sublist (List.take_sublist _ _)
  refine⟨u,rv,?_⟩;rcases S.par y (List.mem_of_getElem? hp) with k|k
  ·exact .inl ⟨k,bindL_get ndP hp hu k⟩
  ·obtain⟨c,e⟩:=cell_has (n:=s.heap.objs.size+1) k;refine .inr ⟨.inl k,c,e,?_⟩;have q:=x.cell y c e;rw[bindC_get ndP hp hu (by show scope.names.lookup y≠_;rw[k];decide)] at q;exact q
 ·exact e0.hok.fresh (Nat.le_of_lt (x.above y c (PySem.mem_of_lookup h)))
 ·unfold start;show _=N.length;rw[List.length_append,List.length_map,List.length_replicate];omega
theorem fn_of {bb CX P w}{K:Frag}{mg:Str->Option Value}{base}{k:Nat}{f name qual}{params:Arguments}{body scope dV kV doc pm cdv ct oc an od osl}{N ps:List Str}{sp:Sp}(lk:K.lookup f=some ⟨oc,od,.func (fnOf name qual params body scope dV kV doc pm an cdv ct),osl⟩)(hcd:codeIn K cdv qual=true)(S:FnScope N ps scope)
  (len:∀vs H Q E,sp vs H Q E->vs.length=ps.length)
  (hbody:∀(A:Around) (outer:List Env) (s:Shared) (H:Hp) (vs:List V) (Q:VK) (E:XK),RoomG bb k (A.deeper (envOfC qual scope s.heap.objs.size f cdv))->sp vs H Q E ->
   ∃t,PSs (cxOfG bb CX P w K mg base N qual scope f cdv A outer s H E) body t/\t { nx:=fun _ H'=>Q .non H',rt:=Q } (start N vs) H) :
  FnOkG bb P w K mg base CX (k+1) f (fnOf name qual params body scope dV kV doc pm an cdv ct) ps sp:=by
 refine⟨len,fun A outer s H args us vs Q E hr e0 hb r hsp=>?_⟩;have hl:=len _ _ _ _ hsp;have KX:K.In s.heap:=e0.mod.kin.keeps fun b o e=>(e0.bs b o e).1;have lim:s.heap.NoLimit:=e0.mod.nolimit.keeps fun b o e=>(e0.bs b o e).1
 have hkind:∀y∈ps.zip us,scope.names.lookup y.1=some .local\/(scope.names.lookup y.1=some .cell/\((cellsFrom (s.heap.objs.size+1) scope.names []).lookup y.1).isSome=true):=fun⟨n,v⟩ hy=>by
  rcases S.par n (List.of_mem_zip hy).1 with q|q
  ·exact .inl q
  ·exact .inr ⟨q,PySem.W.cellsFrom_some _ _ _ (.inl q)⟩
 refine codeAny_call_function hr.depth (KX _ _ lk) rfl S.co S.gen rfl (PySem.W.codeRec_of KX hcd) (hb _ _ _ _ ?_);refine wpAny_newFunctionEnv_cells S.kind hkind fun env he s1 x=>?_;subst he;refine⟨lim.keeps x.toInCall.keep,codeAny_func ?_⟩;obtain⟨t,ht,hq⟩:=hbody A outer s H vs Q E (hr.deeper _) hsp
 have I:Inv (cxOfG bb CX P w K mg base N qual scope f cdv A outer s H E) [] (start N vs) H s1:=inv_start S hr.hd e0 hl r x;refine wpAny_mono (ht [] s1 (start N vs) H _ I hq) (fun fl s' hs=>?_) fun e s' hs=>hs
 have fin:∀{σ':St} {H':Hp} {v:V} {u:Value},Inv (cxOfG bb CX P w K mg base N qual scope f cdv A outer s H E) [] σ' H' s'->RelV v u->Q v H'->CE outer P w H s Q u s':=
  fun {σ' H' v u} J rv q=>⟨v,H',J.os,J.bare,J.base,J.hok,rv,q⟩
 cases fl with
 | ret u=>
  obtain⟨v,σ',H',J,rv,q⟩:=hs;exact fin J rv q
 | next=>
  obtain⟨σ',H',J,q⟩:=hs;exact fin (v:=V.non) (u:=Value.none) J rfl q
 | brk=>
  obtain⟨_,_,_,q⟩:=hs;exact False.elim q
 | cont=>
  obtain⟨_,_,_,q⟩:=hs;exact False.elim q
section
variable {X:Cx}{x:Str}{p pos:Pos}{e:Expr}{es:List Expr}{t:TA}{id T:String}{r:List V->Hp->VK->Prop}
def tCB (r:List V->Hp->VK->Prop)(t:TA):TE:=fun σ H Q=>t σ H fun vs H1=>r vs H1 Q
theorem pe_callB (hc:CallR X (.builtin id) r)(hg:Gl X x)(hm:X.mg x=none)(hv:bootBuiltins x=some (.builtin id))(ha:PA X (e::es) t)(hn:x ≠ "__name__":=by decide)(hdb:(x==("__debug__" : Str))=false:=by decide)
  (he:starEach (e::es) X.env=(false,eval e X.env)::starEach es X.env:=by rfl) (hpl:(backTo pos (starEach es X.env)).any (·.1)=false:=by rfl):PE X (.Call (.Name x p) (e::es) [] pos) (tCB r t):=by
 intro pins s σ H Q I h;refine wpAny_Call_Name_kw (ld_blt I hg hm hv ?_ hn hdb);exact PyProof.Rows.callWith_builtin1 (thn (ha pos pins s σ H _ I h) fun us s1 ⟨vs,H1,I1,r1,q1⟩=>hc pins s1 σ H1 vs us Q I1 r1 q1) he hpl
theorem pe_callTy (hc:CallR X (.type T) r)(hg:Gl X x)(hm:X.mg x=none)(hv:bootBuiltins x=some (.type T))(ha:PA X (e::es) t)(hn:x ≠ "__name__":=by decide)(hdb:(x==("__debug__" : Str))=false:=by decide)
  (he:starEach (e::es) X.env=(false,eval e X.env)::starEach es X.env:=by rfl) (hpl:(backTo pos (starEach es X.env)).any (·.1)=false:=by rfl):PE X (.Call (.Name x p) (e::es) [] pos) (tCB r t):=by
 intro pins s σ H Q I h;refine wpAny_Call_Name_kw (ld_blt I hg hm hv ?_ hn hdb);exact PyProof.Rows.callWith_type1 (thn (ha pos pins s σ H _ I h) fun us s1 ⟨vs,H1,I1,r1,q1⟩=>hc pins s1 σ H1 vs us Q I1 r1 q1) he hpl
end
section
variable {κ:Type}[DecidableEq κ]
def valV (kvs:List (κ×V))(k:κ):Option V:=(kvs.find? fun kv=>decide (kv.1=k)).map (·.2)
def putK (kvs:List (κ×V))(k:κ)(v:V):List (κ×V):=
 if (kvs.any fun kv=>decide (kv.1=k))=true then kvs.map (fun kv=>if kv.1=k then (kv.1,v) else kv) else kvs++[(k,v)]
def dropK (kvs:List (κ×V))(k:κ):List (κ×V):=kvs.filter fun kv=>decide (kv.1≠k)
theorem valV_pos {p:κ×V}{r:List (κ×V)}{k:κ}(e:p.1=k):valV (p::r) k=some p.2:=by simp[valV,List.find?_cons,e]
theorem valV_neg {p:κ×V}{r:List (κ×V)}{k:κ}(e:¬p.1=k):valV (p::r) k=valV r k:=by simp[valV,List.find?_cons,e]
theorem valV_any (k:κ):∀kvs:List (κ×V),(kvs.any fun kv=>decide (kv.1=k))=(valV kvs k).isSome
 | []=>rfl
 | p::r=>by
  rw[List.any_cons];by_cases e:p.1=k
  ·simp only[valV_pos e,decide_eq_true e,Bool.true_or,Option.isSome_some]
  ·rw[valV_neg e,decide_eq_false e,Bool.false_or];exact valV_any k r
theorem length_putK (kvs:List (κ×V))(k:κ)(v:V):(putK kvs k v).length<=kvs.length+1:=by
 unfold putK;split
 ·rw[List.length_map];omega
 ·rw[List.length_append,List.length_cons,List.length_nil];omega
theorem putK_new {kvs:List (κ×V)}{k:κ}(v:V)(h:valV kvs k=none):putK kvs k v=kvs++[(k,v)]:=by
 unfold putK;rw[valV_any,h];exact if_neg (by decide)
theorem RelO.isSome_eq {o:Option V}{u:Option Value}(r:RelO o u):o.isSome=u.isSome:=by
 cases o with
 | none=>cases u with
  | none=>rfl
  | some _=>exact(show False from r).elim
 | some _=>cases u with
  | none=>exact(show False from r).elim
  | some _=>rfl
theorem KV.val {kvs:List (κ×V)}{vs:List (κ×Value)}(r:KV kvs vs)(k:κ):RelO (valV kvs k) (valueAt vs k):=by
 unfold KV at r
 induction r with
 | nil=>exact True.intro
 | @cons p q ps qs h t ih=>
  obtain⟨h1,h2⟩:=h;by_cases e:p.1=k
  ·have e':q.1=k:=h1.symm.trans e;have b:valueAt (q::qs) k=some q.2:=by simp[valueAt,List.find?_cons,e']
   rw[valV_pos e,b];exact h2
  ·have e':¬q.1=k:=fun z=>e (h1.trans z);have b:valueAt (q::qs) k=valueAt qs k:=by simp[valueAt,List.find?_cons,e']
   rw[valV_neg e,b];exact ih
theorem KV.any {kvs:List (κ×V)}{vs:List (κ×Value)}(r:KV kvs vs)(k:κ):(kvs.any fun kv=>decide (kv.1=k))=vs.any fun kv=>decide (kv.1=k):=by
 unfold KV at r
 induction r with
 | nil=>rfl
 | cons h t ih=>rw[List.any_cons,List.any_cons,ih,h.1]
theorem KV.repl {kvs:List (κ×V)}{vs:List (κ×Value)}(r:KV kvs vs)(k:κ){y u}(ry:RelV y u) :
  KV (kvs.map fun kv=>if kv.1=k then (kv.1,y) else kv) (vs.map fun kv=>if kv.1=k then (kv.1,u) else kv):=by
 unfold KV at r ⊢
 induction r with
 | nil=>exact .nil
 | @cons p q ps qs h t ih=>
  rw[List.map_cons,List.map_cons];refine .cons ?_ ih;obtain⟨h1,h2⟩:=h;by_cases e:p.1=k
  ·rw[if_pos e,if_pos (h1.symm.trans e)];exact⟨h1,ry⟩
  ·rw[if_neg e,if_neg (fun z=>e (h1.trans z))];exact⟨h1,h2⟩
theorem KV.put {kvs:List (κ×V)}{vs:List (κ×Value)}(r:KV kvs vs)(k:κ){y u}(ry:RelV y u):KV (putK kvs k y) (stored vs k u):=by
 unfold putK stored;rw[r.any k];by_cases e:(vs.any fun kv=>decide (kv.1=k))=true
 ·rw[if_pos e,if_pos e];exact r.repl k ry
 ·rw[if_neg e,if_neg e];exact Paired.snoc r ⟨rfl,ry⟩
theorem KV.drop {kvs:List (κ×V)}{vs:List (κ×Value)}(r:KV kvs vs)(k:κ):KV (dropK kvs k) (without vs k):=by
 unfold KV at r ⊢;unfold dropK without
 induction r with
 | nil=>exact .nil
 | @cons p q ps qs h t ih=>
  obtain⟨h1,h2⟩:=h;rw[List.filter_cons,List.filter_cons];by_cases e:p.1=k
  ·have a:¬decide (p.1≠k)=true:=by simp[e]
   have b:¬decide (q.1≠k)=true:=by simp[h1.symm.trans e]
   rw[if_neg a,if_neg b];exact ih
  ·have e':¬q.1=k:=fun z=>e (h1.trans z);have a:decide (p.1≠k)=true:=by simp[e]
   have b:decide (q.1≠k)=true:=by simp[e']
   rw[if_pos a,if_pos b];exact .cons ⟨h1,h2⟩ ih
theorem KV.length {kvs:List (κ×V)}{vs:List (κ×Value)}(r:KV kvs vs):kvs.length=vs.length:=Paired.length r
theorem dropK_le (kvs:List (κ×V))(k:κ):(dropK kvs k).length<=kvs.length:=List.length_filter_le _ _
end
theorem kV_is {P w k u}(r:RelV (kV k) u):(mixKind P w).is k u=true:=by
 cases k with
 | inl i=>obtain⟨t,e⟩:=(show ∃t,u=Value.int i t from r);subst e;exact mixKind_int P w i t
 | inr x=>obtain⟨t,e⟩:=(show ∃t,u=Value.str x t from r);subst e;exact mixKind_str P w x t
theorem items_are {P:Program}{w:World}:∀{ks:List Key} {us:List Value},Vals (ks.map kV) us->ItemsAre (mixKind P w) ks us
 | [],_,r=>by rw[List.map_nil] at r;cases r;exact .nil
 | k::ks,_,r=>by
  rw[List.map_cons] at r;cases r with
  | cons h t=>exact .cons (kV_is h) (items_are t)
abbrev KT (H:Hp):List (List Key×V)->List (List Key×Addr×Value)->Prop:=Paired fun p q=>p.1=q.1/\H q.2.1=some (.tup (p.1.map kV))/\RelV p.2 q.2.2
theorem KT.val {H:Hp}{kvs:List (List Key×V)}{xs:List (List Key×Addr×Value)}(r:KT H kvs xs)(k:List Key):RelO (valV kvs k) ((atKey xs k).map (·.2)):=by
 induction r with
 | nil=>exact True.intro
 | @cons p q ps qs h t ih=>
  obtain⟨h1,_,h2⟩:=h;by_cases e:p.1=k
  ·have e':q.1=k:=h1.symm.trans e;have b:atKey (q::qs) k=some q.2:=by simp[atKey,List.find?_cons,e']
   rw[valV_pos e,b];exact h2
  ·have e':¬q.1=k:=fun z=>e (h1.trans z);have b:atKey (q::qs) k=atKey qs k:=by simp[atKey,List.find?_cons,e']
   rw[valV_neg e,b];exact ih
theorem KT.repl {H:Hp}{kvs:List (List Key×V)}{xs:List (List Key×Addr×Value)}(r:KT H kvs xs)(k:List Key){y u}(ry:RelV y u) :
  KT H (kvs.map fun kv=>if kv.1=k then (kv.1,y) else kv) (xs.map (putAt k u)):=by
 induction r with
 | nil=>exact .nil
 | @cons p q ps qs h t ih=>
  rw[List.map_cons,List.map_cons];refine .cons ?_ ih;obtain⟨h1,h2,h3⟩:=h;unfold putAt;by_cases e:p.1=k
  ·rw[if_pos e,if_pos (h1.symm.trans e)];exact⟨h1,h2,ry⟩
  ·rw[if_neg e,if_neg (fun z=>e (h1.trans z))];exact⟨h1,h2,h3⟩
theorem KT.put {H:Hp}{kvs:List (List Key×V)}{xs:List (List Key×Addr×Value)}(r:KT H kvs xs)(k:List Key){b y u}(hb:H b=some (.tup (k.map kV)))(ry:RelV y u) :
  KT H (putK kvs k y) (storedH xs k b u):=by
 have e:(kvs.any fun kv=>decide (kv.1=k))=(atKey xs k).isSome:=by
  rw[valV_any,(r.val k).isSome_eq,Option.isSome_map]
 unfold putK storedH;rw[e];by_cases q:(atKey xs k).isSome=true
 ·rw[if_pos q,if_pos q];exact r.repl k ry
 ·rw[if_neg q,if_neg q];exact Paired.snoc r ⟨rfl,hb,ry⟩
theorem KT.keeps {H H':Hp}{kvs:List (List Key×V)}{xs:List (List Key×Addr×Value)}(r:KT H kvs xs)(ht:∀b ys,H b=some (.tup ys)->H' b=some (.tup ys)):KT H' kvs xs:=
 Paired.mapP r fun _ _ z=>⟨z.1,ht _ _ z.2.1,z.2.2⟩
section
variable {P:Program}{w:World}{H:Hp}{h:Heap}{a:Addr}
theorem rd_of {u}(ok:HOk P w H h)(e:Rd H a u):ObjOk P w H h a u:=e.ok ok
theorem dk_rd {kvs:List (Key×V)}(ok:HOk P w H h)(e:Rd H a (.dK kvs)):kvs.length<=sizeLine/\(a==sysModules)=false/\∃vs,KV kvs vs/\h.DictOf (mixKind P w) a vs:=
 show ObjOk P w H h a (.dK kvs) from rd_of ok e
theorem dk_of {kvs:List (Key×V)}(ok:HOk P w H h)(e:H a=some (.dK kvs)):kvs.length<=sizeLine/\(a==sysModules)=false/\∃vs,KV kvs vs/\h.DictOf (mixKind P w) a vs:=dk_rd ok (.inl e)
theorem key_of {ks:List Key}(ok:HOk P w H h)(e:H a=some (.tup (ks.map kV))):(tupleKind (mixKind P w)).is h ks a:=by
 obtain⟨_,its,r,⟨o,h1,h2,n,h3⟩,_⟩:=(show ObjOk P w H h a (.tup (ks.map kV)) from ok a _ e);exact⟨o,its.toArray,n,h1,h2,h3,by simpa using items_are r⟩
theorem dt_rd {kvs:List (List Key×V)}(ok:HOk P w H h)(e:Rd H a (.dT kvs)):kvs.length<=sizeLine/\(a==sysModules)=false /\
  ∃xs,KT H kvs xs/\h.DictOfH (tupleKind (mixKind P w)) a xs:=by
 obtain⟨z,y,xs,r,o,es,ep,h1,h2,h3,h4,h5⟩:=(show ObjOk P w H h a (.dT kvs) from rd_of ok e);refine⟨z,y,xs,r,o,es,ep,h1,h2,h3,h4,fun x hx=>?_,h5⟩
 have all:∀{l:List (List Key×V)} {m:List (List Key×Addr×Value)},KT H l m->∀x∈m,(tupleKind (mixKind P w)).is h x.1 x.2.1:=by
  intro l m q
  induction q with
  | nil=>intro x hx;exact nomatch hx
  | @cons p q ps qs hq t ih=>
   intro x hx;rcases List.mem_cons.mp hx with e|hx
   ·subst e;exact key_of ok (by rw[<- hq.1];exact hq.2.1)
   ·exact ih x hx
 exact all r x hx
theorem dt_of {kvs:List (List Key×V)}(ok:HOk P w H h)(e:H a=some (.dT kvs)):kvs.length<=sizeLine/\(a==sysModules)=false /\
  ∃xs,KT H kvs xs/\h.DictOfH (tupleKind (mixKind P w)) a xs:=dt_rd ok (.inl e)
end
def DGet (H:Hp)(a:Addr)(y:V)(r:Option V):Prop:=
 (∃kvs k,Rd H a (.dK kvs)/\y=kV k/\r=valV kvs k)\/∃kvs k b,Rd H a (.dT kvs)/\y=.ref b/\H b=some (.tup (k.map kV))/\r=valV kvs k
def DPut (H:Hp)(a:Addr)(y v:V)(H':Hp):Prop:=
 (∃kvs k,H a=some (.dK kvs)/\y=kV k/\kvs.length<sizeLine/\H'=upd H a (.dK (putK kvs k v))) \/
 ∃kvs k b,H a=some (.dT kvs)/\y=.ref b/\H b=some (.tup (k.map kV))/\kvs.length<sizeLine/\H'=upd H a (.dT (putK kvs k v))
theorem DGet.k {H:Hp}{a kvs k}(e:H a=some (.dK kvs)):DGet H a (kV k) (valV kvs k):=.inl ⟨kvs,k,.inl e,rfl,rfl⟩
theorem DPut.k {H:Hp}{a}{kvs:List (Key×V)}{k v}(e:H a=some (.dK kvs))(hl:kvs.length<sizeLine):DPut H a (kV k) v (upd H a (.dK (putK kvs k v))):=.inl ⟨kvs,k,e,rfl,hl,rfl⟩
section
variable {X:Cx}{pins:List (Addr×Obj)}{σ:St}{H:Hp}{s:Shared}{a:Addr}{y v:V}{u r:Value}{o:Option V}{A:Around}{E:Value->Shared->Prop}
theorem Inv.big (I:Inv X pins σ H s):sysModules<s.heap.objs.size:=by
 have h:mainGlobals<s.heap.objs.size:=(I.mod.glob.keeps I.bk).lt;exact Nat.lt_trans (by decide) h
theorem d_getItem {Q:Value->Shared->Prop}(hu:A.units+1<cLine)(I:Inv X pins σ H s)(g:DGet H a y (some v))(ry:RelV y u)(h:∀w' s',Inv X pins σ H s'->RelV v w'->Q w' s') :
  wpAny (model X.prog X.w) A (getItem (.ref a) u) Q E s:=by
 rcases g with⟨kvs,k,e,ey,l⟩|⟨kvs,k,b,e,ey,eb,l⟩
 ·subst ey;obtain⟨z,hd,vs,rel,dd⟩:=dk_rd I.hok e;obtain⟨w',hw,rw'⟩:=RelO.some_of (v:=v) (o:=valueAt vs k) (by rw[l];exact rel.val k);exact wpAny_getItem_of (kV_is ry) dd.mapOf hw (h w' _ (I.tok _) rw')
 ·subst ey;cases(show u=Value.ref b from ry);obtain⟨z,hd,xs,rel,dd⟩:=dt_rd I.hok e;obtain⟨w',hw,rw'⟩:=RelO.some_of (v:=v) (o:=(atKey xs k).map (·.2)) (by rw[l];exact rel.val k);obtain⟨p,hp,hp2⟩:=Option.map_eq_some_iff.mp hw;refine wpAny_getItem_heap (tupleKind_room_in1 hu) (key_of I.hok eb) dd hp ?_;rw[hp2];exact h w' _ (I.tok _) rw'
theorem d_in {Q:Value->Shared->Prop}(hu:A.units+1<cLine)(I:Inv X pins σ H s)(g:DGet H a y o)(ry:RelV y u)(h:∀s',Inv X pins σ H s'->Q (.bool o.isSome) s') :
  wpAny (model X.prog X.w) A (compareOp .In u (.ref a)) Q E s:=by
 rcases g with⟨kvs,k,e,ey,l⟩|⟨kvs,k,b,e,ey,eb,l⟩
 ·subst ey;obtain⟨z,hd,vs,rel,dd⟩:=dk_rd I.hok e;refine wpAny_in_of (kV_is ry) hd dd.mapOf ?_;rw[<- (rel.val k).isSome_eq,<- l];exact h _ (I.tok _)
 ·subst ey;cases(show u=Value.ref b from ry);obtain⟨z,hd,xs,rel,dd⟩:=dt_rd I.hok e;refine wpAny_in_heap (tupleKind_room_in1 hu) (key_of I.hok eb) hd dd ?_;have q:=(rel.val k).isSome_eq;rw[Option.isSome_map] at q;rw[<- q,<- l];exact h _ (I.tok _)
theorem d_notIn {Q:Value->Shared->Prop}(hu:A.units+1<cLine)(I:Inv X pins σ H s)(g:DGet H a y o)(ry:RelV y u)(h:∀s',Inv X pins σ H s'->Q (.bool (!o.isSome)) s') :
  wpAny (model X.prog X.w) A (compareOp .NotIn u (.ref a)) Q E s:=by
 rcases g with⟨kvs,k,e,ey,l⟩|⟨kvs,k,b,e,ey,eb,l⟩
 ·subst ey;obtain⟨z,hd,vs,rel,dd⟩:=dk_rd I.hok e;refine wpAny_notIn_of (kV_is ry) hd dd.mapOf ?_;rw[<- (rel.val k).isSome_eq,<- l];exact h _ (I.tok _)
 ·subst ey;cases(show u=Value.ref b from ry);obtain⟨z,hd,xs,rel,dd⟩:=dt_rd I.hok e;refine wpAny_notIn_heap (tupleKind_room_in1 hu) (key_of I.hok eb) hd dd ?_;have q:=(rel.val k).isSome_eq;rw[Option.isSome_map] at q;rw[<- q,<- l];exact h _ (I.tok _)
theorem d_write {h':Heap}{t':Nat}{ob}(I:Inv X pins σ H s)(mu:Mut (H a))(hs:Heap.SameBut a s.heap h')(he:∃q,h'.get? a=some q)(new:ObjOk X.prog X.w (upd H a ob) h' a ob) :
  Inv X pins σ (upd H a ob) { s with heap:=h',toks:=t' }:=
 I.write (x:=a) (e:=a) mu (.inl rfl) (fun b q hb z=>(hs.2 b hb).trans z) he new
theorem dk_new {P w}{H':Hp}{h':Heap}{kvs:List (Key×V)}{vs:List (Key×Value)}(z:kvs.length<=sizeLine)(hd:(a==sysModules)=false)(rel:KV kvs vs)(dd:h'.DictOf (mixKind P w) a vs) :
  ObjOk P w H' h' a (.dK kvs):=⟨z,hd,vs,rel,dd⟩
theorem d_setItem {H':Hp}{Q:Unit->Shared->Prop}(hu:A.units+1<cLine)(I:Inv X pins σ H s)(g:DPut H a y v H')(ry:RelV y u)(rv:RelV v r)(h:∀s',Inv X pins σ H' s'->Q () s') :
  wpAny (model X.prog X.w) A (setItem (.ref a) u r) Q E s:=by
 rcases g with⟨kvs,k,e,ey,l,eH⟩|⟨kvs,k,b,e,ey,eb,l,eH⟩
 ·subst ey eH;obtain⟨z,hd,vs,rel,dd⟩:=dk_of I.hok e;have hz:vs.length<=sizeLine:=by rw[<- rel.length];exact z
  have hl:(putK kvs k v).length<=sizeLine:=by have:=length_putK kvs k v;omega
  refine wpAny_setItem_pairs (hsz:=hz) (kV_is ry) dd fun h' dd' hs=>h _ ?_;have he:∃q,h'.get? a=some q:=let⟨q,_,_,hq,_⟩:=dd';⟨q,hq⟩;exact d_write I (by rw[e];exact True.intro) hs he (dk_new hl hd (rel.put k rv) dd')
 ·subst ey eH;cases(show u=Value.ref b from ry);obtain⟨z,hd,xs,rel,dd⟩:=dt_of I.hok e;have hz:xs.length<=sizeLine:=by rw[<- Paired.length rel];exact z
  have hl:(putK kvs k v).length<=sizeLine:=by have:=length_putK kvs k v;omega
  refine wpAny_setItem_heap (hsz:=hz) (tupleKind_room_in1 hu) (key_of I.hok eb) dd fun h' dd' hs=>h _ ?_;obtain⟨q,es,ep,hq,h2,h3,h4,_,h5⟩:=dd';refine d_write I (by rw[e];exact True.intro) hs ⟨q,hq⟩ ⟨hl,hd,_,(rel.put k eb rv).keeps fun c ys ec=>?_,q,es,ep,hq,h2,h3,h4,h5⟩;rw[upd_ne (ne_of ec e (fun z=>nomatch z))];exact ec
end
section
variable {X:Cx}{pins:List (Addr×Obj)}{σ:St}{H:Hp}{s:Shared}{a:Addr}{kvs:List (Key×V)}{k:Key}{u:Value}{A:Around}{E:Value->Shared->Prop}
theorem d_pop {v more}{Q:Value->Shared->Prop}(I:Inv X pins σ H s)(e:H a=some (.dK kvs))(ry:RelV (kV k) u)(l:valV kvs k=some v)(hm:more=[]\/∃x,more=[x])
  (h:∀w' s',Inv X pins σ (upd H a (.dK (dropK kvs k))) s'->RelV v w'->Q w' s'):wpAny (model X.prog X.w) A (call (.builtin "dict.pop") (.ref a::u::more)) Q E s:=by
 obtain⟨z,hd,vs,rel,dd⟩:=dk_of I.hok e;obtain⟨w',hw,rw'⟩:=RelO.some_of (v:=v) (o:=valueAt vs k) (by rw[<- l];exact rel.val k)
 have hp:(keyPart u).isSome=true:=by
  cases k with
  | inl i=>obtain⟨t,q⟩:=(show ∃t,u=Value.int i t from ry);subst q;rfl
  | inr x=>obtain⟨t,q⟩:=(show ∃t,u=Value.str x t from ry);subst q;rfl
 have ha:argsOk "dict.pop" ⟨.ref a::u::more,[]⟩:=by
  rcases hm with q|⟨x,q⟩
  ·subst q;exact PySem.F.args_dict_pop_2 _ _
  ·subst q;exact PySem.F.args_dict_pop_3 _ _ _
 refine call_meetsIn PySem.F.slot_dict_pop dd.typeIs PySem.F.entry_dict_pop ha (meets_dict_pop_there (mixKind X.prog X.w) a (kV_is ry) more hm hp)
  ⟨vs,w',dd,by rw[<- rel.length];exact z,hw,fun h' dd' hs=>h w' _ ?_ rw'⟩
 have he:∃q,h'.get? a=some q:=let⟨q,_,_,hq,_⟩:=dd';⟨q,hq⟩;exact d_write I (by rw[e];exact True.intro) hs he (dk_new (Nat.le_trans (dropK_le kvs k) z) hd (rel.drop k) dd')
theorem d_len {Q:Value->Shared->Prop}(I:Inv X pins σ H s)(e:Rd H a (.dK kvs))(h:∀t s',Inv X pins σ H s'->Q (.int kvs.length t) s'):wpAny (model X.prog X.w) A (call (.builtin "len") [.ref a]) Q E s:=by
 obtain⟨z,hd,vs,rel,dd⟩:=dk_rd I.hok e;refine call_len_dict hd dd (by rw[<- rel.length];rw[sizeLine_eq] at z;omega) ?_;rw[<- rel.length];exact h _ _ (I.tok _)
end
def NoSl (i:Expr):Prop:=∀ov iv,subscripted i false ov iv=operate [ov,iv] (getItem ov iv)
theorem subD_of {prog w}{A:Around}{E:Value->Shared->Prop}{s:Shared}{env:Env}{value slice pos T id}{Q:Value->Shared->Prop}
  (hl:typeLookup (.type T) "__getitem__" = pure (some (.builtin id))) (hs:NoSl slice)
  (h:wpAny (model prog w) A (eval value env) (fun o s₁=>wpAny (model prog w) A (eval slice env) (fun i s₂=>s₂.TypeIs o T/\wpAny (model prog w) A (getItem o i) Q E s₂) E s₁) E s) :
  wpAny (model prog w) A (eval (.Subscript value slice pos) env) Q E s:=by
 refine Subscript_ (wpAny_mono h (fun o s₁ h₁=>wpAny_mono h₁ (fun i s₂ h₂=>?_) fun _ _ x=>x) fun _ _ x=>x);obtain⟨hT,h₂⟩:=h₂;unfold subscriptTail;refine wpAny_bind ?_;rw[getitemInPython_of_ne hT.not_modules];refine wpAny_bind (wpAny_specialOf hT hl ?_)
 have fin:wpAny (model prog w) A (subscripted slice false o i) (fun r s₃=>wpAny (model prog w) A (letTemporaryGo value o r >>= fun _=>pure r) Q E s₃) E s₂:=by
  rw[hs o i];exact wpAny_operating (wpAny_mono h₂ (fun r s₃ h₃=>wpAny_bind (wpAny_letTemporaryGo (wpAny_pure h₃))) fun _ _ x=>x)
 first
  | exact wpAny_pure (wpAny_bind fin)
  | exact wpAny_bind (wpAny_pure (wpAny_bind fin))
  | exact wpAny_bind fin
theorem dict_typeIs {X:Cx}{pins}{σ:St}{H:Hp}{s:Shared}{a y}{o:Option V}(I:Inv X pins σ H s)(g:DGet H a y o):s.TypeIs (.ref a) "dict":=by
 rcases g with⟨kvs,k,e,_,_⟩|⟨kvs,k,b,e,_,_,_⟩
 ·obtain⟨_,_,vs,_,dd⟩:=dk_rd I.hok e;exact dd.typeIs
 ·obtain⟨_,_,xs,_,dd⟩:=dt_rd I.hok e;exact dd.typeIs
def tDGet (td ty:TE):TE:=fun σ H Q=>td σ H fun x H1=>ty σ H1 fun y H2=>∃a v,x=.ref a/\DGet H2 a y (some v)/\Q v H2
def sDPut (td ty tv:TE):TS:=fun D σ H=>tv σ H fun v H1=>td σ H1 fun x H2=>ty σ H2 fun y H3=>∃a H4,x=.ref a/\DPut H3 a y v H4/\D.nx σ H4
def sDAug (td ty tv:TE)(rd:V->V->Hp->VK->Prop):TS:=fun D σ H=>td σ H fun x H1=>ty σ H1 fun y H2=>∃a v,x=.ref a/\DGet H2 a y (some v) /\
 tv σ H2 fun y2 H3=>rd v y2 H3 fun z H4=>∃H5,DPut H4 a y z H5/\D.nx σ H5
section
variable {X:Cx}{o i e value:Expr}{pos pos' tpos:Pos}{td ty tv:TE}
theorem pe_dget (hu:X.A.units+1<cLine)(ho:PE X o td)(hi:PE X i ty)(hs:NoSl i):PE X (.Subscript o i pos) (tDGet td ty):=by
 intro pins s σ H Q I h;refine subD_of PySem.F.slot_dict_getitem.lookup hs (thn (ho pins s σ H _ I h) fun u s1 ⟨x,H1,I1,rx,q1⟩=>thn (hi pins s1 σ H1 _ I1 q1) fun iv s2 ⟨y,H2,I2,ry,a,v,ex,g,q2⟩=>?_);subst ex;obtain rfl:u=Value.ref a:=rx;exact⟨dict_typeIs I2 g,d_getItem hu I2 g ry fun w' s3 I3 rw'=>⟨v,H2,I3,rw',q2⟩⟩
theorem ps_dput (hu:X.A.units+1<cLine)(ho:PE X o td)(hi:PE X i ty)(hv:PE X value tv)(hs:swapsWith value (some (.Subscript o i pos')) pos.line X.env=pure false) :
  PS X (.Assign [.Subscript o i pos'] value pos) (sDPut td ty tv):=by
 intro pins s σ H D I h;refine wpAny_Assign_Subscript (thn (hv pins s σ H _ I h) fun r s1 ⟨v,H1,I1,rv,q1⟩=>thn (ho pins s1 σ H1 _ I1 q1) fun u s2 ⟨x,H2,I2,rx,q2⟩=>thn (hi pins s2 σ H2 _ I2 q2) fun iv s3 ⟨y,H3,I3,ry,a,H4,ex,g,q3⟩=>?_) hs;subst ex;obtain rfl:u=Value.ref a:=rx;exact d_setItem hu I3 g ry rv fun s4 I4=>⟨σ,H4,I4,q3⟩
theorem ps_daug {op:Operator}{rd:V->V->Hp->VK->Prop}(hu:X.A.units+1<cLine)(ho:PE X o td)(hi:PE X i ty)(hv:PE X value tv)(hop:InOp X op rd)
  (ha:∀ov iv new,augStore i ov iv new=(do holding [new,ov,iv] (setItem ov iv new);release [new,ov,iv] [];pure .next)):PS X (.AugAssign (.Subscript o i tpos) op value pos) (sDAug td ty tv rd):=by
 intro pins s σ H D I h;refine wpAny_AugAssign_SubscriptAny (thn (ho pins s σ H _ I h) fun u s1 ⟨x,H1,I1,rx,q1⟩=>thn (hi pins s1 σ H1 _ I1 q1) fun iv s2 ⟨y,H2,I2,ry,a,v,ex,g,q2⟩=>?_) ha;subst ex;obtain rfl:u=Value.ref a:=rx
 refine d_getItem hu I2 g ry fun w' s3 I3 rw'=>thn (hv pins s3 σ H2 _ I3 q2) fun w2 s4 ⟨y2,H3,I4,ry2,q3⟩=>thn (hop pins s4 σ H3 v y2 w' w2 _ I4 rw' ry2 q3) fun w3 s5 ⟨z,H4,I5,rz,H5,g5,q4⟩=>?_;exact d_setItem hu I5 g5 ry rz fun s6 I6=>⟨σ,H5,I6,q4⟩
end
theorem dk_empty {P w}{H:Hp}(h:Heap)(hb:sysModules<h.objs.size):ObjOk P w H (h.push { cls:=.type "dict",data:=.dict #[] }) h.objs.size (.dK []):=
 ⟨Nat.zero_le _,beq_eq_false_iff_ne.mpr (Ne.symm (Nat.ne_of_lt hb)),[],.nil,Heap.DictOf.new h⟩
def tDNewK:TE:=fun _ H Q=>∀p,H p=none->Q (.ref p) (upd H p (.dK []))
section
variable {X:Cx}{pos:Pos}
theorem pe_dnewK:PE X (.Dict [] [] pos) tDNewK:=fun pins s σ H Q I h=>
 wpAny_Dict_empty ⟨.ref s.heap.objs.size,_,I.laid (a:=s.heap.objs.size) (o:=.dK []) (t':=s.toks) (fun _ _ q=>Heap.get?_push_of_some _ q) (Nat.le_refl _) (dk_empty s.heap I.big),rfl,h _ (I.hok.fresh (Nat.le_refl _))⟩
end
def tPairs:List (TE×TE)->St->Hp->(List (V×V)->Hp->Prop)->Prop
 | [],_,H,Q=>Q [] H
 | (tk,tv)::r,σ,H,Q=>tk σ H fun x H1=>tv σ H1 fun y H2=>tPairs r σ H2 fun ps H3=>Q ((x,y)::ps) H3
abbrev VV:List (V×V)->List (Value×Value)->Prop:=Paired fun p q=>RelV p.1 q.1/\RelV p.2 q.2
def PPs (X:Cx)(pos:Pos)(keys:List (Option Expr))(values:List Expr)(trs:List (TE×TE)):Prop:=
 ∀(pins:List (Addr×Obj)) (s:Shared) (σ:St) (H:Hp) (Q:List (V×V)->Hp->Prop),Inv X pins σ H s->tPairs trs σ H Q ->
  wpAny (model X.prog X.w) X.A (evalPairs (pairTrees keys values X.env pos)) (fun vs s'=>∃ps H',Inv X pins σ H' s'/\VV ps vs/\Q ps H') X.xe s
theorem pps_nil {X:Cx}{pos}:PPs X pos [] [] []:=fun pins s σ H Q I h=>pairTrees_nil_walk ⟨[],H,I,.nil,h⟩
theorem pps_cons {X:Cx}{pos k v}{ks:List (Option Expr)}{vs tk tv}{trs:List (TE×TE)}(hk:PE X k tk)(hv:PE X v tv)(hr:PPs X pos ks vs trs) :
  PPs X pos (some k::ks) (v::vs) ((tk,tv)::trs):=fun pins s σ H Q I h=>
 pairTrees_cons_walk (thn (hk pins s σ H _ I h) fun u s1 ⟨x,H1,I1,rx,q1⟩=>thn (hv pins s1 σ H1 _ I1 q1) fun w2 s2 ⟨y,H2,I2,ry,q2⟩=>
  thn (hr pins s2 σ H2 _ I2 q2) fun ws s3 ⟨ps,H3,I3,rel,q3⟩=>⟨(x,y)::ps,H3,I3,.cons ⟨rx,ry⟩ rel,q3⟩)
def mergeK (kvs more:List (Key×V)):List (Key×V):=more.foldl (fun acc kv=>putK acc kv.1 kv.2) kvs
theorem KV.merge:∀{more:List (Key×V)} {rs:List (Key×Value)} {kvs:List (Key×V)} {vs:List (Key×Value)},KV more rs->KV kvs vs->KV (mergeK kvs more) (merged vs rs):=by
 intro more rs kvs vs r;unfold KV at r
 induction r generalizing kvs vs with
 | nil=>intro q;exact q
 | @cons p q ps qs h t ih=>
  intro r0
  have e:KV (putK kvs p.1 p.2) (stored vs q.1 q.2):=by
   have:=r0.put p.1 h.2;rw[<- h.1];exact this
  exact ih e
theorem length_mergeK:∀(more kvs:List (Key×V)),(mergeK kvs more).length<=kvs.length+more.length
 | [],kvs=>by show kvs.length<=kvs.length+0;omega
 | p::r,kvs=>by
  have h1:=length_mergeK r (putK kvs p.1 p.2);have h2:=length_putK kvs p.1 p.2;show (mergeK (putK kvs p.1 p.2) r).length<=_;rw[List.length_cons];omega
theorem carries_of {P w}:∀{kvs:List (Key×V)} {ws:List (Value×Value)},VV (kvs.map fun kv=>(kV kv.1,kv.2)) ws->∃rs,Carries (mixKind P w) ws rs/\KV kvs rs
 | [],_,r=>by rw[List.map_nil] at r;cases r;exact⟨[],True.intro,.nil⟩
 | p::kvs,_,r=>by
  rw[List.map_cons] at r;cases r with
  | @cons a b as bs h t=>
   obtain⟨rs,c,q⟩:=carries_of (P:=P) (w:=w) t;obtain⟨b1,b2⟩:=b;exact⟨(p.1,b2)::rs,⟨kV_is h.1,rfl,c⟩,.cons ⟨rfl,h.2⟩ q⟩
def tDisp (trs:List (TE×TE)):TE:=fun σ H Q=>∀p,H p=none->tPairs trs σ (upd H p (.dK [])) fun ps H2=>H2 p=some (.dK [])/\∃kvs:List (Key×V),ps=kvs.map (fun kv=>(kV kv.1,kv.2))/\kvs.length<=15/\Q (.ref p) (upd H2 p (.dK (mergeK [] kvs)))
theorem pe_disp {X:Cx}{pos}{keys:List (Option Expr)}{values:List Expr}{trs:List (TE×TE)}(h:PPs X pos keys values trs)(hall:keys.all (·.isSome)=true)(hl:keys.length=values.length)(h0:keys≠[])
  (h15:keys.length<=15):PE X (.Dict keys values pos) (tDisp trs):=by
 intro pins s σ H Q I q;have hn:=I.hok.fresh (Nat.le_refl s.heap.objs.size);have I1:=I.laid (a:=s.heap.objs.size) (o:=.dK []) (h':=s.heap.push { cls:=.type "dict",data:=.dict #[] }) (t':=s.toks) (fun _ _ q=>Heap.get?_push_of_some _ q) (Nat.le_refl _) (dk_empty s.heap I.big)
 refine wpAny_Dict_walk (knd:=mixKind X.prog X.w) hall hl h0 h15 (thn (h pins _ σ _ _ I1 (q _ hn)) fun ws s2 ⟨ps,H2,I2,rel,e,kvs,ep,lk,q2⟩=>?_);subst ep;obtain⟨rs,c,rk⟩:=carries_of (P:=X.prog) (w:=X.w) rel;obtain⟨z,hd,vs0,r0,dd⟩:=dk_of I2.hok e;cases r0;refine⟨rs,c,dd,fun h' dd' hs=>⟨.ref s.heap.objs.size,_,?_,rfl,q2⟩⟩
 have hz:(mergeK [] kvs).length<=sizeLine:=by
  have h1:=length_mergeK kvs [];rw[List.length_nil] at h1;rw[sizeLine_eq];omega
 have he:∃q,h'.get? s.heap.objs.size=some q:=let⟨q,_,_,hq,_⟩:=dd';⟨q,hq⟩;exact d_write I2 (by rw[e];exact True.intro) hs he (dk_new hz hd (rk.merge .nil) dd')
structure M1 (X:Cx)(o:Expr)(m:Str)(apos:Pos)(e:Expr)(cpos:Pos):Prop where
 base:attributeBase o m X.env (eval o X.env)=eval o X.env
 few:((backTo cpos (starEach [e] X.env)).all (fun x=>!x.1)&&(backToKw cpos (keywordEach [] X.env)).all (fun x=>x.1.isSome)
  && decide (([e]:List Expr).length+([]:List Keyword).length+(if ([]:List Keyword).isEmpty then 0 else 1)<30))=true
 line:(apos.endLine==cpos.line)=true
 trees:backTo cpos (starEach [e] X.env)=[(false,eval e X.env)]
structure M2 (X:Cx)(o:Expr)(m:Str)(apos:Pos)(e f:Expr)(cpos:Pos):Prop where
 base:attributeBase o m X.env (eval o X.env)=eval o X.env
 few:((backTo cpos (starEach [e,f] X.env)).all (fun x=>!x.1)&&(backToKw cpos (keywordEach [] X.env)).all (fun x=>x.1.isSome)
  && decide (([e,f]:List Expr).length+([]:List Keyword).length+(if ([]:List Keyword).isEmpty then 0 else 1)<30))=true
 line:(apos.endLine==cpos.line)=true
 trees:backTo cpos (starEach [e,f] X.env)=[(false,eval e X.env),(false,eval f X.env)]
def IsD (H:Hp)(a:Addr):Prop:=(∃kvs,Rd H a (.dK kvs))\/∃kvs,Rd H a (.dT kvs)
theorem isD_at {X:Cx}{pins}{σ:St}{H:Hp}{s:Shared}{a}(I:Inv X pins σ H s)(d:IsD H a) :
  s.TypeIs (.ref a) "dict"/\(∀b,Value.ref a=.ref b->∃ob,s.heap.get? b=some ob/\ob.dict=none)/\(a==sysModules)=false:=by
 rcases d with⟨kvs,e⟩|⟨kvs,e⟩
 ·obtain⟨_,hd,vs,_,dd⟩:=dk_rd I.hok e;refine⟨dd.typeIs,fun b q=>?_,hd⟩;cases q;obtain⟨ob,_,_,h1,h2,_⟩:=dd;exact⟨ob,h1,h2.2.1⟩
 ·obtain⟨_,hd,xs,_,dd⟩:=dt_rd I.hok e;refine⟨dd.typeIs,fun b q=>?_,hd⟩;cases q;obtain⟨ob,_,_,h1,h2,_⟩:=dd;exact⟨ob,h1,h2.2.1⟩
section
variable {X:Cx}{pins:List (Addr×Obj)}{σ:St}{H:Hp}{s:Shared}{a:Addr}{y d:V}{u r:Value}{o:Option V}{A:Around}{E:Value->Shared->Prop}
end
def tDPop1 (td ty:TE):TE:=fun σ H Q=>td σ H fun x H1=>∃a,x=.ref a/\IsD H1 a/\ty σ H1 fun y H2=>∃kvs k v,H2 a=some (.dK kvs)/\y=kV k/\valV kvs k=some v/\Q v (upd H2 a (.dK (dropK kvs k)))
section
variable {X:Cx}{o e f:Expr}{apos cpos:Pos}{td ty tx:TE}
theorem pe_dpop1 (ho:PE X o td)(he:PE X e ty)(m:M1 X o "pop" apos e cpos):PE X (.Call (.Attribute o "pop" apos) [e] [] cpos) (tDPop1 td ty):=by
 intro pins s σ H Q I h;refine wpAny_Call_method m.base m.few m.line PySem.F.plainAttrs_dict PySem.F.slot_dict_pop PySem.F.type_dict_pop (thn (ho pins s σ H _ I h) fun u s1 ⟨x,H1,I1,rx,a,ex,d,q1⟩=>?_);subst ex;obtain rfl:u=Value.ref a:=rx;obtain⟨t1,t2,_⟩:=isD_at I1 d;refine⟨t1,t2,?_⟩;rw[m.trees]
 refine Calls.callWith_builtin rfl (Calls.evalArgs_plain (Calls.spliced_cons (thn (he pins s1 σ H1 _ I1 q1) fun iv s2 ⟨y,H2,I2,ry,kvs,k,v,ea,ey,l,q2⟩=>Calls.spliced_nil ?_)));subst ey;exact d_pop I2 ea ry l (.inl rfl) fun w' s3 I3 rw'=>⟨v,_,I3,rw',q2⟩
end
section
variable {X:Cx}{pins:List (Addr×Obj)}{σ:St}{H:Hp}{s:Shared}{a:Addr}{kvs:List (Key×V)}{A:Around}{E:Value->Shared->Prop}
end
section
variable {X:Cx}{pins:List (Addr×Obj)}{σ:St}{H:Hp}{s:Shared}{a:Addr}{y:V}{u:Value}{A:Around}{E:Value->Shared->Prop}
end
end L2
namespace HT
open PySem PyProof.Rows
section
open PySem.SeqAt
open PySem.AutoSeq1 (wpAny_loadPart')
open PySem.MeetsSeq PySem.MeetsSeq2 PySem.MeetsSeq3
end
section
variable {prog:Program}{w:World}{A:Around}{E:Value->Shared->Prop}{s:Shared}
def sIx (n d:Nat):Option Int->Nat
 | none=>d
 | some v=>if v<0 then (v+(n:Int)).toNat else min v.toNat n
end
end HT
namespace L2
open PySem PySem.Spec PyProof.Rows
abbrev TO:=St->Hp->(Option Int->Hp->Prop)->Prop
def PO (X:Cx)(e:Option Expr)(t:TO):Prop:=
 ∀(pins:List (Addr×Obj)) (s:Shared) (σ:St) (H:Hp) (Q:Option Int->Hp->Prop),Inv X pins σ H s->t σ H Q ->
  wpAny (model X.prog X.w) X.A (evalPart e X.env) (fun u s'=>∃o H',Inv X pins σ H' s'/\IsPart u o/\Q o H') X.xe s
def tNoPart:TO:=fun _ H Q=>Q none H
def tPart (t:TE):TO:=fun σ H Q=>t σ H fun x H1=>∃i,x=.int i/\Q (some i) H1
section
variable {X:Cx}{e:Expr}{te:TE}{lo hi:Option Expr}{tl th:TO}{pos p2:Pos}
theorem po_none:PO X none tNoPart:=by
 intro pins s σ H Q I h;rw[evalPart_none];exact wpAny_pure ⟨none,H,I,.none,h⟩
theorem po_some (h:PE X e te):PO X (some e) (tPart te):=by
 intro pins s σ H Q I hw;rw[evalPart_some];refine thn (h pins s σ H _ I hw) fun u s1 ⟨x,H1,I1,r1,q1⟩=>?_;obtain⟨i,rfl,q⟩:=q1;obtain⟨t,rfl⟩:=r1;exact⟨some i,H1,I1,.int i t,q⟩
def SlR (X:Cx)(r:V->Option Int->Option Int->Hp->VK->Prop):Prop:=
 ∀(pins:List (Addr×Obj)) (s:Shared) (σ:St) (H:Hp) (x:V) (v vl vu:Value) (lo hi:Option Int) (sl:Addr) (Q:VK),Inv X pins σ H s->RelV x v->s.heap.IsSliceOf sl vl vu .none->IsPart vl lo->IsPart vu hi->r x lo hi H Q ->
  ∃T id,typeLookup (.type T) "__getitem__" = pure (some (.builtin id))/\s.TypeIs v T/\wpAny (model X.prog X.w) X.A (getItem v (.ref sl)) (EP X pins σ Q) X.xe s
def tSl (r:V->Option Int->Option Int->Hp->VK->Prop)(te:TE)(tl th:TO):TE:=fun σ H Q=>te σ H fun x H1=>tl σ H1 fun l H2=>th σ H2 fun u H3=>r x l u H3 Q
theorem pe_slice {r:V->Option Int->Option Int->Hp->VK->Prop}(hr:SlR X r)(he:PE X e te)(hl:PO X lo tl)(hu:PO X hi th):PE X (.Subscript e (.Slice lo hi none p2) pos) (tSl r te tl th):=by
 intro pins s σ H Q I h;refine Subscript_ (thn (he pins s σ H _ I h) fun v s1 ⟨x,H1,I1,r1,q1⟩=>?_);refine wpAny_Slice (thn (hl pins s1 σ H1 _ I1 q1) fun vl s2 ⟨l,H2,I2,pl,q2⟩=>thn (hu pins s2 σ H2 _ I2 q2) fun vu s3 ⟨u,H3,I3,pu,q3⟩=>?_);rw[evalPart_none];refine wpAny_pure ?_
 have I4:Inv X pins σ H3 { s3 with heap:=s3.heap.push { cls:=.type "slice",data:=.fields #[vl,vu,.none] } }:=I3.kept (t':=s3.toks) fun b ob q=>Heap.get?_push_of_some _ q;obtain⟨T,id,hT,ht,hg⟩:=hr pins { s3 with heap:=s3.heap.push { cls:=.type "slice",data:=.fields #[vl,vu,.none] } } σ H3 x v vl vu l u s3.heap.objs.size Q I4 r1 (Heap.IsSliceOf.new ..) pl pu q3
 show wpAny (model X.prog X.w) X.A (subscriptTail e (.Slice lo hi none p2) v (.ref s3.heap.objs.size)) (EP X pins σ Q) X.xe { s3 with heap:=s3.heap.push { cls:=.type "slice",data:=.fields #[vl,vu,.none] } };exact tail_any (ops:=[.ref s3.heap.objs.size,v]) ht hT hg (by with_unfolding_all rfl)
def cutV (xs:List V)(lo hi:Option Int):List V:=(xs.drop (HT.sIx xs.length 0 lo)).take (HT.sIx xs.length xs.length hi - HT.sIx xs.length 0 lo)
theorem cutV_length (xs:List V)(lo hi:Option Int):(cutV xs lo hi).length<=xs.length:=by
 unfold cutV;rw[List.length_take,List.length_drop];omega
end
def ixN (n:Nat)(i:Int):Option Nat:=if 0<=i then (if i<n then some i.toNat else none) else if -(n:Int)<=i then some (i+n).toNat else none
def atI {α:Type}(xs:List α)(i:Int):Option α:=(ixN xs.length i).bind fun j=>xs[j]?
theorem ixN_seq {n:Nat}{i:Int}{j:Nat}(h:ixN n i=some j):seqIndex? i n=some j/\j<n/\-(n:Int)<=i/\i<n:=by
 unfold ixN at h;by_cases h0:0<=i
 ·rw[if_pos h0] at h;by_cases h1:i<n
  ·rw[if_pos h1] at h;have e:i.toNat=j:=Option.some.inj h;exact⟨by rw[seqIndex_of h0 h1,e],by omega,by omega,h1⟩
  ·rw[if_neg h1] at h;cases h
 ·rw[if_neg h0] at h;by_cases h1:-(n:Int)<=i
  ·rw[if_pos h1] at h;have e:(i+n).toNat=j:=Option.some.inj h;exact⟨by rw[seqIndex_neg (by omega) h1,e],by omega,h1,by omega⟩
  ·rw[if_neg h1] at h;cases h
theorem atI_get {α:Type}{xs:List α}{i:Int}{v:α}(h:atI xs i=some v):∃j,seqIndex? i xs.length=some j/\xs[j]?=some v/\j<xs.length/\-(xs.length:Int)<=i/\i<xs.length:=by
 unfold atI at h;cases e:ixN xs.length i with
 | none=>rw[e] at h;cases h
 | some j=>
  rw[e] at h;obtain⟨h1,h2,h3,h4⟩:=ixN_seq e;exact⟨j,h1,h,h2,h3,h4⟩
theorem atI_nat {α:Type}{xs:List α}{j:Nat}{v:α}(h:xs[j]?=some v):atI xs (j:Int)=some v:=by
 have hj:j<xs.length:=(List.getElem?_eq_some_iff.mp h).1
 have e:ixN xs.length (j:Int)=some j:=by
  unfold ixN;rw[if_pos (by omega),if_pos (by omega)];simp
 unfold atI;rw[e];exact h
def PlainIx (b:Expr):Prop:=∀o i,subscripted b false o i=operate [o,i] (getItem o i)
def IxR (X:Cx)(r:R2):Prop:=
 ∀(value slice:Expr) (pins:List (Addr×Obj)) (s:Shared) (σ:St) (H:Hp) (x y:V) (v u:Value) (Q:VK),Inv X pins σ H s->RelV x v->RelV y u->r x y H Q ->
  subscripted slice false v u=operate [v,u] (getItem v u)->wpAny (model X.prog X.w) X.A (subscriptTail value slice v u) (EP X pins σ Q) X.xe s
def MtR (X:Cx)(id:String)(r:V->List V->Hp->VK->Prop):Prop:=
 ∀(pins:List (Addr×Obj)) (s:Shared) (σ:St) (H:Hp) (x:V) (xs:List V) (v:Value) (us:List Value) (Q:VK),Inv X pins σ H s->RelV x v->Vals xs us->r x xs H Q ->
  wpAny (model X.prog X.w) X.A (call (.builtin id) (v::us)) (EP X pins σ Q) X.xe s
section
variable {X:Cx}{a b:Expr}{ta tb:TE}{pos:Pos}
theorem IxR.or {r r':R2}(h:IxR X r)(h':IxR X r'):IxR X (fun x y H Q=>r x y H Q\/r' x y H Q):=by
 intro value slice pins s σ H x y v u Q I rx ry q hs;rcases q with q|q
 ·exact h value slice pins s σ H x y v u Q I rx ry q hs
 ·exact h' value slice pins s σ H x y v u Q I rx ry q hs
theorem pe_ix {r}(hr:IxR X r)(ha:PE X a ta)(hb:PE X b tb)(hs:PlainIx b):PE X (.Subscript a b pos) (tOp r ta tb):=by
 intro pins s σ H Q I h;exact Subscript_ (binT ha hb I h fun v u s2 x y H2 I2 rx ry q=>hr a b pins s2 σ H2 x y v u Q I2 rx ry q (hs _ _))
def rIxL (K:Frag):R2:=fun x y H Q=>∃p xs i v,x=.ref p/\y=.int i/\SqL K H p xs/\atI xs i=some v/\Q v H
def rIxT (K:Frag):R2:=fun x y H Q=>∃p xs i v,x=.ref p/\y=.int i/\SqT K H p xs/\atI xs i=some v/\Q v H
def rIxS:R2:=fun x y H Q=>∃z i c,x=.str z/\y=.int i/\z.length<=sizeLine/\atI z.cps.toList i=some c/\Q (.str ⟨#[c]⟩) H
theorem ix_list:IxR X (rIxL X.K):=by
 intro value slice pins s σ H x y v u Q I rx ry h hs;obtain⟨p,xs,i,z,rfl,rfl,hq,he,q⟩:=h;cases rx;obtain⟨t,rfl⟩:=ry;obtain⟨its,r,pl,hz⟩:=I.list hq;obtain⟨j,h1,h2,h3,h4,h5⟩:=atI_get he;obtain⟨w,ew,rw'⟩:=r.get h2;have hl:=r.length;have hn:=line63;have fin:EP X pins σ Q w s:=⟨z,H,I,rw',q⟩;by_cases h0:0<=i
 ·have hj:i.toNat=j:=by
   rw[seqIndex_of h0 h5] at h1;exact Option.some.inj h1
  exact item_listR pl.isList h0 (by omega) (by rw[hj];simpa using ew) fin hs
 ·have hj:(i+(its.toArray.size:Int)).toNat=j:=by
   rw[seqIndex_neg (by omega) h4] at h1;rw[List.size_toArray,<- hl];exact Option.some.inj h1
  exact subscriptTail_builtinR (x:=w) pl.isList.typeIs slot_list_getitem.lookup
   (wpAny_getItem_list_neg (Q:=fun r s'=>r=w/\EP X pins σ Q r s') pl.isList (by omega) (by rw[List.size_toArray]<;>omega) (by omega) (by rw[hj];simpa using ew) ⟨rfl,fin⟩) hs
theorem ix_tup:IxR X (rIxT X.K):=by
 intro value slice pins s σ H x y v u Q I rx ry h hs;obtain⟨p,xs,i,z,rfl,rfl,hq,he,q⟩:=h;cases rx;obtain⟨t,rfl⟩:=ry;obtain⟨its,r,pl,hz⟩:=I.tuple hq;obtain⟨j,h1,h2,h3,h4,h5⟩:=atI_get he;obtain⟨w,ew,rw'⟩:=r.get h2;have hl:=r.length;have hn:=line63;have fin:EP X pins σ Q w s:=⟨z,H,I,rw',q⟩
 exact subscriptTail_builtinR (x:=w) pl.typeIs slot_tuple_getitem.lookup
  (getItem_tuple (j:=j) (Q:=fun r s'=>r=w/\EP X pins σ Q r s') pl (by omega) (by omega) (by rw[List.size_toArray,<- hl];exact h1) (by simpa using ew) ⟨rfl,fin⟩) hs
theorem ix_str:IxR X rIxS:=by
 intro value slice pins s σ H x y v u Q I rx ry h hs;obtain⟨z,i,c,rfl,rfl,hz,he,q⟩:=h;obtain⟨t,rfl⟩:=rx;obtain⟨t',rfl⟩:=ry;obtain⟨j,h1,h2,h3,h4,h5⟩:=atI_get he;have hl:z.cps.toList.length=z.length:=by simp[Str.length]
 rw[hl] at h1 h4 h5;have hn:=line63
 exact tail_any (typeIs_str s z t) slot_str_getitem.lookup (getItem_str (c:=c) (by
  have e1:decide (i < -(2 ^ 63:Int))=false:=decide_eq_false (by omega);have e2:decide (i ≥ 2 ^ 63)=false:=decide_eq_false (by omega)
  rw[e1,e2,Bool.or_false]) (by rw[h1];simpa using h2) ⟨.str ⟨#[c]⟩,H,I.tok _,⟨_,rfl⟩,q⟩) hs
def rIx (K:Frag):R2:=fun x y H Q=>rIxL K x y H Q\/rIxT K x y H Q\/rIxS x y H Q
theorem ix_seq:IxR X (rIx X.K):=ix_list.or (ix_tup.or ix_str)
theorem mapSeq_set (its:List Value)(n j:Nat)(u:Value):Obj.mapSeq (·.setIfInBounds j u) { cls:=.type "list",data:=.seq its.toArray n }={ cls:=.type "list",data:=.seq (its.set j u).toArray n }:=by
 simp[Obj.mapSeq]
theorem Inv.lst {pins}{σ:St}{H:Hp}{s:Shared}{p xs}(I:Inv X pins σ H s)(h:H p=some (.lst xs)) :
  ∃(its:List Value) (n:Nat),Vals xs its/\s.heap.get? p=some { cls:=.type "list",data:=.seq its.toArray n }/\xs.length<=sizeLine:=by
 obtain⟨z,its,n,r,e⟩:=I.hok p _ h;exact⟨its,n,r,e,z⟩
theorem Inv.lstUpd {pins}{σ:St}{H:Hp}{s:Shared}{p}{xs ys:List V}{its its':List Value}{n n':Nat}{f:Obj->Obj}(I:Inv X pins σ H s)(h:H p=some (.lst xs))
  (ho:s.heap.get? p=some { cls:=.type "list",data:=.seq its.toArray n }) (hf:f { cls:=.type "list",data:=.seq its.toArray n }={ cls:=.type "list",data:=.seq its'.toArray n' }) (r:Vals ys its') (hz:ys.length<=sizeLine) (t:Nat) :
  Inv X pins σ (upd H p (.lst ys)) { s with heap:=s.heap.update p f,toks:=t }:=by
 have e:(s.heap.update p f).get? p=some { cls:=.type "list",data:=.seq its'.toArray n' }:=by
  rw[Heap.get?_update_self f ho (by rw[hf]<;>rfl),hf]
 refine I.write (x:=p) (e:=p) (by rw[h];trivial) (.inl rfl) (fun b u hb q=>(Heap.get?_update_other _ _ (Ne.symm hb)).trans q) ⟨_,e⟩ ?_;exact⟨hz,its',n',r,e⟩
def rSetL:V->V->V->Hp->(Hp->Prop)->Prop:=fun o i v H Q=>∃p xs k j,o=.ref p/\i=.int k/\H p=some (.lst xs)/\ixN xs.length k=some j/\Q (upd H p (.lst (xs.set j v)))
theorem set_list:PSet X rSetL:=by
 intro pins s σ H o i v ov iv u Q I ro ri rv h;obtain⟨p,xs,k,j,rfl,rfl,hp,hj,q⟩:=h;cases ro;obtain⟨t,rfl⟩:=ri;obtain⟨its,n,r,ho,hz⟩:=I.lst hp;obtain⟨h1,h2,h3,h4⟩:=ixN_seq hj;have hl:=r.length;have hn:=line63
 have I':Inv X pins σ (upd H p (.lst (xs.set j v))) { s with heap:=s.heap.update p (Obj.mapSeq (·.setIfInBounds j u)) }:=
  I.lstUpd hp ho (mapSeq_set its n j u) (r.set rv j) (by rw[List.length_set];exact hz) s.toks
 by_cases h0:0<=k
 ·have hk:k.toNat=j:=by
   rw[seqIndex_of h0 h4] at h1;exact Option.some.inj h1
  exact PySem.W.ki_setAt ho h0 (by omega) (by rw[List.size_toArray,<- hl];exact h4) (by rw[hk];exact⟨_,I',q⟩)
 ·have hk:(k+(its.toArray.size:Int)).toNat=j:=by
   rw[seqIndex_neg (by omega) h3] at h1;rw[List.size_toArray,<- hl];exact Option.some.inj h1
  exact PySem.W.ki_setBack ho (by omega) (by rw[List.size_toArray,<- hl];exact h3) (by omega) (by rw[hk];exact⟨_,I',q⟩)
theorem slice_bounds (lo hi:Option Int)(n:Nat):(sliceBounds lo hi none n).1=((HT.sIx n 0 lo:Nat):Int)/\(sliceBounds lo hi none n).2.1=((HT.sIx n n hi:Nat):Int)/\(sliceBounds lo hi none n).2.2=1:=by
 refine⟨?_,?_,rfl⟩
 ·cases lo with
  | none=>simp[sliceBounds,HT.sIx]
  | some i=>
   simp only[sliceBounds,HT.sIx,Option.getD_none,show (1:Int) > 0 by decide,if_true];by_cases h:i<0
   ·simp only[h,if_true]<;>omega
   ·simp only[h,if_false]<;>omega
 ·cases hi with
  | none=>simp[sliceBounds,HT.sIx]
  | some i=>
   simp only[sliceBounds,HT.sIx,Option.getD_none,show (1:Int) > 0 by decide,if_true];by_cases h:i<0
   ·simp only[h,if_true]<;>omega
   ·simp only[h,if_false]<;>omega
theorem slicePick_cut (its:List Value)(lo hi:Option Int):slicePick its.toArray lo hi none=((its.drop (HT.sIx its.length 0 lo)).take (HT.sIx its.length its.length hi - HT.sIx its.length 0 lo)).toArray:=by
 obtain⟨h1,h2,h3⟩:=slice_bounds lo hi its.toArray.size;unfold slicePick;rw[h1,h2,h3];simp only[sliceRange_one,pick_run,List.size_toArray]<;>rfl
def rSlL (K:Frag):V->Option Int->Option Int->Hp->VK->Prop:=fun x lo hi H Q=>∃a xs,x=.ref a/\SqL K H a xs/\∀p,H p=none->Q (.ref p) (upd H p (.lst (cutV xs lo hi)))
theorem sl_list:SlR X (rSlL X.K):=by
 intro pins s σ H x v vl vu lo hi sl Q I rx hs pl pu h;obtain⟨a,xs,rfl,hx,q⟩:=h;cases rx;obtain⟨its,r,ht,hz⟩:=I.list hx;have hlen:=r.length;refine⟨"list",_,slot_list_getitem.lookup,ht.isList.typeIs,?_⟩;refine wpAny_getItem_list_slice ht.isList hs pl pu .none (by simp) ?_ (by rw[List.size_toArray]<;>omega);rw[slicePick_cut,<- hlen]
 refine⟨.ref s.heap.objs.size,_,I.laid (t':=s.toks) (o:=.lst (cutV xs lo hi)) (fun b ob q=>Heap.get?_push_of_some _ q) (Nat.le_refl _) ?_,rfl,q _ (I.hok.fresh (Nat.le_refl _))⟩;exact⟨Nat.le_trans (cutV_length xs lo hi) hz,_,0,(r.drop (HT.sIx xs.length 0 lo)).take (HT.sIx xs.length xs.length hi - HT.sIx xs.length 0 lo),Heap.get?_push_size _ rfl⟩
def flatV:V->Bool
 | .non=>true
 | .bl _=>true
 | .int _=>true
 | .str _=>true
 | _=>false
def eqV:V->V->Bool
 | .non,.non=>true
 | .bl a,.bl b=>a==b
 | .bl a,.int b=>(if a then 1 else 0)==b
 | .int a,.bl b=>a==(if b then 1 else 0)
 | .int a,.int b=>a==b
 | .str a,.str b=>a==b
 | _,_=>false
theorem eqAt_V {A:Around}{s:Shared}{y x u v}(ry:RelV y u)(rx:RelV x v)(fy:flatV y=true)(fx:flatV x=true):SeqAt.EqAt A s u v (eqV y x):=by
 cases y with
 | non=>
  cases ry;cases x with
  | non=>cases rx;exact SeqAt.EqAt.same _
  | bl b=>cases rx;exact SeqAt.EqAt.none_bool b
  | int b=>obtain⟨t,rfl⟩:=rx;exact SeqAt.EqAt.none_int b t
  | str b=>obtain⟨t,rfl⟩:=rx;exact SeqAt.EqAt.none_str b t
  | _=>exact absurd (show false=true from fx) Bool.false_ne_true
 | bl a=>
  cases ry;cases x with
  | non=>cases rx;exact SeqAt.EqAt.bool_none a
  | bl b=>cases rx;exact SeqAt.EqAt.bool_bool a b
  | int b=>obtain⟨t,rfl⟩:=rx;exact SeqAt.EqAt.bool_int a b t
  | str b=>obtain⟨t,rfl⟩:=rx;exact SeqAt.EqAt.bool_str a b t
  | _=>exact absurd (show false=true from fx) Bool.false_ne_true
 | int a=>
  obtain⟨t',rfl⟩:=ry;cases x with
  | non=>cases rx;exact SeqAt.EqAt.int_none a t'
  | bl b=>cases rx;exact SeqAt.EqAt.int_bool a t' b
  | int b=>obtain⟨t,rfl⟩:=rx;exact SeqAt.EqAt.int_int a t' b t
  | str b=>obtain⟨t,rfl⟩:=rx;exact SeqAt.EqAt.int_str a t' b t
  | _=>exact absurd (show false=true from fx) Bool.false_ne_true
 | str a=>
  obtain⟨t',rfl⟩:=ry;cases x with
  | non=>cases rx;exact SeqAt.EqAt.str_none a t'
  | bl b=>cases rx;exact SeqAt.EqAt.str_bool a t' b
  | int b=>obtain⟨t,rfl⟩:=rx;exact SeqAt.EqAt.str_int a t' b t
  | str b=>obtain⟨t,rfl⟩:=rx;exact SeqAt.EqAt.str_str a t' b t
  | _=>exact absurd (show false=true from fx) Bool.false_ne_true
 | _=>exact absurd (show false=true from fy) Bool.false_ne_true
def eqU (x:V)(u:Value):Bool:=match u with
 | .none=>eqV .non x
 | .bool b=>eqV (.bl b) x
 | .int i _=>eqV (.int i) x
 | .str z _=>eqV (.str z) x
 | _=>false
theorem eqU_of {x y u}(r:RelV y u)(f:flatV y=true):eqU x u=eqV y x:=by
 cases y with
 | non=>cases r;rfl
 | bl b=>cases r;rfl
 | int i=>obtain⟨t,rfl⟩:=r;rfl
 | str z=>obtain⟨t,rfl⟩:=r;rfl
 | _=>exact absurd (show false=true from f) Bool.false_ne_true
theorem any_eqU {x:V}:∀{xs:List V} {us:List Value},Vals xs us->xs.all flatV=true->us.any (eqU x)=xs.any fun y=>eqV y x
 | _,_,.nil,_=>rfl
 | y::xs,u::us,.cons r t,f=>by
  rw[List.all_cons,Bool.and_eq_true] at f;rw[List.any_cons,List.any_cons,eqU_of r f.1,any_eqU t f.2]
theorem mem_eqAt {A:Around}{s:Shared}{x:V}{v:Value}(rx:RelV x v)(fx:flatV x=true):∀{xs:List V} {us:List Value},Vals xs us->xs.all flatV=true->∀u∈us,SeqAt.EqAt A s u v (eqU x u)
 | _,_,.nil,_=>fun u hu=>by cases hu
 | y::xs,u::us,.cons r t,f=>fun u' hu=>by
  rw[List.all_cons,Bool.and_eq_true] at f;rcases List.mem_cons.mp hu with rfl|hu
  ·rw[eqU_of r f.1];exact eqAt_V r rx f.1 fx
  ·exact mem_eqAt rx fx t f.2 u' hu
def inV (x:V)(xs:List V):Bool:=xs.any fun y=>eqV y x
def rIn (K:Frag)(neg:Bool):R2:=fun x y H Q=>∃p xs,y=.ref p/\(SqL K H p xs\/SqT K H p xs)/\flatV x=true/\xs.all flatV=true/\Q (.bl (if neg then !inV x xs else inV x xs)) H
theorem op_in_seq:OpR X (compareOp .In) (rIn X.K false):=by
 intro pins s σ H x y v u Q I rx ry h;obtain⟨p,xs,rfl,hq,fx,fs,q⟩:=h;cases ry;rcases hq with hq|hq
 ·obtain⟨its,r,pl,hz⟩:=I.list hq;refine SeqAt.in_listAt (eqU x) pl.isList (fun w hw=>mem_eqAt rx fx r fs w (by simpa using hw)) ⟨.bl _,H,I,rfl,?_⟩;rw[show its.toArray.any (eqU x)=its.any (eqU x) by simp,any_eqU r fs];exact q
 ·obtain⟨its,r,pl,hz⟩:=I.tuple hq;refine SeqAt.in_tupleAt (eqU x) pl (fun w hw=>mem_eqAt rx fx r fs w (by simpa using hw)) ⟨.bl _,H,I,rfl,?_⟩;rw[show its.toArray.any (eqU x)=its.any (eqU x) by simp,any_eqU r fs];exact q
theorem op_notIn_seq:OpR X (compareOp .NotIn) (rIn X.K true):=by
 intro pins s σ H x y v u Q I rx ry h;obtain⟨p,xs,rfl,hq,fx,fs,q⟩:=h;cases ry;rcases hq with hq|hq
 ·obtain⟨its,r,pl,hz⟩:=I.list hq;refine SeqAt.notIn_listAt (eqU x) pl.isList (fun w hw=>mem_eqAt rx fx r fs w (by simpa using hw)) ⟨.bl _,H,I,rfl,?_⟩;rw[show its.toArray.any (eqU x)=its.any (eqU x) by simp,any_eqU r fs];exact q
 ·obtain⟨its,r,pl,hz⟩:=I.tuple hq;refine SeqAt.notIn_tupleAt (eqU x) pl (fun w hw=>mem_eqAt rx fx r fs w (by simpa using hw)) ⟨.bl _,H,I,rfl,?_⟩;rw[show its.toArray.any (eqU x)=its.any (eqU x) by simp,any_eqU r fs];exact q
theorem call_len_seq:CallR X (.builtin "len") (fun xs H Q=>∃p ys,xs=[.ref p]/\(SqL X.K H p ys\/SqT X.K H p ys)/\Q (.int ys.length) H):=by
 intro pins s σ H xs us Q I r h;obtain⟨p,ys,rfl,hq,q⟩:=h;obtain⟨u,rfl,rx⟩:=vals1 r;cases rx;have hn:=line63;rcases hq with hq|hq
 ·obtain⟨its,r',pl,hz⟩:=I.list hq;have hlen:=r'.length;exact Calls.call_len_list pl.isList (by simp only[List.size_toArray]<;>omega) ⟨.int ys.length,H,I.tok _,⟨s.toks+1,by rw[List.size_toArray,hlen]⟩,q⟩
 ·obtain⟨its,r',pl,hz⟩:=I.tuple hq;have hlen:=r'.length;exact len_tuple pl (by simp only[List.size_toArray]<;>omega) ⟨.int ys.length,H,I.tok _,⟨s.toks+1,by rw[List.size_toArray,hlen]⟩,q⟩
theorem call_list_of:CallR X (.type "list") (fun xs H Q=>∃p ys,xs=[.ref p]/\(SqL X.K H p ys\/SqT X.K H p ys)/\∀l,H l=none->Q (.ref l) (upd H l (.lst ys))):=by
 intro pins s σ H xs us Q I r h;obtain⟨p,ys,rfl,hq,q⟩:=h;obtain⟨u,rfl,rx⟩:=vals1 r;cases rx
 have fin:∀(its:List Value),Vals ys its->ys.length<=sizeLine->∀(h':Heap) (c':Nat),(∀b o',s.heap.get? b=some o'->h'.get? b=some o') ->
   h'.get? s.heap.objs.size=some { cls:=.type "list",dict:=none,data:=.seq its.toArray c',slots:=#[] }->EP X pins σ Q (.ref s.heap.objs.size) { s with heap:=h' }:=fun its r' hz h' c' kp e=>
  ⟨.ref s.heap.objs.size,_,I.laid (t':=s.toks) kp (Nat.le_refl _) (show ObjOk X.prog X.w _ h' _ (.lst ys) from ⟨hz,its,c',r',e⟩),rfl,q _ (I.hok.fresh (Nat.le_refl _))⟩
 rcases hq with hq|hq
 ·obtain⟨its,r',pl,hz⟩:=I.list hq;have hlen:=r'.length;obtain⟨o,ho,hc,n,hd⟩:=pl.isList;exact call_list_seq p (.inl rfl) ho hc hd (fun h' c' kp e=>fin its r' hz h' c' kp e) (by simp only[List.size_toArray]<;>omega)
 ·obtain⟨its,r',pl,hz⟩:=I.tuple hq;have hlen:=r'.length;obtain⟨o,ho,hc,n,hd⟩:=pl;exact call_list_seq p (.inr rfl) ho hc hd (fun h' c' kp e=>fin its r' hz h' c' kp e) (by simp only[List.size_toArray]<;>omega)
theorem call_tuple_of:CallR X (.type "tuple") (fun xs H Q=>∃p ys,xs=[.ref p]/\((SqL X.K H p ys/\∀l,H l=none->Q (.ref l) (upd H l (.tup ys)))\/(SqT X.K H p ys/\Q (.ref p) H))):=by
 intro pins s σ H xs us Q I r h;obtain⟨p,ys,rfl,h⟩:=h;obtain⟨u,rfl,rx⟩:=vals1 r;cases rx;rcases h with⟨hq,q⟩|⟨hq,q⟩
 ·obtain⟨its,r',pl,hz⟩:=I.list hq;have hlen:=r'.length;refine call_tuple_list pl.isList (fun h' kp=>?_) (by simp only[List.size_toArray]<;>omega);have I1:Inv X pins σ H { s with heap:=h' }:=I.kept (t':=s.toks) kp
  have I2:Inv X pins σ (upd H h'.objs.size (.tup ys)) { s with heap:=h'.push { cls:=.type "tuple",data:=.seq its.toArray } }:=
   I1.laid (t':=s.toks) (fun b o e=>Heap.get?_push_of_some _ e) (Nat.le_refl _) (show ObjOk X.prog X.w _ _ _ (.tup ys) from ⟨hz,its,r',IsTup.new _ _,tup_nodict⟩)
  exact⟨.ref h'.objs.size,_,I2,rfl,q _ (I1.hok.fresh (Nat.le_refl _))⟩
 ·obtain⟨its,r',pl,hz⟩:=I.tuple hq;exact call_tuple_same pl ⟨.ref p,H,I,rfl,q⟩
def tyV (K:Frag)(T:String)(x:V)(H:Hp):Prop:=match x with
 | .str _=>T = "str"
 | .int _=>T = "int"
 | .ref p=>(T = "list"/\∃xs,SqL K H p xs)\/(T = "tuple"/\∃o,K.lookup p=some o/\o.cls=.type "tuple"/\o.dict=none) \/
   (T = "dict"/\((∃kvs,H p=some (.dK kvs))\/∃kvs,H p=some (.dT kvs)))\/(T = "set"/\∃S n,H p=some (.set S n))
 | _=>False
theorem tyV_is {pins}{σ:St}{H:Hp}{s:Shared}{T x v}(I:Inv X pins σ H s)(r:RelV x v)(ty:tyV X.K T x H) :
  s.TypeIs v T/\∀a,v=.ref a->∃ob,s.heap.get? a=some ob/\ob.dict=none:=by
 cases x with
 | str z=>
  obtain⟨t,rfl⟩:=r;cases(show T = "str" from ty);exact⟨typeIs_str s z t,fun _ e=>nomatch e⟩
 | int i=>
  obtain⟨t,rfl⟩:=r;cases(show T = "int" from ty);exact⟨typeIs_int s i t,fun _ e=>nomatch e⟩
 | ref p=>
  cases r;rcases ty with⟨rfl,xs,hq⟩|⟨rfl,o,hk,hc,hd⟩|⟨rfl,hk⟩|⟨rfl,S,n,hk⟩
  ·obtain⟨its,_,pl,_⟩:=I.list hq;refine⟨pl.isList.typeIs,fun a e=>?_⟩;cases e;obtain⟨o,n,e,c,hd,_⟩:=pl;exact⟨o,e,hd⟩
  ·refine⟨⟨o,I.kIn p o hk,hc⟩,fun a e=>?_⟩;cases e;exact⟨o,I.kIn _ o hk,hd⟩
  ·have z:∃o,s.heap.get? p=some o/\o.ExactDict:=by
    rcases hk with⟨kvs,hk⟩|⟨kvs,hk⟩
    ·obtain⟨_,_,_,_,o,_,_,e,ex,_⟩:=I.hok p _ hk;exact⟨o,e,ex⟩
    ·obtain⟨_,_,_,_,o,_,_,e,ex,_⟩:=I.hok p _ hk;exact⟨o,e,ex⟩
   obtain⟨o,e,ex⟩:=z;refine⟨⟨o,e,ex.1⟩,fun a e2=>?_⟩;cases e2;exact⟨o,e,ex.2.1⟩
  ·obtain⟨o,_,_,_,e,ex,_⟩:=I.hok p _ hk;refine⟨⟨o,e,ex.1⟩,fun a e2=>?_⟩;cases e2;exact⟨o,e,ex.2.1⟩
 | _=>exact False.elim ty
def tBM0 (K:Frag)(T:String)(r:V->List V->Hp->VK->Prop)(to:TE):TE:=fun σ H Q=>to σ H fun x H1=>tyV K T x H1/\r x [] H1 Q
def tBM (K:Frag)(T:String)(r:V->List V->Hp->VK->Prop)(to:TE)(t:TA):TE:=fun σ H Q=>to σ H fun x H1=>tyV K T x H1/\t σ H1 fun xs H2=>r x xs H2 Q
variable {o e:Expr}{es:List Expr}{to:TE}{t:TA}{name:Str}{apos cpos:Pos}{T id:String}{r:V->List V->Hp->VK->Prop}
theorem pe_bm0 (pa:PlainAttrs T)(slot:Slot T name id)(hty:typeOf (.builtin id)=pure (.type "method_descriptor"))(hm:MtR X id r)(ho:PE X o to)
  (hbase:attributeBase o name X.env (eval o X.env)=eval o X.env:=by rfl) (hline:(apos.endLine==cpos.line)=true:=by rfl):PE X (.Call (.Attribute o name apos) [] [] cpos) (tBM0 X.K T r to):=by
 intro pins s σ H Q I h;refine wpAny_Call_method0_late hbase hline (thn (ho pins s σ H _ I h) fun v s1 ⟨x,H1,I1,r1,ty,q1⟩=>?_);obtain⟨h1,h2⟩:=tyV_is I1 r1 ty;exact⟨T,id,pa,slot,hty,h1,h2,Calls.callWith_builtin rfl (PySem.evalArgs_none (hm pins s1 σ H1 x [] v [] Q I1 r1 .nil q1))⟩
theorem pe_bm (pa:PlainAttrs T)(slot:Slot T name id)(hty:typeOf (.builtin id)=pure (.type "method_descriptor"))(hm:MtR X id r)(ho:PE X o to)(ha:PA X (e::es) t)
  (hbase:attributeBase o name X.env (eval o X.env)=eval o X.env:=by rfl)
  (hfew:((backTo cpos (starEach (e::es) X.env)).all (fun x=>!x.1)&&(backToKw cpos (keywordEach [] X.env)).all (fun x=>x.1.isSome)
   && decide ((e::es).length+([]:List Keyword).length+(if ([]:List Keyword).isEmpty then 0 else 1)<30))=true:=by rfl)
  (hline:(apos.endLine==cpos.line)=true:=by rfl) (hs:starEach (e::es) X.env=(false,eval e X.env)::starEach es X.env:=by rfl) (hplain:(backTo cpos (starEach es X.env)).any (·.1)=false:=by rfl) :
  PE X (.Call (.Attribute o name apos) (e::es) [] cpos) (tBM X.K T r to t):=by
 intro pins s σ H Q I h;refine wpAny_Call_method_late hbase hfew hline rfl (thn (ho pins s σ H _ I h) fun v s1 ⟨x,H1,I1,r1,ty,q1⟩=>?_);obtain⟨h1,h2⟩:=tyV_is I1 r1 ty;refine⟨T,id,pa,slot,hty,h1,h2,?_⟩;have hA:=ha cpos pins s1 σ H1 _ I1 q1;rw[hs] at hA ⊢;refine Calls.callWith_builtin (by show (false||(backTo cpos (starEach es X.env)).any (·.1))=false;rw[hplain]<;>rfl) (Calls.evalArgs_plain ?_)
 exact thn hA fun us s2 ⟨vs,H2,I2,r2,q2⟩=>hm pins s2 σ H2 x vs v us Q I2 r1 r2 q2
end
def MtM (X:Cx)(id:String)(r:V->List V->Hp->VK->Prop):Prop:=
 ∀(pins:List (Addr×Obj)) (s:Shared) (σ:St) (H:Hp) (x:V) (xs:List V) (v:Value) (us:List Value) (Q:VK),Inv X pins σ H s->RelV x v->Vals xs us->r x xs H Q ->
  wpAny (model X.prog X.w) X.A (call (.builtin id) (v::us)) (EP X pins σ Q) X.xe s
theorem Vals.one:∀{x:V} {us:List Value},Vals [x] us->∃u,us=[u]/\RelV x u
 | _,_,.cons r .nil=>⟨_,rfl,r⟩
theorem Vals.zero:∀{us:List Value},Vals [] us->us=[]
 | _,.nil=>rfl
theorem Vals.eraseIdx:∀{xs:List V} {us:List Value} (i:Nat),Vals xs us->Vals (xs.eraseIdx i) (us.eraseIdx i)
 | _,_,_,.nil=>.nil
 | _,_,0,.cons _ t=>t
 | _,_,i+1,.cons r t=>.cons r (Vals.eraseIdx i t)
theorem Vals.reverse {xs:List V}{us:List Value}(h:Vals xs us):Vals xs.reverse us.reverse:=by
 induction h with
 | nil=>exact .nil
 | cons r t ih=>rw[List.reverse_cons,List.reverse_cons];exact Vals.append ih (.cons r .nil)
theorem len_erase {α:Type}:∀(l:List α) (i:Nat),(l.eraseIdx i).length<=l.length
 | [],_=>Nat.le_refl _
 | _::_,0=>Nat.le_succ _
 | _::r,i+1=>Nat.succ_le_succ (len_erase r i)
section
variable {X:Cx}{pins:List (Addr×Obj)}{σ:St}{H:Hp}{s:Shared}{l b:Addr}{xs ys zs:List V}
theorem Inv.lset {its its':List Value}{n:Nat}{f:Array Value->Array Value}{t':Nat}(I:Inv X pins σ H s)(hH:H l=some (.lst xs))
  (e:s.heap.get? l=some { cls:=.type "list",data:=.seq its.toArray n }) (hf:f its.toArray=its'.toArray) (hv:Vals ys its') (hz:ys.length<=sizeLine) :
  Inv X pins σ (upd H l (.lst ys)) { s with heap:=s.heap.update l (Obj.mapSeq f),toks:=t' }:=by
 have q:=PySem.IsL.update e f;rw[hf] at q;refine I.write (x:=l) (e:=l) (by rw[hH];exact trivial) (.inl rfl) (fun b' u hb hu=>(Heap.get?_update_other s.heap (Obj.mapSeq f) (Ne.symm hb)).trans hu) ⟨_,q⟩ ?_;exact⟨hz,its',_,hv,q⟩
theorem Inv.lnew {its}{t':Nat}(I:Inv X pins σ H s)(hv:Vals ys its)(hz:ys.length<=sizeLine) :
  Inv X pins σ (upd H s.heap.objs.size (.lst ys)) { s with heap:=s.heap.push { cls:=.type "list",data:=.seq its.toArray },toks:=t' }:=
 I.laid (fun _ _ q=>Heap.get?_push_of_some _ q) (Nat.le_refl _) ⟨hz,its,0,hv,Heap.get?_push_size _ rfl⟩
theorem Inv.fresh (I:Inv X pins σ H s):H s.heap.objs.size=none:=I.hok.fresh (Nat.le_refl _)
theorem Inv.lstM (I:Inv X pins σ H s)(hH:H l=some (.lst xs)):xs.length<=sizeLine/\∃(its:List Value) (n:Nat),Vals xs its/\xs.length=its.length/\s.heap.get? l=some { cls:=.type "list",data:=.seq its.toArray n }:=by
 obtain⟨z,its,n,r,e⟩:=I.hok l _ hH;exact⟨z,its,n,r,r.length,e⟩
end
section
variable {X:Cx}
def rAppend:V->List V->Hp->VK->Prop:=fun x vs H Q=>∃l xs y,x=.ref l/\vs=[y]/\H l=some (.lst xs)/\xs.length<sizeLine/\Q .non (upd H l (.lst (xs++[y])))
theorem mt_append:MtM X "list.append" rAppend:=by
 intro pins s σ H x vs v us Q I rx rv h;obtain⟨l,xs,y,rfl,rfl,hH,hz,q⟩:=h;cases rx;obtain⟨u,rfl,ru⟩:=rv.one;obtain⟨z,its,n,r,hl,e⟩:=I.lstM hH;refine call_meets F.slot_list_append ⟨_,e,rfl⟩ F.entry_list_append (F.args_list_append_2 _ _) (PySem.list_append l its.toArray n u (by rw[List.size_toArray];omega)) ⟨e,?_⟩
 refine⟨.non,_,I.lset (its':=its++[u]) hH e (by simp) (r.append (.cons ru .nil)) ?_,rfl,q⟩;rw[List.length_append,List.length_singleton];omega
def rReverse:V->List V->Hp->VK->Prop:=fun x vs H Q=>∃l xs,x=.ref l/\vs=[]/\H l=some (.lst xs)/\Q .non (upd H l (.lst xs.reverse))
theorem mt_reverse:MtM X "list.reverse" rReverse:=by
 intro pins s σ H x vs v us Q I rx rv h;obtain⟨l,xs,rfl,rfl,hH,q⟩:=h;cases rx;have hus:=rv.zero;subst hus;obtain⟨z,its,n,r,hl,e⟩:=I.lstM hH;refine call_meets F.slot_list_reverse ⟨_,e,rfl⟩ F.entry_list_reverse (F.args_list_reverse_1 _) (AutoSeq1.list_reverse_list_0 l its.toArray n (by rw[List.size_toArray];omega)) ⟨e,?_⟩;refine⟨.non,_,I.lset (its':=its.reverse) hH e (by simp) r.reverse ?_,rfl,q⟩
 rw[List.length_reverse];omega
def rCat:R2:=fun x y H Q=>∃l b xs zs,x=.ref l/\y=.ref b/\H l=some (.lst xs)/\H b=some (.lst zs)/\xs.length+zs.length<=sizeLine/\∀p,H p=none->Q (.ref p) (upd H p (.lst (xs++zs)))
theorem op_cat:OpR X (binaryOp .Add) rCat:=by
 intro pins s σ H x y v u Q I rx ry h;obtain⟨l,b,xs,zs,rfl,rfl,hH,hB,hz,q⟩:=h;cases rx;cases ry;obtain⟨z,its,n,r,hl,e⟩:=I.lstM hH;obtain⟨z2,its2,n2,r2,hl2,e2⟩:=I.lstM hB;refine PySem.P.add_list e e2 ?_ (by rw[List.size_toArray,List.size_toArray];omega);have ea:its.toArray++its2.toArray=(its++its2).toArray:=by simp
 rw[ea];exact⟨.ref _,_,I.lnew (t':=s.toks) (r.append r2) (by rw[List.length_append];omega),rfl,q _ I.fresh⟩
end
section
variable {prog:Program}{w:World}{A:Around}{E:Value->Shared->Prop}{s:Shared}
end
section
variable {X:Cx}
end
end L2
namespace Att
open PySem PySem.W PySem.Calls PyProof.Rows
theorem ints_of_wellAll {P:Params}{h}:∀(ns:List Int) (vs:List Value),WellAll P h vs (ns.map WData.int)->IntsAre vs ns:=by
 intro ns
 induction ns with
 | nil=>
  intro vs w;rw[List.map_nil] at w;cases w;exact .nil
 | cons n ns ih=>
  intro vs w;rw[List.map_cons] at w;cases w with
  | cons a b=>
   cases a;exact .cons _ _ (ih _ b)
theorem script_of {l:OpenLaw}{n:Nat}(hn:l.most=some n){P:Params}{h:Heap}{args:List WData}{vals}
  (hpre:l.row.toRowW.claim.pre args=true) (hwl:WellAll P h vals args) :
  ∃a vs ns,vals=[Value.ref a]/\args=[WData.list (ns.map WData.int)]/\h.get? a=some { cls:=.type "list",data:=.seq vs.toArray }/\IntsAre vs ns/\ns.length<=n:=by
 have hsh:WShape.hasAll [] args [.list .int]=true:=(pre_splitW hpre).1;have hc:l.pre.holds [] { args:=args }=true:=(pre_splitW hpre).2;obtain⟨d,r,rfl,h1,h2⟩:=hasAllW_cons hsh;obtain rfl:=hasAllW_nil h2;obtain⟨xs,rfl,h3⟩:=hasW_list h1;obtain⟨ns,rfl⟩:=items_int h3
 have hlen:ns.length<=n:=by
  unfold OpenLaw.pre at hc
  have h4:(WTm.not (.lt (.lit (.int (n:Int))) (.len (.arg 0)))).holds [] { args:=[.list (ns.map .int)] }=true:=by
   have h4:=(holds_andW hc).1;rw[hn] at h4;exact h4
  have h5:=condW_of h4 (w_not (w_lt w_lit (w_len_list (w_arg rfl))));rw[List.length_map] at h5;refine Nat.le_of_not_lt fun q=>?_;have q':(n:Int)<((ns.length:Nat):Int):=by omega
  first
   | (rw[decide_eq_true q'] at h5;exact absurd h5 (by decide))
   | (simp at h5;omega)
 cases hwl with
 | cons w1 w2=>
  cases w2;cases w1 with
  | list ho hall=>exact⟨_,_,ns,rfl,rfl,ho,ints_of_wellAll ns _ hall,hlen⟩
theorem post_true (l:OpenLaw)(args:List WData):l.row.toRowW.claim.post args (.bool true) args=true:=
 postW_of (r:=l.row.toRowW) (X:=(true==true))
  (show WShape.has [] (.bool true) .bool=true by first|rfl|decide|simp[WShape.has,WShape.arms,WShape.armsAll])
  (show (WTm.eq .res (.lit (.bool true))).value [] { args:=args,res:=some (.bool true),after:=args }=some (.bool (true==true)) from w_eq_bool (w_res rfl) w_lit) rfl
theorem attach_call {l:OpenLaw}{n:Nat}{q loose}{XP:(Str->Option Value)->Heap->Prop}{YP:World->Heap->Prop}{d:DefRec}
  (hn:l.most=some n) (hdf:d.params.defaults=[])
  (call:∀(w:World) (s₀ s₁:Shared) (mg mb:Str->Option Value) (fa:Addr) (o:Obj) (pm cd doc:Value) (a:Addr) (vs:List Value) (ns:List Int),
   Ground q loose [] XP w s₀ mg mb s₁.heap->YP w s₁.heap ->
   s₁.heap.get? fa=some o->o.data=.func (docDef d.name d.params d.body d.scope pm cd doc)->s₁.heap.CodeRec cd d.name->mg d.name=some (.ref fa) ->
   s₁.heap.get? a=some { cls:=.type "list",data:=.seq vs.toArray }->IntsAre vs ns->ns.length<=n->s₁.gens = #[] ->
   codeAny (model l.prog w) callerA (.call (.ref fa) ⟨[.ref a],[]⟩) (fun r s'=>r=.ok (.ret (.bool true))/\OldK s₁.heap s'.heap/\s'.os=s₁.os/\AllBare s'.gens) s₁) :
  WalkO q loose XP YP l.row.toRowW d [] (fun f vs=>PySem.call f vs):=by
 intro w s₀ s₁ mg mb G Y fa o pm cd doc dV kV ho hd hcd hD hmg hg args vals as hpre hlay hrd hwl hlo;obtain rfl:dV=.none:=Dflts.none hD hdf;obtain rfl:kV=.none:=Dflts.noKw hD;obtain⟨a,vs,ns,rfl,rfl,hobj,hints,hlen⟩:=script_of hn hpre hwl;refine enter_call (codeAny_mono (call w s₀ s₁ mg mb fa o pm cd doc a vs ns G Y ho (fd_plain hd) hcd hmg hobj hints hlen hg) fun r s' hq=>?_)
 obtain⟨rfl,h2,h3,h4⟩:=hq;exact⟨.inl ⟨.bool true,.bool true,[],rfl,fun _=>rfl,.bool true,post_true l _,fun _=>⟨List.Pairwise.nil,fun _ hm=>(nomatch hm)⟩⟩,h2,h3,h4⟩
section
variable {prog:Program}{w:World}{A:Around}{E:Value->Shared->Prop}{s:Shared}{K:Frag}
end
end Att
namespace L2
open PySem PySem.Spec PyProof.Rows
theorem vals_ints:∀{vs:List Value} {ns:List Int},IntsAre vs ns->Vals (ns.map V.int) vs
 | _,_,.nil=>.nil
 | _,_,.cons n t h=>.cons ⟨t,rfl⟩ (vals_ints h)
def Only (H:Hp):Prop:=∀b,H b=none\/∃o xs,H b=some (.frz o (.lst xs))
theorem law_call {P:Program}{w:World}{K:Frag}{mg mb:Str->Option Value}{CX:CXT}{k:Nat}{fa a:Addr}{fd:FuncData}{x}{sp:Sp}{s₁:Shared}{vs:List Value}{ns:List Int}
  (KX:K.In s₁.heap) (hns:s₁.heap.Ns mainGlobals mg) (hb:s₁.heap.Ns builtinsNs mb) (hbb:∀x:Str,x ≠ "__name__"->mb x=bootBuiltins x) (hlim:s₁.heap.NoLimit) (hg:s₁.gens = #[])
  (ha:s₁.heap.get? a=some { cls:=.type "list",data:=.seq vs.toArray }) (hi:IntsAre vs ns) (hl:ns.length<=sizeLine) (hr:Room k callerA)
  (F:∀base:Heap,K.In base->base.Ns mainGlobals mg->FnOk P w K mg base CX k fa fd [x] sp) (hbind:∀(s:Shared) (u:Value),BindsTo s fd ⟨[u],[]⟩ [(x,u)])
  (hsp:∀H:Hp,Only H->SqL K H a (ns.map V.int)->sp [.ref a] H (fun v _=>v=.bl true) fun _ _ _=>False)
  (hCX:∀H e s',CX [] H s₁ (fun _ _ _=>False) e s'->False) :
  codeAny (model P w) callerA (.call (.ref fa) ⟨[.ref a],[]⟩) (fun r s'=>r=.ok (.ret (.bool true))/\OldK s₁.heap s'.heap/\s'.os=s₁.os/\AllBare s'.gens) s₁:=by
 have rv:=vals_ints hi;have lenV:=hi.length
 -- from an abstract heap in which nothing but the script may be tracked
 have core:∀H:Hp,Only H->SqL K H a (ns.map V.int)->HOk P w H s₁.heap->(∀b,H b≠none->b=a)->(H a≠none->K.lookup a=none) ->
   codeAny (model P w) callerA (.call (.ref fa) ⟨[.ref a],[]⟩) (fun r s'=>r=.ok (.ret (.bool true))/\OldK s₁.heap s'.heap/\s'.os=s₁.os/\AllBare s'.gens) s₁:=by
  intro H hO hS hok hA hK;have base_of:∀{b:Addr} {o:Obj},s₁.heap.get? b=some o->H b=none->(hidT s₁.heap H).get? b=some o:=fun e n=>hidT_get e n
  have noA:∀{b:Addr} {o:Obj} {es:Array DictEntry} {ep:Nat},s₁.heap.get? b=some o->o.data=.dict es ep->H b=none:=fun {b o es ep} e d=>by
   cases q:H b with
   | none=>rfl
   | some u=>
    have e':b=a:=hA b (by rw[q];simp);subst e';rw[ha] at e;cases e;have d':Data.seq vs.toArray _=Data.dict es ep:=d;cases d'
  have nsK:∀{b:Addr} {m:Str->Option Value},s₁.heap.Ns b m->(hidT s₁.heap H).Ns b m:=fun {b m} ⟨o,es,ep,e,d,r⟩=>⟨o,es,ep,base_of e (noA e d),d,r⟩
  have hKb:K.In (hidT s₁.heap H):=fun b o e=>base_of (KX b o e) (by
   cases q:H b with
   | none=>rfl
   | some u=>
    have e':b=a:=hA b (by rw[q];simp);subst e'
    rw[hK (by rw[q];simp)] at e;cases e)
  have hM:Mod K mg (hidT s₁.heap H):=⟨hKb,nsK hns,⟨mb,nsK hb,hbb⟩,let⟨mc,h1,h2⟩:=hlim;⟨mc,nsK h1,h2⟩⟩;have e0:Env0 P w K mg (hidT s₁.heap H) callerA [] s₁ H:=⟨rfl,hM,fun b o e=>of_hidT e,Nat.le_of_eq (hidT_size _ _),trivial,fun b hb=>absurd (show b∈([]:List Addr) from hb) (by simp),hok,.of_eq hg⟩
  refine codeAny_mono ((F _ hKb (nsK hns)).run callerA [] s₁ H ⟨[.ref a],[]⟩ [.ref a] [.ref a] _ _ hr e0 (hbind s₁ (.ref a)) (.cons rfl .nil) (hsp H hO hS)) fun r s' h=>?_;cases r with
  | error e=>exact(hCX H e s' h).elim
  | ok fl=>
   cases fl with
   | next=>exact False.elim h
   | brk=>exact False.elim h
   | cont=>exact False.elim h
   | ret u=>
    obtain⟨v,H',os,bare,un,hok',r',q⟩:=h;have q':v=.bl true:=q;subst q';obtain rfl:u=Value.bool true:=r';refine⟨rfl,OldK.of_keep fun b o e=>?_,os,bare⟩;cases q:H b with
    | none=>exact un.keep b o e q (by intro z;exact absurd (show b∈([]:List Addr) from z) (by simp)) (by simp)
    | some u=>
     rcases hO b with z|⟨ob,xs,z⟩
     ·rw[q] at z;cases z
     ·have z2:=un.frzs b ob _ z;obtain⟨e1,_⟩:=hok b _ z;obtain⟨e2,_⟩:=hok' b _ z2;rw[e] at e1;cases e1;exact e2
 cases hk:K.lookup a with
 | some o=>
  -- the script is one of the module's own objects
  have e:=KX a o hk;rw[ha] at e;cases e;refine core (fun _=>none) (fun _=>.inl rfl) (.inr ⟨_,vs.toArray,_,hk,rfl,rfl,rfl,by rw[List.size_toArray,lenV];exact hl,by simpa using rv⟩) (fun b u z=>by have z':(none:Option HO)=some u:=z;cases z') (fun b z=>absurd rfl z) fun z=>absurd rfl z
 | none=>
  refine core (fun b=>if b=a then some (.frz { cls:=.type "list",data:=.seq vs.toArray } (.lst (ns.map V.int))) else none) (fun b=>?_) (.inl (.inr ⟨{ cls:=.type "list",data:=.seq vs.toArray },if_pos rfl⟩)) (fun b u z=>?_) (fun b z=>?_) fun _=>hk
  ·by_cases hb:b=a
   ·exact .inr ⟨_,_,if_pos hb⟩
   ·exact .inl (if_neg hb)
  ·by_cases hb:b=a
   ·have z':=(if_pos hb).symm.trans z;cases z';subst hb;exact⟨ha,by rw[List.length_map];exact hl,vs,_,rv,ha⟩
   ·have z':=(if_neg hb).symm.trans z;cases z'
  ·by_cases hb:b=a
   ·exact hb
   ·exact absurd (if_neg hb) z
abbrev KOf {K:Frag}{h:Heap}(_:K.In h):Frag:=K
theorem walk_of {l:PySem.W.OpenLaw}{n k:Nat}{q loose}{XP:(Str->Option Value)->Heap->Prop}{YP:World->Heap->Prop}{d:DefRec}{K:Params->Frag}{CX:World->CXT}{sp:World->Sp}{x}
  (hn:l.most=some n) (hn2:n<=sizeLine) (hdf:d.params.defaults=[]) (hr:Room k callerA)
  (hY:∀(w:World) (h:Heap),YP w h->(K w.params).In h)
  (F:∀(w:World) (mg:Str->Option Value) (fa:Addr) (h:Heap),(K w.params).In h->h.Ns mainGlobals mg->mg d.name=some (.ref fa) ->
   ∃fd:FuncData,(∀(s:Shared) (u:Value),BindsTo s fd ⟨[u],[]⟩ [(x,u)]) /\
    ∀base:Heap,(K w.params).In base->base.Ns mainGlobals mg->FnOk l.prog w (K w.params) mg base (CX w) k fa fd [x] (sp w))
  (hsp:∀(w:World) (H:Hp) (a:Addr) (ns:List Int),ns.length<=n->Only H->SqL (K w.params) H a (ns.map V.int)->sp w [.ref a] H (fun v _=>v=.bl true) fun _ _ _=>False)
  (hCX:∀(w:World) (H:Hp) (s:Shared) (e:Value) (s':Shared),CX w [] H s (fun _ _ _=>False) e s'->False) :
  PySem.W.WalkO q loose XP YP l.row.toRowW d [] (fun f vs=>PySem.call f vs):=by
 refine Att.attach_call hn hdf fun w s₀ s₁ mg mb fa o pm cd doc a vs ns G Y ho hd hcd hmg hobj hints hlen hg=>?_;have KX:=hY w _ Y;obtain⟨fd,hb,hF⟩:=F w mg fa _ KX G.T.g hmg;exact law_call KX G.T.g G.T.b G.T.builtins G.T.nolimit hg hobj hints (Nat.le_trans hlen hn2) hr hF hb (fun H hO hS=>hsp w H a ns hlen hO hS) fun H e s'=>hCX w H s₁ e s'
theorem walk_ofK {l:PySem.W.OpenLaw}{n k:Nat}{q loose}{XP:(Str->Option Value)->Heap->Prop}{YP:World->Heap->Prop}{d:DefRec}{K:Params->Frag}{CX}{sp:Frag->Sp}{x}
  (hn:l.most=some n) (hn2:n<=sizeLine) (hdf:d.params.defaults=[]) (hr:Room k callerA)
  (hY:∀(w:World) (h:Heap),YP w h->(K w.params).In h)
  (F:∀(w:World) (mg:Str->Option Value) (fa:Addr) (h:Heap),(K w.params).In h->h.Ns mainGlobals mg->mg d.name=some (.ref fa) ->
   ∃fd:FuncData,(∀(s:Shared) (u:Value),BindsTo s fd ⟨[u],[]⟩ [(x,u)]) /\
    ∀base:Heap,(K w.params).In base->base.Ns mainGlobals mg->FnOk l.prog w (K w.params) mg base CX k fa fd [x] (sp (K w.params)))
  (hsp:∀(K:Frag) (H:Hp) (a:Addr) (ns:List Int),ns.length<=n->Only H->SqL K H a (ns.map V.int)->sp K [.ref a] H (fun v _=>v=.bl true) fun _ _ _=>False)
  (hCX:∀(H:Hp) (s:Shared) (e:Value) (s':Shared),CX [] H s (fun _ _ _=>False) e s'->False) :
  PySem.W.WalkO q loose XP YP l.row.toRowW d [] (fun f vs=>PySem.call f vs):=
 walk_of (K:=K) (CX:=fun _=>CX) (sp:=fun w=>sp (K w.params)) hn hn2 hdf hr hY F (fun w H a ns h1 h2 h3=>hsp (K w.params) H a ns h1 h2 h3) fun _ H s e s'=>hCX H s e s'
def inClass (s:Stmt)(j:Nat):Stmt:=match s with
 | .ClassDef _ _ _ body _ _ _ _ _ _ _=>body.getD j (.Pass ⟨0,0,0,0⟩)
 | _=>.Pass ⟨0,0,0,0⟩
def defArgs (s:Stmt):Arguments:=match s with
 | .FunctionDef _ a _ _ _ _ _ _ _ _=>a
 | _=>{ posonlyargs:=[],args:=[],vararg:=none,kwonlyargs:=[],kw_defaults:=[],kwarg:=none,defaults:=[] }
def defBody (s:Stmt):List Stmt:=match s with
 | .FunctionDef _ _ b _ _ _ _ _ _ _=>b
 | _=>[]
def defScope (s:Stmt):Scope:=match s with
 | .FunctionDef _ _ _ _ _ _ sc _ _ _=>sc
 | _=>{ kind:=.function,names:=[],isGenerator:=false,isCoroutine:=false }
abbrev CX0:CXT:=fun _ _ _ _ _ _=>False
abbrev E0:XK:=fun _ _ _=>False
theorem pass0 {X:Cx}:Passes CX0 X E0:=fun _ _ _ _ _ _ _ h=>h.elim
structure Fun (K:Frag)(x qual:Str)(st:Stmt)(f:Addr)(fd:FuncData):Prop where
 ex:∃(oc:Value) (od:Option Addr) (kV doc pm:Value) (an:Option Addr) (cdv ct:Value) (osl:Array (Option Value)),
  fd=fnOf x qual (defArgs st) (defBody st) (defScope st) .none kV doc pm an cdv ct/\K.lookup f=some ⟨oc,od,.func fd,osl⟩/\codeIn K cdv qual=true
 kp:keepIn K (.ref f)=true
section
variable {P:Program}{w:World}{K:Frag}{mg:Str->Option Value}{base:Heap}
theorem Fun.ok {bb x qual st f fd}{N ps:List Str}{k:Nat}{sp:Sp}(F:Fun K x qual st f fd)(S:FnScope N ps (defScope st))(len:∀vs H Q E,sp vs H Q E->vs.length=ps.length)
  (hbody:∀(cdv:Value) (A:Around) (outer:List Env) (s:Shared) (H:Hp) (vs:List V) (Q:VK) (E:XK),RoomG bb k (A.deeper (envOfC qual (defScope st) s.heap.objs.size f cdv))->sp vs H Q E ->
   ∃t,PSs (cxOfG bb CX0 P w K mg base N qual (defScope st) f cdv A outer s H E).nox (defBody st) t/\t { nx:=fun _ H'=>Q .non H',rt:=Q } (start N vs) H):FnOkG bb P w K mg base CX0 (k+1) f fd ps sp:=by
 obtain⟨oc,od,kV,doc,pm,an,cdv,ct,osl,rfl,lk,hcd⟩:=F.ex;refine fn_of lk hcd S len fun A outer s H vs Q E hr hsp=>?_;obtain⟨t,h,q⟩:=hbody cdv A outer s H vs Q E hr hsp;exact⟨t,h.nox,q⟩
theorem Fun.binds {x qual st f fd}{ps:List Str}(F:Fun K x qual st f fd)
  (h:∀(kV doc pm:Value) (an:Option Addr) (cdv ct:Value) (us:List Value),us.length=ps.length->bindArgs (fnOf x qual (defArgs st) (defBody st) (defScope st) .none kV doc pm an cdv ct) ⟨us,[]⟩=pure (ps.zip us)):Binds K fd ps []:=by
 obtain⟨oc,od,kV,doc,pm,an,cdv,ct,osl,rfl,lk,hcd⟩:=F.ex;exact .all (h kV doc pm an cdv ct)
theorem fun_mk {x qual st f oc od an osl kV doc pm cdv ct}(l:K.lookup f=some ⟨oc,od,.func (fnOf x qual (defArgs st) (defBody st) (defScope st) .none kV doc pm an cdv ct),osl⟩)
  (c:codeIn K cdv qual=true) (k:keepIn K (.ref f)=true):Fun K x qual st f (fnOf x qual (defArgs st) (defBody st) (defScope st) .none kV doc pm an cdv ct):=⟨⟨oc,od,kV,doc,pm,an,cdv,ct,osl,rfl,l,c⟩,k⟩
end
theorem hu_of {A:Around}{k:Nat}(hr:Room k A):A.units+1<cLine:=Nat.lt_of_le_of_lt (Nat.add_le_add_left (by decide:1<=64) _) hr.units
section
variable {X:Cx}
theorem pv (i:Nat){x}{pos:Pos}(hN:X.N[i]?=some x:=by rfl)(hv:Vis X.env.scope x:=by first|exact Or.inl rfl|exact Or.inr (Or.inl rfl)|exact Or.inr (Or.inr rfl))(hd:(x==("__debug__" : Str))=false:=by decide)
  (hcd:(x==("__classdict__" : Str))=false:=by decide):PE X (.Name x pos) (tVar i):=pe_var hN hv hd hcd
theorem call_lenD:CallR X (.builtin "len") (fun xs H Q=>∃a kvs,xs=[V.ref a]/\H a=some (.dK kvs)/\Q (.int kvs.length) H):=by
 intro pins s σ H xs us Q I r h;obtain⟨a,kvs,rfl,ha,q⟩:=h;obtain⟨u,rfl,ru⟩:=vals1 r;cases ru;exact d_len I (.inl ha) fun t s' I'=>⟨.int kvs.length,H,I',⟨t,rfl⟩,q⟩
end
theorem iteF {A B:Prop}(h:B):if false=true then A else B:=by
 rw[if_neg Bool.false_ne_true];exact h
theorem iteT {A B:Prop}(h:A):if true=true then A else B:=by
 rw[if_pos rfl];exact h
theorem ite2 {c A B:Prop}[Decidable c](h1:c->A)(h2:¬c->B):if c then A else B:=by
 by_cases h:c
 ·rw[if_pos h];exact h1 h
 ·rw[if_neg h];exact h2 h
theorem iteNS {c A B:Prop}[Decidable c](hc:c)(h:B):if (!decide c)=true then A else B:=by
 rw[decide_eq_true hc];exact iteF h
def Same (H H':Hp):Prop:=∀b o,H b=some o->H' b=some o
theorem Same.refl (H:Hp):Same H H:=fun _ _ h=>h
theorem Same.trans {H H1 H2:Hp}(a:Same H H1)(b:Same H1 H2):Same H H2:=fun c o h=>b c o (a c o h)
theorem Same.free {H H':Hp}(e:Same H H'){l}(h:H' l=Option.none):H l=Option.none:=by
 cases q:H l with
 | none=>rfl
 | some o=>
  rw[e l o q] at h;cases h
section
variable {κ:Type}[DecidableEq κ]
theorem valV_in {kvs:List (κ×V)}{k:κ}{v}(h:valV kvs k=some v):k∈kvs.map (·.1):=by
 have q:(kvs.any fun kv=>decide (kv.1=k))=true:=by
  rw[valV_any,h]
  all_goals rfl
 obtain⟨p,hp,e⟩:=List.any_eq_true.mp q;exact List.mem_map.mpr ⟨p,hp,of_decide_eq_true e⟩
theorem nd_snoc:∀{l:List κ} {k:κ},l.Nodup->¬k∈l->(l++[k]).Nodup
 | [],k,_,_=>by simp
 | a::r,k,h,hk=>by
  obtain⟨h1,h2⟩:=List.nodup_cons.mp h;show (a::(r++[k])).Nodup;refine List.nodup_cons.mpr ⟨fun m=>?_,nd_snoc h2 fun m=>hk (List.mem_cons.mpr (Or.inr m))⟩;rcases List.mem_append.mp m with q|q
  ·exact h1 q
  ·exact hk (List.mem_cons.mpr (Or.inl (List.mem_singleton.mp q).symm))
end
def clGo (env:Env):List (Str×NameKind)->List (Str×Addr)->List (Str×Addr)
 | [],cs=>cs
 | (n,k)::r,cs=>clGo env r (if (k==NameKind.free)=true then (n,(env.cells.lookup n).getD 0)::cs else cs)
theorem clGo_pure {env:Env}:∀(ns:List (Str×NameKind)) (cs:List (Str×Addr)),(∀y∈ns,y.2=.free->∃c,env.cells.lookup y.1=some c) ->
  (forIn (m:=Sem) ns cs fun y cs=>if (y.2==NameKind.free)=true then (do let a <- cellOf env y.1;pure (ForInStep.yield ((y.1,a)::cs))) else pure (ForInStep.yield cs))=pure (clGo env ns cs)
 | [],cs,_=>rfl
 | (n,k)::r,cs,h=>by
  rw[List.forIn_cons];have hr:∀y∈r,y.2=.free->∃c,env.cells.lookup y.1=some c:=fun y hy=>h y (List.mem_cons_of_mem _ hy);by_cases hk:(k==NameKind.free)=true
  ·obtain⟨c,hc⟩:=h (n,k) List.mem_cons_self (beq_iff_eq.mp hk);have e1:cellOf env n=pure c:=by unfold cellOf;rw[show env.cells.lookup n=some c from hc]
   simp only[hk,if_true,e1,pure_bind];rw[clGo_pure r _ hr];show _=pure (clGo env r (if (k==NameKind.free)=true then (n,(env.cells.lookup n).getD 0)::cs else cs));rw[if_pos hk,show env.cells.lookup n=some c from hc];rfl
  ·simp only[hk,Bool.false_eq_true,if_false,pure_bind];rw[clGo_pure r _ hr];show _=pure (clGo env r (if (k==NameKind.free)=true then (n,(env.cells.lookup n).getD 0)::cs else cs));rw[if_neg hk]
theorem closure_of {scope:Scope}{env:Env}(h:∀y∈scope.names,y.2=.free->∃c,env.cells.lookup y.1=some c):closureFor scope env=pure (clGo env scope.names []):=by
 have e:=clGo_pure scope.names [] h;unfold closureFor;refine Eq.trans ?_ (e.trans rfl)
 first
  | rfl
  | (simp only[bind_pure];rfl)
  | simp
theorem clGo_look {env:Env}{x c}:∀(ns:List (Str×NameKind)) (cs:List (Str×Addr)),(∀y∈ns,y.2=.free->∃c,env.cells.lookup y.1=some c) ->
  (∀c,cs.lookup x=some c->env.cells.lookup x=some c)->(clGo env ns cs).lookup x=some c->env.cells.lookup x=some c
 | [],cs,_,hc,e=>hc c e
 | (n,k)::r,cs,h,hc,e=>by
  refine clGo_look r _ (fun y hy=>h y (List.mem_cons_of_mem _ hy)) (fun c' e'=>?_) e;by_cases hk:(k==NameKind.free)=true
  ·rw[if_pos hk] at e';rw[List.lookup_cons] at e';cases hx:x==n with
   | true=>
    rw[hx] at e';obtain⟨c2,h2⟩:=h (n,k) List.mem_cons_self (beq_iff_eq.mp hk);have h2':env.cells.lookup n=some c2:=h2;rw[h2'] at e';rw[beq_iff_eq.mp hx,h2'];exact e'
   | false=>
    rw[hx] at e';exact hc c' e'
  ·rw[if_neg hk] at e';exact hc c' e'
theorem clGo_has {env:Env}{x:Str}:∀(ns:List (Str×NameKind)) (cs:List (Str×Addr)),((x,NameKind.free)∈ns\/(∃c,cs.lookup x=some c))->∃c,(clGo env ns cs).lookup x=some c
 | [],cs,h=>by
  rcases h with h|h
  ·cases h
  ·exact h
 | (n,k)::r,cs,h=>by
  refine clGo_has r _ ?_;rcases h with h|⟨c,h⟩
  ·rcases List.mem_cons.mp h with e|e
   ·cases e;refine .inr ⟨(env.cells.lookup x).getD 0,?_⟩;rw[if_pos (by rfl),List.lookup_cons];simp
   ·exact .inl e
  ·right
   by_cases hk:(k==NameKind.free)=true
   ·rw[if_pos hk,List.lookup_cons];cases hx:x==n with
    | true=>exact⟨_,rfl⟩
    | false=>exact⟨c,h⟩
   ·rw[if_neg hk];exact⟨c,h⟩
def blk (X:Cx)(scope:Scope)(Nc:List Str)(C:Addr)(s₂:Shared)(H₂:Hp)(ex:List Addr)(pins:List (Addr×Obj)):Cx:=
  { prog:=X.prog,w:=X.w,K:=X.K,mg:=X.mg,base:=X.base,A:=X.A,N:=Nc,s₀:=s₂,H₀:=H₂,env:=compEnvC scope (clGo X.env scope.names []) C X.env,outer:=X.stack,stack:=X.stack,ex:=ex,
    fn:=fun _=>false,calm:=X.calm,pn:=X.pn++pins,xe:=fun _ _=>False }
structure BlkG (X:Cx)(scope:Scope)(xs Nf:List Str)(js:List Nat):Prop where
 kind:scope.kind=.function
 nocell:∀y∈scope.names,y.2≠.cell
 loc:∀y∈scope.names,y.2=.local->scope.names.lookup y.1=some .local
 own:∀x∈xs,scope.names.lookup x=some .local
 nd:(xs++Nf).Nodup
 free:∀y∈scope.names,y.2=.free->X.env.kindOf y.1=some .cell
 slots:Nf.length=js.length
 at_:∀(i:Nat) (z:Str),Nf[i]?=some z->∃j:Nat,js[i]?=some j/\X.N[j]?=some z/\scope.names.lookup z=some .free/\X.env.scope.names.lookup z=some .cell
section
variable {X:Cx}{scope:Scope}{xs Nf:List Str}{js:List Nat}{C:Addr}{s₂:Shared}{H₂:Hp}{ex:List Addr}{pins:List (Addr×Obj)}{σ:St}
theorem BlkG.hasCell (B:BlkG X scope xs Nf js)(ok:X.Ok):∀y∈scope.names,y.2=.free->∃c,X.env.cells.lookup y.1=some c:=fun y hy hf=>ok.has y.1 (.inl (B.free y hy hf))
theorem BlkG.look (B:BlkG X scope xs Nf js)(ok:X.Ok){z c}(e:(clGo X.env scope.names []).lookup z=some c):X.env.cells.lookup z=some c:=
 clGo_look scope.names [] (B.hasCell ok) (fun c h=>by simp at h) e
theorem relabel_free {sc:Scope}{env:Env}{z}:∀{ns:List (Str×NameKind)},(∀y∈ns,y.2≠.cell) ->
    ((ns.map fun(n,k)=>if (k==NameKind.free&&env.scope.kind==.function&&env.kindOf n==some .cell) then (n,NameKind.cell) else (n,k)).lookup z=some .cell \/
     (ns.map fun(n,k)=>if (k==NameKind.free&&env.scope.kind==.function&&env.kindOf n==some .cell) then (n,NameKind.cell) else (n,k)).lookup z=some .free)->(z,NameKind.free)∈ns
  | [],_,h=>by simp at h
  | (n,k)::r,hc,h=>by
    have ih:=@relabel_free sc env z r fun y hy=>hc y (List.mem_cons_of_mem _ hy);rw[List.map_cons,List.lookup_cons] at h;by_cases hk:(k==NameKind.free&&env.scope.kind==.function&&env.kindOf n==some .cell)=true
    · have kf:k=.free:=by
        rw[Bool.and_eq_true,Bool.and_eq_true] at hk;exact beq_iff_eq.mp hk.1.1
      subst kf;simp only[hk,if_true] at h;cases hz:z==n with
      | true=>rw[beq_iff_eq.mp hz];exact List.mem_cons_self
      | false=>rw[hz] at h;exact List.mem_cons_of_mem _ (ih h)
    · simp only[hk,Bool.false_eq_true,if_false] at h
      cases hz:z==n with
      | true=>
        rw[hz] at h
        have h':k=.cell\/k=.free:=by
          rcases h with h|h
          · exact .inl (Option.some.inj h)
          · exact .inr (Option.some.inj h)
        rcases h' with e|e
        · exact absurd e (hc (n,k) List.mem_cons_self)
        · rw[beq_iff_eq.mp hz,e];exact List.mem_cons_self
      | false=>rw[hz] at h;exact List.mem_cons_of_mem _ (ih h)
theorem relabel_cell {env:Env}{z}(hk:env.scope.kind=.function)(hz:env.kindOf z=some .cell):∀{ns:List (Str×NameKind)},(∀y∈ns,y.2=.local->ns.lookup y.1=some .local)->(∀y∈ns,y.2≠.cell)->ns.lookup z=some .free ->
  (ns.map fun(n,k)=>if (k==NameKind.free&&env.scope.kind==.function&&env.kindOf n==some .cell) then (n,NameKind.cell) else (n,k)).lookup z=some .cell
 | [],_,_,h=>by simp at h
 | (n,k)::r,_,_,h=>by
  have ih:∀{ns:List (Str×NameKind)},ns.lookup z=some .free->(ns.map fun(n,k)=>if (k==NameKind.free&&env.scope.kind==.function&&env.kindOf n==some .cell) then (n,NameKind.cell) else (n,k)).lookup z=some .cell:=by
   intro ns
   induction ns with
   | nil=>intro h;simp at h
   | cons p ps ihp=>
    intro h;obtain⟨n',k'⟩:=p;rw[List.lookup_cons] at h;rw[List.map_cons,List.lookup_cons];cases hx:z==n' with
    | true=>
     rw[hx] at h;have e:k'=.free:=Option.some.inj h;subst e;rw[<- beq_iff_eq.mp hx];simp[hk,hz]
    | false=>
     rw[hx] at h;by_cases hc:(k'==NameKind.free&&env.scope.kind==.function&&env.kindOf n'==some .cell)=true
     ·simp only[hc,if_true,hx];exact ihp h
     ·simp only[hc,Bool.false_eq_true,if_false,hx];exact ihp h
  exact ih h
theorem BlkG.ok (B:BlkG X scope xs Nf js){H:Hp}{s:Shared}(I:Inv X pins σ H s)(hC:s.heap.objs.size<=C){fp}(hf:∀b∈fp,FpOk X pins H b)(ho:∀b∈fp,∃o,s.heap.get? b=some o/\∀v,o.data≠.cell v) :
  (blk X scope (xs++Nf) C s H fp pins).Ok where
 mod:=I.ok.mod
 kind:=B.kind
 glob:=I.ok.glob
 blt:=I.ok.blt
 above:=hC
 inj:=fun y z c h1 h2=>I.ok.inj y z c (B.look I.ok h1) (B.look I.ok h2)
 has:=fun z hz=>clGo_has scope.names [] (.inl (relabel_free (sc:=scope) B.nocell hz))
 cab:=fun y c h _=>Bool.noConfusion h
 hd:=fun h=>I.ok.hd h
 frames:=I.ok.frames
 stk:=.inl rfl
 exf:=fun b hb=>by
  obtain⟨o,e,d⟩:=ho b hb;refine⟨Nat.ne_of_lt (Nat.lt_of_lt_of_le (Heap.lt_size e) hC),fun z c h=>(hf b hb).2.2.2.2.1 z c (B.look I.ok h)⟩
 bs:=I.bs
 bsz:=Nat.le_trans I.ok.bsz I.sz
 noex:=fun b o e hb=>by
  rcases(hf b hb).2.2.2.1 with z|z
  ·exact I.ok.noex b o e z
  ·exact absurd (Nat.lt_of_lt_of_le (Heap.lt_size e) (Nat.le_trans I.ok.bsz z)) (Nat.lt_irrefl _)
 exfs:=fun b hb hs=>by
  rcases List.mem_cons.mp (I.stkSub b hs) with e|e
  ·exact(hf b hb).2.1 e
  ·exact(hf b hb).2.2.1 e
 funs:=I.stack
 frf:=I.stkFree
end
section
variable {X:Cx}{scope:Scope}{xs Nf:List Str}{js:List Nat}{pins:List (Addr×Obj)}{σ:St}
def rst (js:List Nat)(σ:St):St:=js.map fun j=>(σ[j]?).getD none
abbrev blkSt (js:List Nat)(σ:St)(v:Option V):St:=v::rst js σ
abbrev blkSt2 (js:List Nat)(σ:St)(v v':Option V):St:=v::v'::rst js σ
theorem BlkG.inv (B:BlkG X scope xs Nf js){H:Hp}{s:Shared}(I:Inv X pins σ H s){fp}(hf:∀b∈fp,FpOk X pins H b)(ho:∀b∈fp,∃o,s.heap.get? b=some o/\∀v,o.data≠.cell v)
  {h₁:Heap} {tk:Nat} (hn:h₁.Ns (s.heap.objs.size+1) (fun _=>none)) (hs:Heap.SameBut (s.heap.objs.size+1) ((s.heap.push { cls:=.type "list",data:=.seq #[] }).push { cls:=.type "dict",data:=.dict #[] }) h₁) :
  Inv (blk X scope (xs++Nf) (s.heap.objs.size+1) s H fp pins) [] (List.replicate xs.length none++rst js σ) (upd H s.heap.objs.size (.lst [])) { s with heap:=h₁,toks:=tk }:=by
 have old:∀b o,s.heap.get? b=some o->h₁.get? b=some o:=fun b o e=>
  hs.extBut b o (Nat.ne_of_lt (Nat.lt_succ_of_lt (Heap.lt_size e))) (Heap.get?_push_of_some _ (Heap.get?_push_of_some _ e))
 have hD:h₁.get? s.heap.objs.size=some { cls:=.type "list",data:=.seq #[] }:=hs.extBut _ _ (Nat.ne_of_lt (Nat.lt_succ_self _)) (Heap.get?_push_of_some _ (Heap.get?_push_size _ rfl));have fD:H s.heap.objs.size=none:=I.hok.fresh (Nat.le_refl _);have fC:H (s.heap.objs.size+1)=none:=I.hok.fresh (Nat.le_succ _)
 have cellAt:∀z c,(clGo X.env scope.names []).lookup z=some c->c<s.heap.objs.size:=fun z c e=>by
  obtain⟨v,q⟩:=I.cell z c (B.look I.ok e);exact q.lt
 have J:=I.laid (a:=s.heap.objs.size) (o:=.lst []) (h':=h₁) (t':=tk) old (Nat.le_refl _) ⟨Nat.zero_le _,[],0,.nil,hD⟩;refine⟨B.ok I (Nat.le_succ _) hf ho,rfl,I.bare,Un.laid old (Nat.le_refl _) fD,⟨_,hn,fun i z v h1 h2 h3=>?_⟩,fun z c e=>?_,?_,fun z c e=>?_,fun p hp=>?_,J.hok,?_⟩
 ·-- a name of the block that has a value: one of the def's
  by_cases hi:i<xs.length
  ·rw[List.getElem?_append_left (by rw[List.length_replicate];exact hi),List.getElem?_replicate,if_pos hi] at h2;cases h2
  ·obtain⟨i,rfl⟩:∃k,i=xs.length+k:=⟨i - xs.length,by omega⟩
   have h1':Nf[i]?=some z:=by
    have:(xs++Nf)[xs.length+i]?=some z:=h1
    rwa[List.getElem?_append_right (by omega),Nat.add_sub_cancel_left] at this
   have h2':(js.map fun j=>(σ[j]?).getD none)[i]?=some (some v):=by
    rwa[List.getElem?_append_right (by rw[List.length_replicate];omega),List.length_replicate,Nat.add_sub_cancel_left] at h2
   obtain⟨j,e1,e2,e3,e4⟩:=B.at_ i z h1';rw[List.getElem?_map,e1] at h2';have h2'':(σ[j]?).getD none=some v:=Option.some.inj h2'
   have e5:σ[j]?=some (some v):=by
    cases q:σ[j]? with
    | none=>rw[q] at h2'';cases h2''
    | some y=>rw[q] at h2'';exact congrArg some h2''
   obtain⟨m,hm,hl⟩:=I.loc;obtain⟨u,r,l⟩:=hl j z v e2 e5 (.inr (.inl e4));refine⟨u,r,.inr ⟨.inl ?_,?_⟩⟩
   ·exact relabel_cell I.ok.kind e4 B.loc B.nocell e3
   ·rcases l with⟨k,_⟩|⟨_,c,hc,q⟩
    ·rw[show X.env.kindOf z=X.env.scope.names.lookup z from rfl,e4] at k;cases k
    ·obtain⟨c',hc'⟩:=clGo_has (env:=X.env) (x:=z) scope.names [] (.inl (PySem.mem_of_lookup e3));have e6:=B.look I.ok hc';rw[hc] at e6;cases e6;exact⟨c,hc',q.keeps old⟩
 ·obtain⟨v,q⟩:=I.cell z c (B.look I.ok e);exact⟨v,q.keeps old⟩
 ·show upd H s.heap.objs.size (.lst []) (s.heap.objs.size+1)=none;rw[upd_ne (Nat.ne_of_gt (Nat.lt_succ_self _))];exact fC
 ·rw[upd_ne (Nat.ne_of_lt (cellAt z c e))];exact I.freeC z c (B.look I.ok e)
 ·have hp':p∈X.pn++pins:=by
   have:p∈(X.pn++pins)++[]:=hp
   rwa[List.append_nil] at this
  obtain⟨e,n,ne,nf,d⟩:=I.pin p hp';refine⟨old _ _ e,?_,Nat.ne_of_lt (Nat.lt_succ_of_lt (Heap.lt_size e)),fun z=>?_,d⟩
  ·rw[upd_ne (Nat.ne_of_lt (Heap.lt_size e))];exact n
  ·rcases List.mem_cons.mp (I.stkSub p.1 z) with q|q
   ·exact ne q
   ·exact nf q
 ·show _=(xs++Nf).length;rw[List.length_append,List.length_append,List.length_replicate,B.slots];exact congrArg _ (List.length_map _)
theorem BlkG.back (B:BlkG X scope xs Nf js){H H':Hp}{s s':Shared}{fp C pl}{τ:St}(I:Inv X pins σ H s)(hf:∀b∈fp,FpOk X pins H b)(hC:s.heap.objs.size<=C)
  (J:Inv (blk X scope (xs++Nf) C s H fp pins) pl τ H' s') {h'} (hs:Heap.SameBut C s'.heap h'):Inv X pins σ H' { s' with heap:=h' }:=by
 have nC:H' C=none:=J.free;refine I.call' (s':={ s' with heap:=h' }) (ch:=fp) J.os ⟨fun b o e n hb hx=>?_,fun b o e n hb hx=>?_,J.base.free,fun b o e hx=>?_,J.base.tups,J.base.frzs,J.base.tbls⟩ ?_ J.bare (fun b hb=>?_)
 ·exact hs.extBut b o (Nat.ne_of_lt (Nat.lt_of_lt_of_le (Heap.lt_size e) hC)) (J.base.keep b o e n hb hx)
 ·obtain⟨sl,e1⟩:=J.base.slot b o e n hb hx;exact⟨sl,hs.extBut b _ (Nat.ne_of_lt (Nat.lt_of_lt_of_le (Heap.lt_size e) hC)) e1⟩
 ·obtain⟨o',e1⟩:=J.base.there b o e hx;exact⟨o',hs.extBut b _ (Nat.ne_of_lt (Nat.lt_of_lt_of_le (Heap.lt_size e) hC)) e1⟩
 ·intro a o e;refine(J.hok a o e).stay (fun b u hb q=>hs.extBut b u ?_ q) (fun _ q=>q) fun _ _ q=>q;rcases hb with rfl|hb
  ·exact fun z=>by rw[z,nC] at e;cases e
  ·exact fun z=>by rw[z,nC] at hb;cases hb
 ·obtain⟨_,f1,f2,f3,f4,f5⟩:=hf b hb;exact⟨f3,f1,f4,f5⟩
end
inductive PTs (X:Cx):List Expr->TT->Prop where
 | nil:PTs X [] (fun _ H Q=>Q true H)
 | one {c:Expr} {t:TT} (h:PT X c t):PTs X [c] t
theorem PTs.run {X:Cx}{ifs t}(h:PTs X ifs t){pins}{s:Shared}{σ:St}{H:Hp}{Q:Bool->Hp->Prop}(I:Inv X pins σ H s)(q:t σ H Q) :
  wpAny (model X.prog X.w) X.A (forIn ifs true fun c r=>if r=true then do let ok <- isTrue c X.env (eval c X.env);pure (ForInStep.yield ok) else pure (ForInStep.yield r)) (TP X pins σ Q) X.xe s:=by
 cases h with
 | nil=>exact wpAny_pure ⟨H,I,q⟩
 | @one c t h=>
  rw[List.forIn_cons];refine wpAny_bind ?_;rw[if_pos rfl];refine wpAny_bind (thn (h pins s σ H Q I q) fun b s1 q1=>wpAny_pure ?_);exact wpAny_pure q1
section
variable {s:Shared}{R:Result->Shared->Prop}{A:Around}{prog:Program}{w:World}
abbrev testsOf (ifs:List Expr)(env:Env):Sem Bool:=forIn ifs true fun c r=>if r=true then do let ok <- isTrue c env (eval c env);pure (ForInStep.yield ok) else pure (ForInStep.yield r)
def Less (J:Nat->Shared->Prop)(n:Nat)(t:Shared):Prop:=∃m,m<n/\J m t
theorem comp_turns {elt target iter ifs scope pos it acc}{env:Env}{N:Value->Shared->Prop}(eN:N=notedBy (model prog w) A env fun e s'=>R (.error e) s')(J:Nat->Shared->Prop)
  (turn:∀n s,J n s->wpAny (model prog w) A (pyNext it) (fun r s1=>(r=none->R (.ok .next) s1)/\∀v,r=some v->wpAny (model prog w) A (letOwnedTupleGo target it v) (fun _ s0=>wpAny (model prog w) A (assign target env v) (fun _ s2=>wpAny (model prog w) A (testsOf ifs env)
   (fun ok s3=>(ok=false->Less J n s3)/\(ok=true->wpAny (model prog w) A (eval elt env) (fun x s4=>wpAny (model prog w) A (call (.builtin "list.append") [acc,x]) (fun _ s5=>Less J n s5) N s4) N s3)) N s2) N s0) N s1) N s)
  (n:Nat) (h:J n s):codeAny (model prog w) A (.compLoop (.ListComp elt [⟨target,iter,ifs,0⟩] scope pos) 0 it acc env) R s:=by
 subst eN;refine codeAny_loop rfl J (fun n s hJ=>?_) n h;refine(show wpAny _ A ((compTurn (.ListComp elt [⟨target,iter,ifs,0⟩] scope pos) 0 it acc env).onRaise (fun x=>do noteFrame x env;theTreesLotGoes x)) _ _ s from wpAny_noted ?_);rw[compTurn_list];refine wpAny_bind (wpAny_standAt (wpAny_bind (thn (turn n s hJ) fun r s1 ⟨q0,q1⟩=>?_)));cases r with
 | none=>exact wpAny_pure (q0 rfl)
 | some v=>
  refine wpAny_bind (thn (q1 v rfl) fun _ s0 q2=>wpAny_bind (thn q2 fun _ s2 q3=>wpAny_bind (thn q3 fun ok s3 ⟨no,yes⟩=>?_)));cases ok with
  | false=>exact wpAny_pure ⟨rfl,no rfl⟩
  | true=>exact wpAny_bind (wpAny_bind (thn (yes rfl) fun x s4 q4=>wpAny_bind (thn q4 fun _ s5 q5=>wpAny_pure (wpAny_pure ⟨rfl,q5⟩))))
end
def tCompZ (Z:V->Hp->(List (Option V)->Prop)->Prop)(js:List Nat)(wi:TI)(tc:TT)(te:TE):TE:=fun σ H Q=>wi σ H fun J H1=>∀D,H1 D=none->∃W:Nat->Nat->Hp->Prop,(∃m,W 0 m (upd H1 D (.lst [])))/\∀i m H2,W i m H2 ->
 (J.stop i H2/\Q (.ref D) H2)\/(J.go i H2/\∀v H3,J.yld i H2 v H3->Z v H3 fun vs=>tc (vs++rst js σ) H3 fun b H4=>
  if b=true then te (vs++rst js σ) H4 fun y H5=>∃ys,H5 D=some (.lst ys)/\ys.length<sizeLine/\∃m',m'<m/\W (i+1) m' (upd H5 D (.lst (ys++[y])))
  else ∃m',m'<m/\W (i+1) m' H4)
abbrev tComp:=tCompZ fun v _ k=>k [some v]
abbrev tComp2 (K:Frag):=tCompZ fun v H k=>∃t y y',v=.ref t/\SqT K H t [y,y']/\k [some y,some y']
section
variable {X:Cx}{scope:Scope}{xs Nf:List Str}{js:List Nat}{wi:TI}{tc:TT}{te:TE}{g:TG}{Z:V->Hp->(List (Option V)->Prop)->Prop}{elt iter tg:Expr}{ifs:List Expr}{pos:Pos}
theorem comp_core (use:Option (Value->Sem Unit)){pins}{s₂:Shared}{σ:St}{H₂:Hp}{it fp}{tn:Nat->Heap->Prop}{J:It}{E:Value->Shared->Prop}{QQ:Value->Addr->Result->Shared->Prop}{Q:VK}{g:TG}{Z:V->Hp->(List (Option V)->Prop)->Prop}(hg:∀C s₂ H₂ ex pins,PG (blk X scope (xs++Nf) C s₂ H₂ ex pins) tg g)(hZ:∀v H ws k,ws.length=xs.length->Z v H k->∃vs,vs.length=xs.length/\g v (ws++rst js σ) H (fun σ' H'=>σ'=vs++rst js σ/\H'=H)/\k vs)
  (B:BlkG X scope xs Nf js) (hc:X.calm=true)
  (ht:∀C s₂ H₂ ex pins,PTs (blk X scope (xs++Nf) C s₂ H₂ ex pins) ifs tc) (he:∀C s₂ H₂ ex pins,PE (blk X scope (xs++Nf) C s₂ H₂ ex pins) elt te)
  (I:Inv X pins σ H₂ s₂) (T:Turn X.prog X.w X.K tg J fp it tn) (st:tn 0 s₂.heap) (hf:∀b∈fp,FpOk X pins H₂ b)
  (hW:∀D,H₂ D=none->∃W:Nat->Nat->Hp->Prop,(∃m,W 0 m (upd H₂ D (.lst [])))/\∀i m H2,W i m H2 ->
   (J.stop i H2/\Q (.ref D) H2)\/(J.go i H2/\∀v H3,J.yld i H2 v H3->Z v H3 fun vs=>tc (vs++rst js σ) H3 fun b H4=>
    if b=true then te (vs++rst js σ) H4 fun y H5=>∃ys,H5 D=some (.lst ys)/\ys.length<sizeLine/\∃m',m'<m/\W (i+1) m' (upd H5 D (.lst (ys++[y])))
    else ∃m',m'<m/\W (i+1) m' H4))
  (hQ:∀s' H',(∀h',Heap.SameBut (s₂.heap.objs.size+1) s'.heap h'->Inv X pins σ H' { s' with heap:=h' })->(∃m,s'.heap.Ns (s₂.heap.objs.size+1) m)->H' (s₂.heap.objs.size+1)=none->Q (.ref s₂.heap.objs.size) H'->QQ (.ref s₂.heap.objs.size) (s₂.heap.objs.size+1) (.ok .next) s') :
  wpAny (model X.prog X.w) X.A (newList []) (fun acc s₃=>wpAny (model X.prog X.w) X.A (newFunctionEnv scope X.env.globals (clGo X.env scope.names []) [] X.env.qual none .none (some X.env)) (fun cenv s₄=>
   codeAny (model X.prog X.w) X.A (.compStart (.ListComp elt [⟨tg,iter,ifs,0⟩] scope pos) 0 (.ref it) acc { cenv with scope:=relabel scope X.env }) (QQ acc cenv.locals) s₄) E s₃) E s₂:=by
 refine wpAny_newObj_type (wpAny_newFunctionEnv B.nocell (by intro y hy;simp at hy) (fun h₁ hns₁ hsb₁=>?_) B.kind);dsimp only at hns₁ hsb₁ ⊢;have hsz:(s₂.heap.push { cls:=.type "list",dict:=none,data:=.seq ([]:List Value).toArray }).objs.size=s₂.heap.objs.size+1:=Heap.size_push _ _;rw[hsz] at hns₁ hsb₁ ⊢;have ho:∀b∈fp,∃o,s₂.heap.get? b=some o/\∀v,o.data≠.cell v:=T.obj 0 _ st
 have hD0:H₂ s₂.heap.objs.size=none:=I.hok.fresh (Nat.le_refl _);obtain⟨W,⟨m0,w0⟩,turn⟩:=hW _ hD0
 have old:∀b o,s₂.heap.get? b=some o->h₁.get? b=some o:=fun b o e=>
  hsb₁.extBut b o (Nat.ne_of_lt (Nat.lt_succ_of_lt (Heap.lt_size e))) (Heap.get?_push_of_some _ (Heap.get?_push_of_some _ e))
 have st1:tn 0 h₁:=T.keep _ _ _ st fun b _ o e=>old b o e;have I1:∀tk,Inv (blk X scope (xs++Nf) (s₂.heap.objs.size+1) s₂ H₂ fp pins) [] (List.replicate xs.length none++rst js σ) (upd H₂ s₂.heap.objs.size (.lst [])) { s₂ with heap:=h₁,toks:=tk }:=fun tk=>B.inv I hf ho hns₁ hsb₁
 have fpD:∀b∈fp,b≠s₂.heap.objs.size:=fun b hb=>by
  obtain⟨o,e,_⟩:=ho b hb;exact Nat.ne_of_lt (Heap.lt_size e)
 have fp0:∀b∈fp,upd H₂ s₂.heap.objs.size (.lst []) b=none:=fun b hb=>by rw[upd_ne (fpD b hb)];exact(hf b hb).1
 -- what the block's context says of the iterator's objects
 have stat:∀{H':Hp},(∀b∈fp,H' b=none)->∀b∈fp,FpOk (blk X scope (xs++Nf) (s₂.heap.objs.size+1) s₂ H₂ fp pins) [] H' b:=fun {H'} hn b hb=>by
  obtain⟨_,f1,f2,f3,f4,f5⟩:=hf b hb;obtain⟨o,e,_⟩:=ho b hb;refine⟨hn b hb,Nat.ne_of_lt (Nat.lt_succ_of_lt (Heap.lt_size e)),fun z=>?_,.inl hb,fun z c h=>f4 z c (B.look I.ok h),fun p hp=>?_⟩
  ·rcases List.mem_cons.mp (I.stkSub b z) with q|q
   ·exact f1 q
   ·exact f2 q
  ·have hp':p∈(X.pn++pins)++[]:=hp;rw[List.append_nil] at hp';exact f5 p hp'
 have loop:∀sL:Shared,sL={ s₂ with heap:=h₁,toks:=s₂.toks+([]:List (Str×Value)).length } ->
   codeAny (model X.prog X.w) X.A (.compLoop (.ListComp elt [⟨tg,iter,ifs,0⟩] scope pos) 0 (.ref it) (.ref s₂.heap.objs.size) (compEnvC scope (clGo X.env scope.names []) (s₂.heap.objs.size+1) X.env))
    (QQ (.ref s₂.heap.objs.size) (s₂.heap.objs.size+1)) sL:=by
  rintro sL rfl;refine comp_turns rfl (fun n s'=>∃i ws H',ws.length=xs.length/\Inv (blk X scope (xs++Nf) (s₂.heap.objs.size+1) s₂ H₂ fp pins) [] (ws++rst js σ) H' s'/\tn i s'.heap/\(∀b∈fp,H' b=none)/\W i n H') ?_ m0 ⟨0,_,_,List.length_replicate,I1 _,st1,fp0,w0⟩;rintro n s3 ⟨i,ws,H3,lw,I3,st3,fr3,w3⟩;rcases turn i n H3 w3 with⟨stop,qn⟩|⟨go,step⟩
  ·refine thn (T.done (blk X scope (xs++Nf) (s₂.heap.objs.size+1) s₂ H₂ fp pins) rfl rfl rfl hc i [] s3 _ H3 _ I3 (stat fr3) st3 stop) fun r s4 ⟨hr,I4⟩=>⟨fun _=>?_,fun v e=>by rw[hr] at e;cases e⟩;subst hr;obtain⟨m4,hm4,_⟩:=I4.loc;exact hQ s4 H3 (fun h' hs=>B.back I hf (Nat.le_succ _) I4 hs) ⟨m4,hm4⟩ I4.free qn
  ·refine thn (T.item (blk X scope (xs++Nf) (s₂.heap.objs.size+1) s₂ H₂ fp pins) rfl rfl rfl hc i [] s3 _ H3 _ I3 (stat fr3) st3 go) fun r s4 ⟨u,hr,h4⟩=>⟨(fun e=>by rw[hr] at e;cases e),fun v e=>?_⟩;rw[hr] at e;cases e;refine wpAny_mono h4 (fun _ s5 ⟨y5,H5,I5,r5,yl5,st5,fr5⟩=>?_) fun _ _ z=>z;have I5':=I5.pinned (stat fr5) (T.obj _ _ st5);obtain⟨vs,lv,qg,q5⟩:=hZ y5 H5 ws _ lw (step y5 _ yl5)
   refine wpAny_mono (hg _ _ _ _ _ _ s5 _ H5 y5 u (fun σ' H'=>σ'=vs++rst js σ/\H'=H5) I5' r5 qg) (fun _ s6 ⟨σ6,H6,I6,q6⟩=>?_) fun _ _ z=>False.elim z;obtain⟨e6,e6'⟩:=q6;subst e6 e6';refine wpAny_mono ((ht _ _ _ _ _).run I6 q5) (fun b s7 ⟨H7,I7,q7⟩=>?_) fun _ _ z=>False.elim z
   have again:∀{s8:Shared} {σ8:St} {H8:Hp},Inv (blk X scope (xs++Nf) (s₂.heap.objs.size+1) s₂ H₂ fp pins) ([]++pinsAt fp s5.heap) σ8 H8 s8->tn (i+1) s8.heap/\∀b∈fp,H8 b=none:=fun {s8 σ8 H8} I8=>by
    refine⟨T.keep _ _ _ st5 fun b hb o e=>(I8.pin (b,o) (List.mem_append_right _ (List.mem_append_right _ (mem_pinsAt hb e)))).1,fun b hb=>?_⟩;obtain⟨o,e,d⟩:=T.obj _ _ st5 b hb;exact(I8.pin (b,o) (List.mem_append_right _ (List.mem_append_right _ (mem_pinsAt hb e)))).2.1
   refine⟨fun eb=>?_,fun eb=>?_⟩
   ·subst eb;simp only[Bool.false_eq_true,if_false] at q7;obtain⟨m',hm,w7⟩:=q7;exact⟨m',hm,i+1,_,H7,lv,I7.unpinned,(again I7).1,(again I7).2,w7⟩
   ·subst eb;simp only[if_true] at q7;refine wpAny_mono (he _ _ _ _ _ _ s7 _ H7 _ I7 q7) (fun yv s8 ⟨y8,H8,I8,r8,ys,hD8,hl8,m',hm,w8⟩=>?_) fun _ _ z=>False.elim z;obtain⟨a1,a2⟩:=again I8
    refine wpAny_mono (mt_append (X:=blk X scope (xs++Nf) (s₂.heap.objs.size+1) s₂ H₂ fp pins) _ s8 _ H8 (.ref s₂.heap.objs.size) [y8] (.ref s₂.heap.objs.size) [yv] (fun _ H'=>H'=upd H8 s₂.heap.objs.size (.lst (ys++[y8]))) I8 rfl (.cons r8 .nil)
     ⟨_,_,_,rfl,rfl,hD8,hl8,rfl⟩) (fun _ s9 ⟨_,H9,I9,_,q9⟩=>?_) fun _ _ z=>False.elim z
    subst q9;obtain⟨b1,b2⟩:=again I9;exact⟨m',hm,i+1,_,_,lv,I9.unpinned,b1,b2,w8⟩
 exact codeAny_compStart_list (loop _ rfl) (T.self _ 0 _ _ _ st1 (loop _ rfl))
theorem pe_compZ (B:BlkG X scope xs Nf js)(hc:X.calm=true)(hg:∀C s₂ H₂ ex pins,PG (blk X scope (xs++Nf) C s₂ H₂ ex pins) tg g)(hZ:∀(σ:St) v H ws k,ws.length=xs.length->Z v H k->∃vs,vs.length=xs.length/\g v (ws++rst js σ) H (fun σ' H'=>σ'=vs++rst js σ/\H'=H)/\k vs)(hi:PI X tg iter wi)
  (ht:∀C s₂ H₂ ex pins,PTs (blk X scope (xs++Nf) C s₂ H₂ ex pins) ifs tc) (he:∀C s₂ H₂ ex pins,PE (blk X scope (xs++Nf) C s₂ H₂ ex pins) elt te)
  (hs:∀v,foldedSetIterable iter X.env v=pure v:=by intro _;rfl):PE X (.ListComp elt [⟨tg,iter,ifs,0⟩] scope pos) (tCompZ Z js wi tc te):=by
 intro pins s σ H Q I h;rw[eval_ListComp];refine wpAny_comprehension_free (use:=none) rfl hs (closure_of (B.hasCell I.ok)) B.kind B.loc (thn (hi pins s σ H _ I h) fun v s1 h1=>thn h1 fun itv s2 h2=>?_);obtain⟨it,fp,tn,J,H2,e,I2,T,st2,f2,hW⟩:=h2;subst e
 refine comp_core (QQ:=fun acc C=>compPost (model X.prog X.w) X.A X.xe none (EP X pins σ Q) acc C) none hg (hZ σ) B hc ht he I2 T st2 f2 hW fun s' H' hI hn _ hq=>?_;obtain⟨m,hm⟩:=hn;exact⟨m,hm,fun h' hs'=>⟨.ref s2.heap.objs.size,H',hI h' hs',rfl,hq⟩⟩
theorem ps_setZ {i:Nat}{y}{py spos:Pos}(B:BlkG X scope xs Nf js)(hc:X.calm=true)(hg:∀C s₂ H₂ ex pins,PG (blk X scope (xs++Nf) C s₂ H₂ ex pins) tg g)(hZ:∀(σ:St) v H ws k,ws.length=xs.length->Z v H k->∃vs,vs.length=xs.length/\g v (ws++rst js σ) H (fun σ' H'=>σ'=vs++rst js σ/\H'=H)/\k vs)(hi:PI X tg iter wi)
  (ht:∀C s₂ H₂ ex pins,PTs (blk X scope (xs++Nf) C s₂ H₂ ex pins) ifs tc) (he:∀C s₂ H₂ ex pins,PE (blk X scope (xs++Nf) C s₂ H₂ ex pins) elt te)
  (hN:X.N.Nodup) (hy:X.N[i]?=some y) (hl:X.env.scope.names.lookup y=some .local)
  (hsw:swapsWith (.ListComp elt [⟨tg,iter,ifs,0⟩] scope pos) (some (.Name y py)) spos.line X.env=pure true:=by rfl)
  (hs:∀v,foldedSetIterable iter X.env v=pure v:=by intro _;rfl):PS X (.Assign [.Name y py] (.ListComp elt [⟨tg,iter,ifs,0⟩] scope pos) spos) (tAsg (tCompZ Z js wi tc te) (gName i)):=by
 intro pins s σ H D I h;have asg:=exec_Assign_Name_used _ _ _ _ hsw;rw[asg];refine wpAny_bind (wpAny_standAt (wpAny_bind (show wpAny _ _ (do let _ <- comprehension (.ListComp elt [⟨tg,iter,ifs,0⟩] scope pos) scope X.env _ (newList []) false (eval iter X.env) (some (assign (.Name y py) X.env))) _ _ s from ?_)))
 refine wpAny_bind (wpAny_mono (wpAny_comprehension_free (use:=some (assign (.Name y py) X.env)) (Q:=fun _ s'=>SP X pins D .next s') rfl hs (closure_of (B.hasCell I.ok)) B.kind B.loc
  (thn (hi pins s σ H _ I h) fun v s1 h1=>thn h1 fun itv s2 h2=>?_)) (fun _ s' hq=>wpAny_pure (wpAny_pure hq)) fun _ _ e=>e)
 obtain⟨it,fp,tn,J,H2,e,I2,T,st2,f2,hW⟩:=h2;subst e;refine comp_core (Q:=fun x H1=>gName i x σ H1 D.nx) (QQ:=fun acc C=>compPost (model X.prog X.w) X.A X.xe (some (assign (.Name y py) X.env)) (fun _ s'=>SP X pins D .next s') acc C) none hg (hZ σ) B hc ht he I2 T st2 f2 hW fun s' H' hI hn hC hq=>?_;obtain⟨m,hm⟩:=hn;have I3:Inv X pins σ H' s':=hI s'.heap (Heap.SameBut.refl ..)
 have nC:=I2.fpOk (b:=s2.heap.objs.size+1) (Nat.le_succ _) hC;show wpAny _ _ (assign (.Name y py) X.env (.ref s2.heap.objs.size)) _ _ _;refine wpAny_assign_Name (store_ok2 I3 hN hy (.inl hl) (v:=.ref s2.heap.objs.size) rfl (fun s4 I4 ⟨b,hb,hbc⟩=>?_) (.inr hl))
 have bne:s2.heap.objs.size+1≠b:=by
  rcases hbc with z|z
  ·rw[z];exact nC.2.1
  ·exact fun q=>nC.2.2.2.2.1 y b z q.symm
 refine⟨m,hm.sameBut hb bne,fun h' hs'=>⟨_,H',?_,hq⟩⟩;exact I4.turned (t':=s4.toks) (fun c o hc q=>(hs'.2 c hc).trans q) nC.1 nC.2.1 nC.2.2.2.1 nC.2.2.2.2.1 nC.2.2.2.2.2
theorem z_one {js:List Nat}(σ:St)(v:V)(H:Hp)(ws:St)(k:St->Prop)(l:ws.length=1)(h:k [some v]):∃vs:St,vs.length=1/\gName 0 v (ws++rst js σ) H (fun σ' H'=>σ'=vs++rst js σ/\H'=H)/\k vs:=match ws,l with
 | [_],_=>⟨_,rfl,⟨rfl,rfl⟩,h⟩
theorem z_two {K}{js:List Nat}(σ:St)(v:V)(H:Hp)(ws:St)(k:St->Prop)(l:ws.length=2)(h:∃t y y',v=.ref t/\SqT K H t [y,y']/\k [some y,some y']):∃vs:St,vs.length=2/\gTup K 2 (gCons (gName 0) (gCons (gName 1) gNil)) v (ws++rst js σ) H (fun σ' H'=>σ'=vs++rst js σ/\H'=H)/\k vs:=match ws,l,h with
 | [_,_],_,⟨t,_,_,e,q,h⟩=>⟨_,rfl,⟨t,_,e,q,rfl,_,_,rfl,_,_,rfl,rfl,rfl,rfl⟩,h⟩
variable {x x':Str}{px px' ptg:Pos}{ktg:Nat}
theorem g_one (B:BlkG X scope [x] Nf js):∀C s₂ H₂ ex pins,PG (blk X scope ([x]++Nf) C s₂ H₂ ex pins) (.Name x px) (gName 0):=fun _ _ _ _ _=>let h:=lookup_relabel_local (B.own x (.head _));pg_name B.nd rfl (.inl h) (.inr h)
theorem g_two (B:BlkG X scope [x,x'] Nf js)(hc:X.calm=true):∀C s₂ H₂ ex pins,PG (blk X scope ([x,x']++Nf) C s₂ H₂ ex pins) (.Tuple [.Name x px,.Name x' px'] ktg ptg) (gTup X.K 2 (gCons (gName 0) (gCons (gName 1) gNil))):=fun _ _ _ _ _=>
 let h:=lookup_relabel_local (B.own x (.head _));let h':=lookup_relabel_local (B.own x' (.tail _ (.head _)));pg_tup hc (pgs_cons (pg_name B.nd rfl (.inl h) (.inr h)) (pgs_cons (pg_name B.nd rfl (.inl h') (.inr h')) pgs_nil))
theorem pe_comp (B:BlkG X scope [x] Nf js)(hc:X.calm=true)(hi:PI X (.Name x px) iter wi)
  (ht:∀C s₂ H₂ ex pins,PTs (blk X scope (x::Nf) C s₂ H₂ ex pins) ifs tc) (he:∀C s₂ H₂ ex pins,PE (blk X scope (x::Nf) C s₂ H₂ ex pins) elt te)
  (hs:∀v,foldedSetIterable iter X.env v=pure v:=by intro _;rfl):PE X (.ListComp elt [⟨.Name x px,iter,ifs,0⟩] scope pos) (tComp js wi tc te):=pe_compZ B hc (g_one B) z_one hi ht he hs
theorem pe_comp2 (B:BlkG X scope [x,x'] Nf js)(hc:X.calm=true)(hi:PI X (.Tuple [.Name x px,.Name x' px'] ktg ptg) iter wi)
  (ht:∀C s₂ H₂ ex pins,PTs (blk X scope (x::x'::Nf) C s₂ H₂ ex pins) ifs tc) (he:∀C s₂ H₂ ex pins,PE (blk X scope (x::x'::Nf) C s₂ H₂ ex pins) elt te)
  (hs:∀v,foldedSetIterable iter X.env v=pure v:=by intro _;rfl):PE X (.ListComp elt [⟨.Tuple [.Name x px,.Name x' px'] ktg ptg,iter,ifs,0⟩] scope pos) (tComp2 X.K js wi tc te):=pe_compZ B hc (g_two B hc) z_two hi ht he hs
theorem ps_setComp {i:Nat}{y}{py spos:Pos}(B:BlkG X scope [x] Nf js)(hc:X.calm=true)(hi:PI X (.Name x px) iter wi)
  (ht:∀C s₂ H₂ ex pins,PTs (blk X scope (x::Nf) C s₂ H₂ ex pins) ifs tc) (he:∀C s₂ H₂ ex pins,PE (blk X scope (x::Nf) C s₂ H₂ ex pins) elt te)
  (hN:X.N.Nodup) (hy:X.N[i]?=some y) (hl:X.env.scope.names.lookup y=some .local)
  (hsw:swapsWith (.ListComp elt [⟨.Name x px,iter,ifs,0⟩] scope pos) (some (.Name y py)) spos.line X.env=pure true:=by rfl)
  (hs:∀v,foldedSetIterable iter X.env v=pure v:=by intro _;rfl):PS X (.Assign [.Name y py] (.ListComp elt [⟨.Name x px,iter,ifs,0⟩] scope pos) spos) (tAsg (tComp js wi tc te) (gName i)):=ps_setZ B hc (g_one B) z_one hi ht he hN hy hl hsw hs
theorem ps_setComp22 {i:Nat}{y}{py spos:Pos}(B:BlkG X scope [x,x'] Nf js)(hc:X.calm=true)(hi:PI X (.Tuple [.Name x px,.Name x' px'] ktg ptg) iter wi)
  (ht:∀C s₂ H₂ ex pins,PTs (blk X scope (x::x'::Nf) C s₂ H₂ ex pins) ifs tc) (he:∀C s₂ H₂ ex pins,PE (blk X scope (x::x'::Nf) C s₂ H₂ ex pins) elt te)
  (hN:X.N.Nodup) (hy:X.N[i]?=some y) (hl:X.env.scope.names.lookup y=some .local)
  (hsw:swapsWith (.ListComp elt [⟨.Tuple [.Name x px,.Name x' px'] ktg ptg,iter,ifs,0⟩] scope pos) (some (.Name y py)) spos.line X.env=pure true:=by rfl)
  (hs:∀v,foldedSetIterable iter X.env v=pure v:=by intro _;rfl):PS X (.Assign [.Name y py] (.ListComp elt [⟨.Tuple [.Name x px,.Name x' px'] ktg ptg,iter,ifs,0⟩] scope pos) spos) (tAsg (tComp2 X.K js wi tc te) (gName i)):=ps_setZ B hc (g_two B hc) z_two hi ht he hN hy hl hsw hs
end
section
variable {X:Cx}{pins:List (Addr×Obj)}{σ:St}{H:Hp}{s:Shared}
theorem op_fdivL:OpR X (binaryOp .FloorDiv) (rI (fun _ j=>0<j/\j.natAbs.log2<9000) fun i j=>.int (i / j)):=opI fun i j _ _ _ _ _ hc q=>by
 have e:i.fdiv j=i / j:=Int.fdiv_eq_ediv_of_nonneg i (Int.le_of_lt hc.1);exact floordiv_int (by omega) (by rw[e];exact q) (.inl (PyProof.noPylong_of_log2 hc.2))
def plainV:V->Bool
 | .non=>true|.bl _=>true|.int _=>true|.str _=>true|.ref _=>true
 | _=>false
def okP (x y:V):Prop:=(x=y/\plainV x=true)\/(flatV x=true/\flatV y=true)
def eqP (x y:V):Bool:=decide (x=y)||eqV x y
theorem eqV_self:∀{x:V},flatV x=true->eqV x x=true
 | .non,_=>rfl
 | .bl b,_=>by cases b<;>rfl
 | .int i,_=>by simp[eqV]
 | .str z,_=>by simp[eqV]
theorem eqAt_P {A:Around}{s:Shared}{x y u v}(ru:RelV x u)(rv:RelV y v)(h:okP x y):SeqAt.EqAt A s u v (eqP x y):=by
 rcases h with⟨e,p⟩|⟨f,g⟩
 ·subst e;have e1:eqP x x=true:=by unfold eqP;simp
  rw[e1];cases x with
  | non=>cases ru;cases rv;exact SeqAt.EqAt.same _
  | bl b=>cases ru;cases rv;exact SeqAt.EqAt.same _
  | int i=>have:=eqAt_V (A:=A) (s:=s) ru rv rfl rfl;rwa[eqV_self rfl] at this
  | str z=>have:=eqAt_V (A:=A) (s:=s) ru rv rfl rfl;rwa[eqV_self rfl] at this
  | ref a=>cases ru;cases rv;exact SeqAt.EqAt.same _
  | _=>exact absurd (show false=true from p) Bool.false_ne_true
 ·have e1:eqP x y=eqV x y:=by
   unfold eqP;by_cases e:x=y
   ·subst e;rw[eqV_self f];simp
   ·simp[e]
  rw[e1];exact eqAt_V ru rv f g
def eqPs (xs ys:List V):Bool:=decide (xs.length=ys.length)&&(List.zipWith eqP xs ys).all id
def okPs (xs ys:List V):Prop:=xs.length=ys.length->∀(j:Nat) (x y:V),xs[j]?=some x->ys[j]?=some y->okP x y
theorem eqPs_nil {xs}:eqPs xs []=decide (xs=[]):=by cases xs<;>simp[eqPs]
theorem okPs_nil {xs}:okPs xs []:=fun _ j x y _ h=>by simp at h
theorem eqPs_self {xs}:eqPs xs xs=true:=by
 unfold eqPs;rw[Bool.and_eq_true];refine⟨by simp,?_⟩
 induction xs with
 | nil=>rfl
 | cons x r ih=>rw[List.zipWith_cons_cons,List.all_cons,ih];simp[eqP]
theorem okPs_self {xs:List V}(h:xs.all plainV=true):okPs xs xs:=fun _ j x y e e'=>by
 rw[e] at e';cases e';exact .inl ⟨rfl,List.all_eq_true.mp h x (List.mem_of_getElem? e)⟩
def ans (xs ys:List V)(j:Nat):Bool:=match xs[j]?,ys[j]? with
 | some x,some y=>eqP x y
 | _,_=>true
theorem zip_ans:∀(xs ys:List V),xs.length=ys.length->(List.range xs.length).all (ans xs ys)=(List.zipWith eqP xs ys).all id
 | [],[],_=>rfl
 | [],_::_,h=>by simp at h
 | _::_,[],h=>by simp at h
 | x::xs,y::ys,h=>by
  have ih:=zip_ans xs ys (by simpa using h);rw[List.length_cons,List.range_succ_eq_map,List.all_cons,List.zipWith_cons_cons,List.all_cons,<- ih,List.all_map];rfl
theorem ans_at {xs ys:List V}{us ws:List Value}(r:Vals xs us)(r':Vals ys ws)(ok:okPs xs ys)(hl:xs.length=ys.length){A:Around}{s:Shared}(j:Nat)(h1:j<us.toArray.size)(h2:j<ws.toArray.size) :
  SeqAt.EqAt A s us.toArray[j] ws.toArray[j] (ans xs ys j):=by
 have l1:=r.length;have l2:=r'.length;have j1:j<xs.length:=by simp at h1;omega
 have j2:j<ys.length:=by omega
 have e1:xs[j]?=some xs[j]:=by simp[j1]
 have e2:ys[j]?=some ys[j]:=by simp[j2]
 obtain⟨u,eu,ru⟩:=r.get e1;obtain⟨w,ew,rw'⟩:=r'.get e2
 have a1:us.toArray[j]=u:=by
  have:us[j]?=some u:=eu;simp at h1;simpa[h1] using this
 have a2:ws.toArray[j]=w:=by
  have:ws[j]?=some w:=ew;simp at h2;simpa[h2] using this
 have a3:ans xs ys j=eqP xs[j] ys[j]:=by unfold ans;rw[e1,e2]
 rw[a1,a2,a3];exact eqAt_P ru rw' (ok hl j _ _ e1 e2)
def rEqL (K:Frag)(neg:Bool):R2:=fun x y H Q=>∃p q xs ys,x=.ref p/\y=.ref q/\SqL K H p xs/\SqL K H q ys/\okPs xs ys/\Q (.bl (if neg then !eqPs xs ys else eqPs xs ys)) H
theorem op_neL (hu:X.A.units<cLine):OpR X (compareOp .NotEq) (rEqL X.K true):=by
 intro pins s σ H x y v u Q I rx ry h;obtain⟨p,q,xs,ys,rfl,rfl,hp,hq,ok,hQ⟩:=h;cases rx;cases ry;obtain⟨us,r,pl,hz⟩:=I.list hp;obtain⟨ws,r',pl',hz'⟩:=I.list hq;have l1:=r.length;have l2:=r'.length;by_cases hl:xs.length=ys.length
 ·refine SeqAt.RcNeAt.lists (e:=ans xs ys) pl.isList pl'.isList (by simp;omega) hu (fun j h1 h2=>ans_at r r' ok hl j h1 h2) _ _ _ _ ⟨.bl _,H,I,rfl,?_⟩;rw[show us.toArray.size=xs.length by simp;omega,zip_ans xs ys hl];unfold eqPs at hQ;rw[decide_eq_true hl,Bool.true_and] at hQ;exact hQ
 ·refine SeqAt.RcNeAt.lists_lengths pl.isList pl'.isList (by simp;omega) hu _ _ _ _ ⟨.bl _,H,I,rfl,?_⟩;unfold eqPs at hQ;rw[decide_eq_false hl,Bool.false_and] at hQ;exact hQ
end
abbrev bmV:List Value:=[.type "ValueError",.type "Exception",.type "BaseException",.type "object"]
def strK (es:Array DictEntry):Bool:=es.all fun e=>match e.key with|.str _ _=>true|_=>false
theorem strK_ok {es}(x:strK es=true):StrKeys es:=fun e he=>by
 have hx:=Array.all_eq_true_iff_forall_mem.mp x e he;cases hk:e.key with
 | str a b=>exact⟨a,b,rfl⟩
 | _=>rw[hk] at hx;cases hx
structure ExC (K:Frag)(C T fI:Addr):Prop where
 cls:∃(nm q:Str) (N:Addr) (bs:List Value) (hdct:Bool) (sn:List Str) (sub:List Value) (ab:Bool) (col:Option Bool) (dd:Option Addr) (k0 k1 k2 k3 k5:Option Value),
  K.lookup C=some (excClassObj nm q C N bs (.ref T::bmV) hdct sn sub ab col dd k0 k1 k2 k3 k5 "ValueError.__new__")
 top:∃(c0:Value) (dd:Option Addr) (cd:ClassData) (sl:Array (Option Value)),K.lookup T=some ⟨c0,dd,.cls cd,sl⟩ /\
  ∃(d0:Value) (d1:Option Addr) (es:Array DictEntry) (n:Nat) (sl':Array (Option Value)),K.lookup cd.ns=some ⟨d0,d1,.dict es n,sl'⟩/\strK es=true/\nsFind es "__init__" = none
 init:findIn K (.ref C) "__init__" = some (some (.ref fI))
 fn:isFn K (.ref fI)=true
 kp:keepIn K (.ref C)=true
theorem ExC.tail {K:Frag}{C T fI}(x:ExC K C T fI){h}(X:K.In h):OwnTail h bmV (.ref T::bmV):=by
 obtain⟨c0,dd,cd,sl,h1,d0,d1,es,n,sl',h2,h3,h4⟩:=x.top;exact .own (X _ _ h1) ⟨_,es,n,X _ _ h2,rfl,strK_ok h3,fun _=>rfl⟩ h4 .base
section
variable {prog:Program}{w:World}{A:Around}{E:Value->Shared->Prop}{K:Frag}{C T fI:Addr}{h:Heap}{g:Array GenState}{d:Drawn}{t:Nat}{os:OsState}
theorem exc_tc (x:ExC K C T fI)(X:K.In h){us:List Value}{Q:Fin->Shared->Prop}
  (hq:∀h' e,Heap.MadeExcOf h h' e (.ref C) us->h.objs.size<=e->wpAny (model prog w) A (call (.ref fI) (.ref e::us)) (fun r s'=>r=.none/\Q (.done (.ret (.ref e))) s') E ⟨h',g,d,t,os⟩) (hz:us.length<=sizeLine) :
  wpAny (model prog w) A (Builtin.«type.__call__» ⟨.ref C::us,[]⟩) Q E ⟨h,g,d,t,os⟩:=by
 have F:=PySem.F.excBase_ValueError;have OT:=x.tail X;obtain⟨nm,q,N,bs,hdct,sn,sub,ab,col,dd,k0,k1,k2,k3,k5,lk⟩:=x.cls;have hC:=X _ _ lk
 repeat (first
  | with_reducible exact wpAny_loadPart_at hC ‹_›
  | with_reducible refine wpAny_loadPart_at hC ?_
  | with_reducible refine wpAny_madeBy_exc hC ?_
  | wp_step)
 refine codeAny_call_builtin_code (Code.quiet_builtin _ F.quiet) (wpAny_check_new_subU F F.hasB OT hC ?_);refine codeAny_exc_new_subU F F.hasB F OT hC ?_ hz;show wpAny _ _ _ _ _ _;generalize hg1:h.push { cls:=.type "tuple",data:=.seq us.toArray }=h1;have z1:h1.objs.size=h.objs.size+1:=by rw[<- hg1];exact Heap.size_push _ _
 have k1':∀b o,h.get? b=some o->h1.get? b=some o:=fun b o e=>by rw[<- hg1];exact Heap.get?_push_of_some _ e
 generalize hg2:h1.push { cls:=.ref C,data:=.fields #[.ref h.objs.size,.none,.none,.none,.bool false,.none] }=h2;have k2':∀b o,h1.get? b=some o->h2.get? b=some o:=fun b o e=>by rw[<- hg2];exact Heap.get?_push_of_some _ e
 have X2:K.In h2:=X.keeps fun b o e=>k2' b o (k1' b o e);have hC2:=X2 _ _ lk
 have he:h2.get? (h.objs.size+1)=some { cls:=.ref C,data:=.fields #[.ref h.objs.size,.none,.none,.none,.bool false,.none] }:=by
  rw[<- hg2,<- z1];exact Heap.get?_push_size _ rfl
 have ht:h2.get? h.objs.size=some { cls:=.type "tuple",data:=.seq us.toArray }:=k2' _ _ (by rw[<- hg1];exact Heap.get?_push_size _ rfl);have hcC:(Value.ref C::Value.ref T::bmV).contains (.ref C)=true:=by simp
 unfold isInstance
 repeat (first|with_reducible refine wpAny_loadPart_at he ?_|(with_reducible refine wpAny_isSubtype_exc hC2 ?_;rw[hcC])|wp_step)
 refine(looks_findIn X2 x.init).at (wpAny_holding ?_);refine wpAny_bind ?_;unfold bindSpecial;refine wpAny_bind ((PySem.W.looks_typeIn X2 (beq_iff_eq.mp x.fn)).at ?_);rw[if_pos (by decide)]
 refine wpAny_pure (wpAny_bind (wpAny_mono (hq h2 (h.objs.size+1) ⟨fun b o e=>k2' b o (k1' b o e),Heap.get?_none_of_le (Nat.le_succ _),h.objs.size,he,Heap.get?_none_of_le (Nat.le_refl _),ht⟩ (Nat.le_succ _)) (fun r s' hr=>?_) fun _ _ z=>z));obtain⟨rfl,hQ⟩:=hr
 wp_walk
 exact hQ
theorem exc_call (x:ExC K C T fI)(X:K.In h){us:List Value}{Q:Value->Shared->Prop}
  (hq:∀h' e,Heap.MadeExcOf h h' e (.ref C) us->h.objs.size<=e->wpAny (model prog w) (A.under (.builtin "type.__call__" ⟨.ref C::us,[]⟩)) (call (.ref fI) (.ref e::us)) (fun r s'=>r=.none/\Q (.ref e) s') E ⟨h',g,d,t,os⟩) (hz:us.length<=sizeLine) :
  wpAny (model prog w) A (call (.ref C) us) Q E ⟨h,g,d,t,os⟩:=by
 obtain⟨nm,q,N,bs,hdct,sn,sub,ab,col,dd,k0,k1,k2,k3,k5,lk⟩:=x.cls;have hC:=X _ _ lk;have f1:=tc_lookup;have f2:=tc_bind (.ref C);have ty:Shared.TypeIs ⟨h,g,d,t,os⟩ (.ref C) "type":=⟨_,hC,rfl⟩;refine wpAny_call ?_;refine codeAny_of_tree ?_;show wpAny (model prog w) _ (callAny (.ref C) _) _ _ _
 repeat (any_goals (first
  | assumption
  | with_reducible refine wpAny_loadPart_at hC ?_
  | wp_step))
 refine⟨rfl,?_⟩;exact codeAny_call_builtin_at (Code.quiet_builtin _ (by decide +kernel)) entry_typeCall (wpAny_check_type_call_sub hC (exc_tc x X hq hz))
end
end L2
namespace L2
open PySem PySem.Spec PyProof.Rows PySem.Builtin.ObjectAttr
def tbV (tb:Option Addr):Value:=match tb with|none=>.none|some b=>.ref b
def ExAt (C e:Addr)(dx ar tb:Option Addr)(h:Heap):Prop:=∃(o:Obj) (vs:Array Value),h.get? e=some o/\o.cls=.ref C/\o.dict=dx/\o.data=.fields vs/\0<vs.size/\(∀t,ar=some t->vs[0]?=some (.ref t))/\vs[1]?=some (tbV tb)
def ExO (C e:Addr)(dx ar tb:Option Addr):HO:=.ext (ExAt C e dx ar tb)
def XdAt (a:Addr)(fs:List (Str×V))(h:Heap):Prop:=fs.length<=1000/\∃mA,h.Ns1 a mA/\(∀f,RelO (fs.lookup f) (mA f))/\PySem.Within mA (fs.map (·.1))
def XdO (a:Addr)(fs:List (Str×V)):HO:=.ext (XdAt a fs)
theorem ExAt.stay {C e dx ar tb}{h h':Heap}(x:ExAt C e dx ar tb h)(k:∀o,h.get? e=some o->h'.get? e=some o):ExAt C e dx ar tb h':=
 let⟨o,vs,e1,r⟩:=x;⟨o,vs,k o e1,r⟩
theorem XdAt.stay {a fs}{h h':Heap}(x:XdAt a fs h)(k:∀o,h.get? a=some o->h'.get? a=some o):XdAt a fs h':=
 let⟨z,mA,hn,r⟩:=x;⟨z,mA,hn.at k,r⟩
section
variable {P:Program}{w:World}{H:Hp}{h:Heap}
theorem exO_ok {C e dx ar tb}(x:ExAt C e dx ar tb h):ObjOk P w H h e (ExO C e dx ar tb):=by
 refine⟨x,?_,fun h1 h2 q k=>q.stay k⟩;obtain⟨o,_,e1,_⟩:=x;exact⟨o,e1⟩
theorem xdO_ok {a fs}(x:XdAt a fs h):ObjOk P w H h a (XdO a fs):=by
 refine⟨x,?_,fun h1 h2 q k=>q.stay k⟩;obtain⟨_,_,⟨o,_,_,e,_⟩,_⟩:=x;exact⟨o,e⟩
end
structure ExF (K:Frag)(C T fI:Addr):Prop extends ExC K C T fI where
 hd:hasDictIn K C=true
 sa:findIn K (.ref C) "__setattr__" = some (some (.builtin "object.__setattr__"))
section
variable {X:Cx}{pins:List (Addr×Obj)}{σ:St}{H:Hp}{s:Shared}{C T fI e:Addr}{A:Around}{E:Value->Shared->Prop}
theorem ex_get {dx ar tb}(I:Inv X pins σ H s)(he:H e=some (ExO C e dx ar tb)):ExAt C e dx ar tb s.heap:=(I.hok e _ he).1
structure BaseInit (K:Frag)(T:Addr):Prop where
 ga:specialIn K (.ref T) "__getattribute__" = some (some (.builtin "type.__getattribute__"))
 rd:PySem.W.readsIn K T (.type "type")=true
 at_:PySem.W.findCls K (.ref T) (.type "type") "__init__" = some (.val (.builtin "ValueError.__init__"))
theorem init_text {dx ar tb}{us:List Value}{rest}{Q:Value->Shared->Prop}(x:ExF X.K C T fI)(I:Inv X pins σ H s)(he:H e=some (ExO C e dx ar tb))(rv:Vals rest us)(hz:us.length<=sizeLine)
  (hq:∀t s',H t=none->t≠e->Inv X pins σ (upd (upd H t (.tup rest)) e (ExO C e dx (some t) tb)) s'->Q .none s'):wpAny (model X.prog X.w) A (call (.builtin "ValueError.__init__") (.ref e::us)) Q E s:=by
 have F:=PySem.F.excBase_ValueError;have OT:=x.tail I.kIn;obtain⟨nm,q,N,bs,hdct,sn,sub,ab,col,dd,k0,k1,k2,k3,k5,lk⟩:=x.cls;have hC:=I.kIn _ _ lk;obtain⟨o,vs,e1,e2,e3,e4,e5,e6,eT⟩:=ex_get I he;rcases s with⟨hp,g,d,tk,os⟩;refine wpAny_call (codeAny_call_builtin F.init.plain F.initEntry (wpAny_check_init_subU F OT hC e1 e2 ?_));show wpAny _ _ (Builtin.«BaseException.__init__» ⟨.ref e::us,[]⟩) _ _ _
 delta Builtin.«BaseException.__init__»
 dsimp only;rw[if_neg (by simp)];unfold Builtin.BaseException.bexcPut newTuple;have h0:vs[0]?=some vs[0]:=by simp[e5]
 have e1':=Heap.get?_push_of_some (h:=hp) { cls:=.type "tuple",data:=.seq us.toArray } e1;refine wpAny_bind (wpAny_newObj_type (wpAny_bind (wpAny_bind (wpAny_field e1' e4 h0 (wpAny_bind (wpAny_setField e1' e4 e5 ?_))))) hz);have nt:hp.objs.size≠e:=Nat.ne_of_gt (Heap.lt_size e1);have ft:H hp.objs.size=none:=I.hok.fresh (Nat.le_refl _)
 have key:Inv X pins σ (upd (upd H hp.objs.size (.tup rest)) e (ExO C e dx (some hp.objs.size) tb)) ⟨(hp.push { cls:=.type "tuple",data:=.seq us.toArray }).update e (Obj.mapFields (·.setIfInBounds 0 (.ref hp.objs.size))),g,d,tk,os⟩:=by
  have I1:=I.laid (a:=hp.objs.size) (o:=.tup rest) (h':=hp.push { cls:=.type "tuple",data:=.seq us.toArray }) (t':=tk) (fun b o q=>Heap.get?_push_of_some _ q) (Nat.le_refl _) ⟨by rw[rv.length];exact hz,_,rv,(by first|exact⟨IsTup.new _ _,tup_nodict⟩|exact IsTup.new _ _)⟩
  have e7:((hp.push { cls:=.type "tuple",data:=.seq us.toArray }).update e (Obj.mapFields (·.setIfInBounds 0 (.ref hp.objs.size)))).get? e=some (Obj.mapFields (·.setIfInBounds 0 (.ref hp.objs.size)) o):=
   Heap.get?_update_self _ e1' (Obj.isFreed_of_fields (Obj.data_mapFields e4 _))
  refine I1.write (x:=e) (e:=e) (t':=tk) (by rw[upd_ne (Ne.symm nt),he];trivial) (.inl rfl) (fun b u hb q=>(Heap.get?_update_other _ _ (Ne.symm hb)).trans q) ⟨_,e7⟩ (exO_ok ⟨_,_,e7,(Obj.cls_mapFields ..).trans e2,?_,Obj.data_mapFields e4 _,by simpa using e5,fun t ht=>?_,by rw[Array.getElem?_setIfInBounds_ne (by decide)];exact eT⟩)
  ·have:(Obj.mapFields (·.setIfInBounds 0 (.ref hp.objs.size)) o).dict=o.dict:=by
    rcases o with⟨oc,od,odt,osl⟩;cases(show odt=_ from e4);rfl
   rw[this,e3]
  ·cases ht;simp[e5]
 have fin:wpAny (model X.prog X.w) A.in1 (ret Value.none) (fun fin s'=>match fin with
   | Fin.done f=>match (Except.ok f:Result) with
    | Except.ok (Flow.ret v)=>Q v s'
    | Except.ok a=>False
    | Except.error e=>E e s'
   | Fin.again c'=>c'.quiet=true/\codeAny (model X.prog X.w) A c' (fun r s'=>match r with
    | Except.ok (Flow.ret v)=>Q v s'
    | Except.ok a=>False
    | Except.error e=>E e s') s') (fun e s'=>E e s') _:=wpAny_pure (hq _ _ ft nt key)
 cases vs[0]<;>first
  | exact wpAny_letGo fin
  | exact wpAny_pure fin
theorem exc_refuse (self:Value):refuseLoop self "__setattr__" (.ref C::.ref T::bmV)=pure ():=by
 rw[refuseLoop_ref,refuseLoop_ref]
 first
  | kernel_rfl
  | rfl
theorem exset_ok {ar tb f y u}{Q:Unit->Shared->Prop}(x:ExF X.K C T fI)(I:Inv X pins σ H s)(he:H e=some (ExO C e none ar tb))(n:NoAttr X.K C f)(ry:RelV y u)
  (hq:∀dx s',H dx=none->dx≠e->Inv X pins σ (upd (upd H dx (XdO dx [(f,y)])) e (ExO C e (some dx) ar tb)) s'->Q () s'):wpAny (model X.prog X.w) A (setAttr (.ref e) f u) Q E s:=by
 obtain⟨o,vs,e1,e2,e3,e4,e5,e6,eT⟩:=ex_get I he;have J:InstAt s.heap e o C none:=⟨e1,e2,by unfold PySem.W.notCls;rw[e4],by rw[e3];trivial⟩;refine PySem.W.set_plain I.kIn J x.sa ?_;have SF:_:=PySem.F.store_object;obtain⟨cd,hc,hd'⟩:=PySem.W.any_some x.hd;obtain⟨nm,q,N,bs,hdct,sn,sub,ab,col,dd,k0,k1,k2,k3,k5,lk⟩:=x.cls
 have hcd:cd.mro=.ref C::.ref T::bmV:=by
  unfold clsIn at hc;rw[lk] at hc;cases hc;rfl
 have hm:PySem.W.Looks (model X.prog X.w) s.heap (mroOf (.ref C)) cd.mro:=(PySem.W.looks_clsIn I.kIn hc).andThen .now
 have sub:PySem.W.Looks (model X.prog X.w) s.heap (isInstance (.ref e) (.type "object")) true:=
  J.type.andThen (looks_mroIn I.kIn (by unfold mroIn;rw[hc,Option.bind_some,hcd];rfl))
 have hat:=looks_findIn (M:=model X.prog X.w) I.kIn (show findIn X.K (.ref C) f=some none from n);refine codeAny_call_builtin SF.slot.plain SF.entry (@PySem.W.check_slot (model X.prog X.w) _ _ { s with toks:=s.toks+1 } "object.__setattr__" "object" "__setattr__" (.ref e) [.str f s.toks,u] [] _ SF.kind SF.split sub (SF.args (.ref e) (.str f s.toks) u) ?_);rw[PySem.W.osa_eq,refuse_eq]
 refine wpAny_bind (wpAny_bind (PySem.W.Looks.here (s:={ s with toks:=s.toks+1 }) J.type (wpAny_bind (PySem.W.Looks.here (s:={ s with toks:=s.toks+1 }) hm ?_))));rw[hcd,exc_refuse];refine wpAny_pure (wpAny_bind (PySem.W.Looks.here (s:={ s with toks:=s.toks+1 }) J.type (wpAny_bind (PySem.W.Looks.here (s:={ s with toks:=s.toks+1 }) hat (wpAny_bind (wpAny_pure ?_))))))
 show wpAny _ _ (storeInOwnDict (.ref e) (.ref C) (.str f s.toks) f u false) _ _ _
 have e1b:s.heap.get? e=some ⟨.ref C,none,.fields vs,o.slots⟩:=by
  rcases o with⟨oc,od,odt,osl⟩;cases(show oc=_ from e2);cases(show od=_ from e3);cases(show odt=_ from e4);exact e1
 unfold storeInOwnDict;refine wpAny_bind (wpAny_pure ?_);dsimp only;rw[if_neg (by intro z;cases z)];refine wpAny_bind ?_;unfold ownDictForStores instanceDict;refine wpAny_bind (wpAny_loadPart (s:={ s with toks:=s.toks+1 }) e1b ?_);dsimp only;refine wpAny_bind (PySem.W.Looks.here (s:={ s with toks:=s.toks+1 }) (PySem.W.looks_clsIn I.kIn hc) ?_)
 rw[hd',if_neg (by decide),if_neg (show ¬(!true || !typeHasDict (.ref C))=true from Bool.false_ne_true)];have nd:s.heap.objs.size≠e:=Nat.ne_of_gt (Heap.lt_size e1);refine wpAny_bind (wpAny_alloc (wpAny_bind (wpAny_update (Heap.get?_push_of_some _ e1b) (wpAny_pure ?_))));show wpAny _ _ (storeInDict s.heap.objs.size (.str f s.toks) f u) _ _ _
 generalize hg1:s.heap.push { cls:=.type "dict",data:=.dict #[] }=g1;have p1:∀b o,s.heap.get? b=some o->g1.get? b=some o:=fun b o q=>by rw[<- hg1];exact Heap.get?_push_of_some _ q
 have q1:g1.get? s.heap.objs.size=some { cls:=.type "dict",data:=.dict #[] }:=by rw[<- hg1];exact Heap.get?_push_size _ rfl
 have z1:g1.objs.size=s.heap.objs.size+1:=by rw[<- hg1];exact Heap.size_push _ _
 generalize hg2:g1.update e (fun o=>{ cls:=o.cls,dict:=some s.heap.objs.size,data:=o.data,slots:=o.slots })=g2;have q2:g2.get? s.heap.objs.size=some { cls:=.type "dict",data:=.dict #[] }:=by rw[<- hg2,Heap.get?_update_other _ _ (Ne.symm nd)];exact q1
 have q2e:g2.get? e=some ⟨.ref C,some s.heap.objs.size,.fields vs,o.slots⟩:=by rw[<- hg2,Heap.get?_update_self _ (p1 _ _ e1b) rfl]
 have q2o:∀b,b≠e->g2.get? b=g1.get? b:=fun b hb=>by rw[<- hg2];exact Heap.get?_update_other _ _ (Ne.symm hb)
 have n2:g2.Ns s.heap.objs.size (fun _=>none):=⟨_,#[],_,q2,rfl,(fun e he=>absurd he (by simp)),fun _=>rfl⟩;unfold storeInDict;refine wpAny_bind (wpAny_pure (wpAny_bind (wpAny_nsSet1 (s:=⟨g2,s.gens,s.drawn,s.toks+1,s.os⟩) (Heap.Ns1.of_empty n2) fun h3 hn3 hs3=>?_)))
 have wi:PySem.Within (fun z=>if z=f then some u else none) [f]:=fun z hz=>by
  by_cases q:z=f
  ·simp[q]
  ·exact absurd (if_neg q) hz
 obtain⟨oD,esD,epD,hoD,hdD,hcD⟩:=hn3.count wi;refine wpAny_bind (wpAny_lookBehind hoD (by rw[hdD];exact pastItsLine_dict (Nat.le_trans hcD (by rw[sizeLine_eq,List.length_singleton];decide))) ?_);refine wpAny_pure (hq s.heap.objs.size _ (I.hok.fresh (Nat.le_refl _)) nd ?_)
 -- the dict first, with what it holds; then the error that has it
 have kA:(s.heap.push oD).get? s.heap.objs.size=some oD:=Heap.get?_push_size _ (Obj.isFreed_of_dict hdD)
 have I1:=I.laid (a:=s.heap.objs.size) (o:=XdO s.heap.objs.size [(f,y)]) (h':=s.heap.push oD) (t':=s.toks+1+1) (fun b u q=>Heap.get?_push_of_some _ q) (Nat.le_refl _)
  (xdO_ok ⟨Nat.le_of_ble_eq_true rfl,_,hn3.at fun o q=>by rw[hoD] at q;cases q;exact kA,fun z=>?_,wi⟩)
 ·refine I1.write (x:=e) (e:=e) (t':=s.toks+1+1) (by rw[upd_ne (Ne.symm nd),he];trivial) (.inl rfl) (fun b v hb q=>?_) ⟨_,hs3.extBut _ _ (Ne.symm nd) q2e⟩ (exO_ok ⟨_,vs,hs3.extBut _ _ (Ne.symm nd) q2e,rfl,rfl,rfl,e5,e6,eT⟩);by_cases hbd:b=s.heap.objs.size
  ·subst hbd;rw[kA] at q;cases q;exact hoD
  ·have hlt:b<s.heap.objs.size:=by
    have z:=Heap.lt_size q;have z2:(s.heap.push oD).objs.size=s.heap.objs.size+1:=Heap.size_push _ _;have z3:b<s.heap.objs.size+1:=by rw[<- z2];exact z
    exact Nat.lt_of_le_of_ne (Nat.le_of_lt_succ z3) hbd
   have q':s.heap.get? b=some v:=by
    obtain⟨a1,a2⟩:=Heap.get?_some_iff.mp q;refine Heap.get?_some_iff.mpr ⟨?_,a2⟩;have:(s.heap.objs.push oD)[b]?=some v:=a1;rw[Array.getElem?_push_lt hlt] at this;simpa[hlt] using this
   exact hs3.extBut _ _ hbd (by rw[q2o b hb];exact p1 _ _ q')
 ·show RelO ([(f,y)].lookup z) (if z=f then some u else none);by_cases q:z=f
  ·subst q;rw[if_pos rfl,List.lookup_cons];simp;exact ry
  ·rw[if_neg q,List.lookup_cons];have:(z==f)=false:=beq_eq_false_iff_ne.mpr q;rw[this]
   trivial
theorem exset2_ok {dx ar tb}{fs:List (Str×V)}{f y u}{Q:Unit->Shared->Prop}(x:ExF X.K C T fI)(I:Inv X pins σ H s)(he:H e=some (ExO C e (some dx) ar tb))(hx:H dx=some (XdO dx fs))(hz:fs.length<1000)
  (n:NoAttr X.K C f) (ry:RelV y u) (hq:∀s',Inv X pins σ (upd H dx (XdO dx (putF f y fs))) s'->Q () s'):wpAny (model X.prog X.w) A (setAttr (.ref e) f u) Q E s:=by
 obtain⟨o,vs,e1,e2,e3,e4,e5,e6,eT⟩:=ex_get I he;obtain⟨hzl,mA,hn,rA,wA⟩:=(show XdAt dx fs s.heap from (I.hok dx _ hx).1);obtain⟨oD,q⟩:∃oD,s.heap.get? dx=some oD:=let⟨o,_,_,z,_⟩:=hn;⟨o,z⟩;have J:InstAt s.heap e o C (some oD):=⟨e1,e2,by unfold PySem.W.notCls;rw[e4],by rw[e3];exact q⟩;refine PySem.W.set_plain I.kIn J x.sa ?_;have SF:_:=PySem.F.store_object
 obtain⟨cd,hc,hd'⟩:=PySem.W.any_some x.hd;obtain⟨nm,qq,N,bs,hdct,sn,sub,ab,col,dd,k0,k1,k2,k3,k5,lk⟩:=x.cls
 have hcd:cd.mro=.ref C::.ref T::bmV:=by
  unfold clsIn at hc;rw[lk] at hc;cases hc;rfl
 have hm:PySem.W.Looks (model X.prog X.w) s.heap (mroOf (.ref C)) cd.mro:=(PySem.W.looks_clsIn I.kIn hc).andThen .now
 have sub:PySem.W.Looks (model X.prog X.w) s.heap (isInstance (.ref e) (.type "object")) true:=
  J.type.andThen (looks_mroIn I.kIn (by unfold mroIn;rw[hc,Option.bind_some,hcd];rfl))
 have hat:=looks_findIn (M:=model X.prog X.w) I.kIn (show findIn X.K (.ref C) f=some none from n);refine codeAny_call_builtin SF.slot.plain SF.entry (@PySem.W.check_slot (model X.prog X.w) _ _ { s with toks:=s.toks+1 } "object.__setattr__" "object" "__setattr__" (.ref e) [.str f s.toks,u] [] _ SF.kind SF.split sub (SF.args (.ref e) (.str f s.toks) u) ?_);rw[PySem.W.osa_eq,refuse_eq]
 refine wpAny_bind (wpAny_bind (PySem.W.Looks.here (s:={ s with toks:=s.toks+1 }) J.type (wpAny_bind (PySem.W.Looks.here (s:={ s with toks:=s.toks+1 }) hm ?_))));rw[hcd,exc_refuse];refine wpAny_pure (wpAny_bind (PySem.W.Looks.here (s:={ s with toks:=s.toks+1 }) J.type (wpAny_bind (PySem.W.Looks.here (s:={ s with toks:=s.toks+1 }) hat (wpAny_bind (wpAny_pure ?_))))))
 show wpAny _ _ (storeInOwnDict (.ref e) (.ref C) (.str f s.toks) f u false) _ _ _
 have e1b:s.heap.get? e=some ⟨.ref C,some dx,.fields vs,o.slots⟩:=by
  rcases o with⟨oc,od,odt,osl⟩;cases(show oc=_ from e2);cases(show od=_ from e3);cases(show odt=_ from e4);exact e1
 unfold storeInOwnDict;refine wpAny_bind (wpAny_pure ?_);dsimp only;rw[if_neg (by intro z;cases z)];refine wpAny_bind ?_;unfold ownDictForStores instanceDict;refine wpAny_bind (wpAny_loadPart (s:={ s with toks:=s.toks+1 }) e1b ?_);dsimp only;refine wpAny_bind (PySem.W.Looks.here (s:={ s with toks:=s.toks+1 }) (PySem.W.looks_clsIn I.kIn hc) ?_);rw[hd',if_neg (by decide)];refine wpAny_pure ?_
 show wpAny _ _ (storeInDict dx (.str f s.toks) f u) _ _ _;unfold storeInDict;refine wpAny_bind (wpAny_pure (wpAny_bind (wpAny_nsSet1 (s:=⟨s.heap,s.gens,s.drawn,s.toks+1,s.os⟩) hn fun h3 hn3 hs3=>?_)))
 have wi:PySem.Within (fun z=>if z=f then some u else mA z) ((putF f y fs).map (·.1)):=fun z hz'=>by
  by_cases q:z=f
  ·rw[q];exact(keys_putF f y fs).1
  ·refine(keys_putF f y fs).2 z (wA z fun w=>hz' ?_);show (if z=f then some u else mA z)=none;rw[if_neg q];exact w
 have hlen:(putF f y fs).length<=1000:=by have:=length_putF f y fs;omega
 obtain⟨oD',esD,epD,hoD,hdD,hcD⟩:=hn3.count wi;refine wpAny_bind (wpAny_lookBehind hoD (by rw[hdD];exact pastItsLine_dict (Nat.le_trans hcD (by rw[sizeLine_eq,List.length_map];omega))) ?_);refine wpAny_pure (hq _ ?_);refine I.write (x:=dx) (e:=dx) (by rw[hx];trivial) (.inl rfl) (fun b v hb q'=>hs3.extBut _ _ hb q') ⟨_,hoD⟩ (xdO_ok ⟨hlen,_,hn3,fun z=>?_,wi⟩)
 show RelO ((putF f y fs).lookup z) (if z=f then some u else mA z);rw[lookup_putF];by_cases q:z=f
 ·rw[if_pos q,if_pos q];exact ry
 ·rw[if_neg q,if_neg q];exact rA z
theorem exget_ok {dx ar tb}{fs:List (Str×V)}{f y b}{Q:Value->Shared->Prop}(g:hasDictIn X.K C=true)(I:Inv X pins σ H s)(he:H e=some (ExO C e (some dx) ar tb))(hx:H dx=some (XdO dx fs))(n:NoAttr X.K C f)
  (l:fs.lookup f=some y) (ga:∀{o:Obj} {od:Option Obj} {v:Value},InstAt s.heap e o C od->PySem.W.findObj X.K C od f=some (.value v)->PySem.W.handedIn v=true->Q v { s with toks:=s.toks+1 }->wpAny (model X.prog X.w) A (getAttr (.ref e) f b) Q E s)
  (hq:∀u s',Inv X pins σ H s'->RelV y u->Q u s'):wpAny (model X.prog X.w) A (getAttr (.ref e) f b) Q E s:=by
 obtain⟨o,vs,e1,e2,e3,e4,e5,e6,eT⟩:=ex_get I he;obtain⟨hzl,mA,hn,rA,wA⟩:=(show XdAt dx fs s.heap from (I.hok dx _ hx).1);obtain⟨oD,q,hl⟩:=lookIn_ns hn;obtain⟨u,hu,ru⟩:=RelO.some_of (v:=y) (o:=mA f) (by rw[<- l];exact rA f);exact ga ⟨e1,e2,by unfold PySem.W.notCls;rw[e4],by rw[e3];exact q⟩ (PySem.W.findObj_own g n rfl (by rw[hl,hu])) (handed_of ru) (hq u _ (I.tok _) ru)
end
structure ExG (K:Frag)(C:Addr):Prop where
 ga:findIn K (.ref C) "__getattribute__" = some (some (.builtin "BaseException.__getattribute__"))
 no:findIn K (.ref C) "__getattr__" = some none
 be:mroIn K C (.type "BaseException")=some true
 hd:hasDictIn K C=true
 ca:findIn K (.ref C) "__class__" = some (some (.builtin "object.__class__"))
 cn:specialIn K (.builtin "object.__class__") "__get__" = some (some (.builtin "getset_descriptor.__get__"))
 ct:takesIn K (.builtin "object.__class__")=some true
 ob:mroIn K C (.type "object")=some true
 ki:subIn K (.ref C) (.type "int")=some false
 kb:subIn K (.ref C) (.type "bool")=some false
 kl:subIn K (.ref C) (.type "list")=some false
 kt:subIn K (.ref C) (.type "tuple")=some false
def foundRun (r:Found)(e C:Addr)(name:Str):Sem PySem.Fin:=match r with
 | .value v=>ret v
 | .bind g a=>bindTo g a (.ref e) (.ref C)
 | .missing=>noSuchAttribute (.ref e) name
section
variable {prog:Program}{w:World}{A:Around}{E:Value->Shared->Prop}{s:Shared}{K:Frag}{e C:Addr}{o:Obj}{od:Option Obj}{name:Str}
theorem exga_by {fill expr tk}{r:Found}{Q:Value->Shared->Prop}(x:ExG K C)(X:K.In s.heap)(I:InstAt s.heap e o C od)(hf:PySem.W.findObj K C od name=some r)(hr:r≠.missing)
  (h:wpAny (model prog w) A.in1 (foundRun r e C name) (fun fin s'=>match fin with|.done (.ret v)=>wpAny (model prog w) A (handedOut v) Q E s'|_=>False) (fun _ _=>False) s) :
  wpAny (model prog w) A (getAttrBy (.ref e) (.str name tk) fill expr) Q E s:=by
 have SL:=PySem.F.attr_ValueError.ga;unfold getAttrBy;refine wpAny_holding (wpAny_bind (I.type.here (wpAny_bind ((looks_findIn X x.ga).here ?_))));dsimp only;rw[if_neg (by rw[show (Value.builtin "BaseException.__getattribute__" == Value.builtin "object.__getattribute__")=false from by decide +kernel,Bool.and_false];decide)];unfold getAttrByItsOwn
 refine wpAny_bind ((PySem.W.looks_hook (mc:=.ref C) X (r:=none) (by rw[if_pos (by rfl)];exact x.no)).here (wpAny_bind (wpAny_attempt (wpAny_holding ?_))));unfold callGetattribute;rw[if_neg (by rw[show onTheHeap (Value.builtin "BaseException.__getattribute__")=false from rfl,Bool.and_false];decide)];unfold boundAndCalled;rw[SL.bind];refine wpAny_bind (wpAny_pure ?_)
 show wpAny _ _ (call (.builtin "BaseException.__getattribute__") [.ref e,.str name tk]) _ _ _;refine wpAny_call (codeAny_call_builtin SL.plain PySem.F.entry_bexc_ga ?_)
 refine @PySem.W.check_slot (model prog w) _ _ s "BaseException.__getattribute__" "BaseException" "__getattribute__" (.ref e) [.str name tk] [] _ (by decide +kernel) (by decide +kernel) (I.type.andThen (looks_mroIn X x.be)) (PySem.F.args_bexc_ga (.ref e) (.str name tk)) ?_
 delta Builtin.«object.__getattribute__»
 refine wpAny_bind (wpAny_pure (wpAny_bind (wpAny_pure (wpAny_bind (I.type.here (wpAny_bind ((PySem.W.looks_find X I hf).here ?_)))))));refine wpAny_mono (show wpAny (model prog w) A.in1 _ (fun fin s'=>match fin with|.done (.ret v)=>wpAny (model prog w) A (handedOut v) Q E s'|_=>False) (fun _ _=>False) s from ?_) (fun fin s' z=>?_) fun _ _ z=>z.elim
 ·cases r with
  | value v=>exact h
  | bind g a=>exact h
  | missing=>exact absurd rfl hr
 ·rcases fin with(_|_|_|_)|_<;>first|exact z|exact z.elim
theorem exga_value {v}{expr:Bool}{Q:Value->Shared->Prop}(x:ExG K C)(X:K.In s.heap)(I:InstAt s.heap e o C od)(hf:PySem.W.findObj K C od name=some (.value v))(hh:PySem.W.handedIn v=true)
  (h:Q v { s with toks:=s.toks+1 }):wpAny (model prog w) A (getAttr (.ref e) name expr) Q E s:=by
 unfold getAttr;refine wpAny_bind (wpAny_mkText (exga_by (s:={ s with toks:=s.toks+1 }) x X I hf (fun z=>nomatch z) (wpAny_pure ?_)));show wpAny (model prog w) _ (handedOut v) _ _ _;rw[PySem.W.handedOut_of hh];exact wpAny_pure h
theorem exga_class {Q:Option Value->Shared->Prop}(x:ExG K C)(X:K.In s.heap)(I:InstAt s.heap e o C od)(h:Q (some (.ref C)) { s with toks:=s.toks+1 }):wpAny (model prog w) A (getAttr? (.ref e) "__class__") Q E s:=by
 have hf:PySem.W.findObj K C od "__class__" = some (.bind (.builtin "getset_descriptor.__get__") (.builtin "object.__class__")):=by
  obtain⟨cd,hc,_⟩:=PySem.W.any_some x.hd;unfold PySem.W.findObj;rw[hc,Option.bind_some,x.ca,Option.bind_some];simp[x.cn,x.ct]
 unfold getAttr? getAttrBy?;refine wpAny_bind (wpAny_mkText (wpAny_bind (wpAny_attempt (exga_by (s:={ s with toks:=s.toks+1 }) x X I hf (fun z=>nomatch z) ?_))));show wpAny _ _ (holding [.builtin "object.__class__"] (call (.builtin "getset_descriptor.__get__") [.builtin "object.__class__",.ref e,.ref C]) >>= ret) _ _ _
 refine wpAny_bind (wpAny_holding (wpAny_call (PySem.W.class_get (s:={ s with toks:=s.toks+1 }) X I x.ob ?_)));refine wpAny_pure ?_;show wpAny _ _ (handedOut (.ref C)) _ _ _;rw[PySem.W.handedOut_of rfl];refine wpAny_pure ?_;exact wpAny_pure h
theorem kitx_exc {dx ar tb}(x:ExG K C):PySem.W.KitX K (.ref e) (.ref C) (fun h=>ExAt C e dx ar tb h/\∀d,dx=some d->∃oD,h.get? d=some oD) where
 ty:=fun _ h X p=>by
  obtain⟨⟨o,vs,e1,e2,_⟩,_⟩:=p;exact e2▸(PySem.W.Looks.ld e1).andThen .now
 it:=fun _ _ X _=>by
  obtain⟨cdD,hcD,_⟩:=PySem.W.any_some x.hd;unfold clsIn at hcD;split at hcD
  ·rename_i c' d' cd' sl' ho
   intro A' Q' E' s' k q;have hk:=k _ _ (X _ _ ho);unfold isType loadHead;exact wpAny_bind (wpAny_loadPart hk (wpAny_pure q))
  ·cases hcD
 ne:=fun _ tp _ _ _ _ X htp=>by
  obtain⟨cdD,hcD,_⟩:=PySem.W.any_some x.hd;by_cases z:C=tp
  case neg=>exact Bool.eq_false_iff.mpr (fun q=>z (Value.ref.inj (beq_iff_eq.mp q)))
  subst z;unfold clsIn at hcD;split at hcD
  ·rename_i c' d' cd' sl' ho
   exact nomatch (X _ _ ho).symm.trans htp
  ·cases hcD
 ca:=fun X p k=>by
  obtain⟨⟨o,vs,e1,e2,e3,e4,_⟩,hD⟩:=p;cases dx with
  | none=>exact exga_class (od:=none) x X ⟨e1,e2,by unfold PySem.W.notCls;rw[e4],by rw[e3];trivial⟩ k
  | some d=>
   obtain⟨oD,q⟩:=hD d rfl;exact exga_class (od:=some oD) x X ⟨e1,e2,by unfold PySem.W.notCls;rw[e4],by rw[e3];exact q⟩ k
end
end L2
namespace L2
open PySem PySem.Spec PyProof.Rows
inductive Thg (K:Frag)(H:Hp):V->Value->Prop where
 | non:Thg K H .non (.type "NoneType")
 | bl (x:Bool):Thg K H (.bl x) (.type "bool")
 | int (i:Int):Thg K H (.int i) (.type "int")
 | str (x:Str):Thg K H (.str x) (.type "str")
 | lst {a:Addr} {xs:List V} (e:H a=some (.lst xs)):Thg K H (.ref a) (.type "list")
 | frz {a:Addr} {o:Obj} {xs:List V} (e:H a=some (.frz o (.lst xs))):Thg K H (.ref a) (.type "list")
 | tup {a:Addr} {xs:List V} (e:H a=some (.tup xs)):Thg K H (.ref a) (.type "tuple")
 | dK {a:Addr} {kvs:List (Key×V)} (e:H a=some (.dK kvs)):Thg K H (.ref a) (.type "dict")
 | exc {a C:Addr} {dx:Addr} {ar tb:Option Addr} {u:HO} (e:H a=some (ExO C a (some dx) ar tb)) (d:H dx=some u) (x:ExG K C):Thg K H (.ref a) (.ref C)
 | exn {a C:Addr} {ar tb:Option Addr} (e:H a=some (ExO C a none ar tb)) (x:ExG K C):Thg K H (.ref a) (.ref C)
theorem Thg.keep {K}{H H':Hp}{v t}(x:Thg K H v t)(k:∀a o,H a=some o->H' a=some o):Thg K H' v t:=by
 cases x with
 | non=>exact .non
 | bl x=>exact .bl x
 | int i=>exact .int i
 | str x=>exact .str x
 | lst e=>exact .lst (k _ _ e)
 | frz e=>exact .frz (k _ _ e)
 | tup e=>exact .tup (k _ _ e)
 | dK e=>exact .dK (k _ _ e)
 | exc e d x=>exact .exc (k _ _ e) (k _ _ d) x
 | exn e x=>exact .exn (k _ _ e) x
section
variable {X:Cx}{pins:List (Addr×Obj)}{σ:St}{H:Hp}{s:Shared}
theorem ObjOk.there {P w}{H:Hp}{h:Heap}{a o}(x:ObjOk P w H h a o):∃ob,h.get? a=some ob:=by
 cases o with
 | lst xs=>obtain⟨_,_,_,_,e⟩:=x;exact⟨_,e⟩
 | tup xs=>obtain⟨_,_,_,⟨ob,e,_⟩,_⟩:=x;exact⟨ob,e⟩
 | dK kvs=>obtain⟨_,_,_,_,o,_,_,e,_⟩:=x;exact⟨o,e⟩
 | dT kvs=>obtain⟨_,_,_,_,o,_,_,e,_⟩:=x;exact⟨o,e⟩
 | set S n=>obtain⟨o,_,_,_,e,_⟩:=x;exact⟨o,e⟩
 | ins C dx fs=>obtain⟨_,_,_,e,_⟩:=x;exact⟨_,e⟩
 | own y=>exact x
 | xd fs=>obtain⟨_,⟨o,_,_,e,_⟩,_⟩:=x;exact⟨o,e⟩
 | rng lo hi=>obtain⟨_,_,_,e⟩:=x;exact⟨_,e⟩
 | frz ob u=>obtain⟨e,_⟩:=x;exact⟨ob,e⟩
 | tbl ps=>exact⟨_,x⟩
 | met f y=>exact⟨_,x⟩
 | ext φ=>exact x.2.1
theorem Thg.kit {v u t}(I:Inv X pins σ H s)(r:RelV v u)(x:Thg X.K H v t):u≠.builtin "__main__.__loader__#opaque"/\∃φ,PySem.W.KitX X.K u t φ/\φ s.heap:=by
 cases x with
 | non=>cases(show u=Value.none from r);exact⟨(fun z=>nomatch z),_,PySem.W.kitx_none,True.intro⟩
 | bl y=>cases(show u=Value.bool y from r);exact⟨(fun z=>nomatch z),_,PySem.W.kitx_bool,True.intro⟩
 | int i=>obtain⟨t,q⟩:=(show ∃t,u=Value.int i t from r);cases q;exact⟨(fun z=>nomatch z),_,PySem.W.kitx_int,True.intro⟩
 | str y=>obtain⟨t,q⟩:=(show ∃t,u=Value.str y t from r);cases q;exact⟨(fun z=>nomatch z),_,PySem.W.kitx_str,True.intro⟩
 | @lst a xs ea=>
  cases(show u=Value.ref a from r);obtain⟨_,_,n,_,h1⟩:=(show ObjOk X.prog X.w H s.heap a (.lst xs) from I.hok a _ ea);exact⟨(fun z=>nomatch z),_,PySem.W.kitx_list,⟨_,h1,rfl⟩⟩
 | @frz a ob xs ea=>
  cases(show u=Value.ref a from r);obtain⟨_,_,_,n,_,h1⟩:=(show ObjOk X.prog X.w H s.heap a (.frz ob (.lst xs)) from I.hok a _ ea);exact⟨(fun z=>nomatch z),_,PySem.W.kitx_list,⟨_,h1,rfl⟩⟩
 | @tup a xs ea=>
  cases(show u=Value.ref a from r);obtain⟨_,_,_,p,_⟩:=(show ObjOk X.prog X.w H s.heap a (.tup xs) from I.hok a _ ea);obtain⟨o,h1,h2,_⟩:=p;exact⟨(fun z=>nomatch z),_,PySem.W.kitx_tuple,⟨o,h1,h2⟩⟩
 | @dK a kvs ea=>
  cases(show u=Value.ref a from r);obtain⟨_,_,vs,_,p⟩:=(show ObjOk X.prog X.w H s.heap a (.dK kvs) from I.hok a _ ea);obtain⟨o,es,ep,h1,h2,_⟩:=p;exact⟨(fun z=>nomatch z),_,PySem.W.kitx_dict,⟨o,h1,h2.1⟩⟩
 | @exc a C dx ar tb w ea ed x=>
  cases(show u=Value.ref a from r);refine⟨(fun z=>nomatch z),_,kitx_exc (dx:=some dx) x,(I.hok a _ ea).1,fun d hd=>?_⟩;cases hd;exact(I.hok dx _ ed).there
 | @exn a C ar tb ea x=>
  cases(show u=Value.ref a from r);exact⟨(fun z=>nomatch z),_,kitx_exc (dx:=none) x,(I.hok a _ ea).1,fun d hd=>nomatch hd⟩
def vOf:V->Value
 | .ty n=>.type n
 | .ref a=>.ref a
 | _=>.none
theorem vals_vOf:∀{cs:List V} {us:List Value},Vals cs us->(∀c∈cs,(∃n,c=.ty n)\/∃a,c=.ref a)->us=cs.map vOf
 | _,_,.nil,_=>rfl
 | c::cs,u::us,.cons r t,h=>by
  rw[List.map_cons,vals_vOf t fun c hc=>h c (List.mem_cons_of_mem _ hc)];rcases h c List.mem_cons_self with⟨n,rfl⟩|⟨a,rfl⟩
  ·cases(show u=Value.type n from r);rfl
  ·cases(show u=Value.ref a from r);rfl
def rInst (K:Frag):List V->Hp->VK->Prop:=fun xs H Q=>∃v c t b,xs=[v,c]/\Thg K H v t /\
  ((∃T,c=.ty T/\kitOne K t (.type T)=some b)\/(∃C,c=.ref C/\kitOne K t (.ref C)=some b) \/
    ∃tp cs,c=.ref tp/\H tp=some (.tup cs)/\(∀c∈cs,(∃n,c=.ty n)\/∃a,c=.ref a)/\kitAny K t (cs.map vOf)=some b)/\Q (.bl b) H
theorem call_inst:CallR X (.builtin "isinstance") (rInst X.K):=by
 intro pins s σ H xs us Q I r h;obtain⟨v,c,t,b,rfl,x,hc,q⟩:=h;obtain⟨u,u',rfl,ru,ru'⟩:=vals2 r;obtain⟨hx,φ,Z,p⟩:=x.kit I ru;have fin:∀tk,EP X pins σ Q (.bool b) { s with toks:=tk }:=fun tk=>⟨.bl b,H,I.tok tk,rfl,q⟩;rcases hc with⟨T,rfl,e⟩|⟨C,rfl,e⟩|⟨tp,cs,rfl,ht,hcs,e⟩
 ·cases(show u'=Value.type T from ru');exact kia_one Z I.kIn p e hx fin
 ·cases(show u'=Value.ref C from ru');exact kia_one Z I.kIn p e hx fin
 ·cases(show u'=Value.ref tp from ru');obtain⟨_,its,rv,⟨o,h1,h2,n,h3⟩,_⟩:=(show ObjOk X.prog X.w H s.heap tp (.tup cs) from I.hok tp _ ht);rcases o with⟨oc,od,odt,osl⟩;cases(show oc=_ from h2);cases(show odt=_ from h3);rw[<- vals_vOf rv hcs] at e;exact PySem.W.kia_tup Z I.kIn p h1 e hx fin
end
section
variable {X:Cx}{C T fI:Addr}
def tEx (C:Addr)(sp:Sp)(t:TA):TE:=fun σ H Q=>t σ H fun vs H1=>vs.length<=sizeLine/\∀e,H1 e=none->sp (.ref e::vs) (upd H1 e (ExO C e none none none)) (fun v H2=>v=.non/\Q (.ref e) H2) E0
theorem pe_exc {k:Nat}{fd ps sp x}{p pos:Pos}{e es t}(M:ExF X.K C T fI)(F:FnOk X.prog X.w X.K X.mg X.base CX0 k fI fd ps sp)(hr:Room (k+1) X.A)(hg:Gl X x)(hm:X.mg x=some (.ref C))
  (hb:Binds X.K fd ps []) (ha:PA X (e::es) t) (hdb:(x==("__debug__" : Str))=false:=by decide) (he:starEach (e::es) X.env=(false,eval e X.env)::starEach es X.env:=by rfl) (hpl:(backTo pos (starEach es X.env)).any (·.1)=false:=by rfl) :
  PE X (.Call (.Name x p) (e::es) [] pos) (tEx C sp t):=by
 intro pins s σ H Q I h;refine wpAny_Call_Name_kw (ld_glob I hg hm ?_ hdb);refine PySem.W.callWith_K (h₀:=X.base) I.ok.mod.kin M.kp (thn (ha pos pins s σ H _ I h) fun us s1 ⟨vs,H1,I1,r,hz,q⟩=>⟨I1.kIn,?_⟩) he hpl;obtain⟨hp,g,d,tk,os⟩:=s1;refine exc_call M.toExC I1.kIn (fun h' e hm hle=>?_) (by rw[List.nil_append,<- r.length];exact hz);obtain⟨hk,hn,tt,h1,_,h2⟩:=hm
 have I2:Inv X pins σ (upd H1 e (ExO C e none none none)) ⟨h',g,d,tk,os⟩:=I1.laid (a:=e) (o:=ExO C e none none none) (h':=h') (t':=tk) hk hle (exO_ok ⟨_,_,h1,rfl,rfl,rfl,by show 0<6;decide,(fun t z=>nomatch z),rfl⟩);have hq:=q e (I1.hok.fresh hle);have r2:Vals (V.ref e::vs) (Value.ref e::us):=.cons rfl r
 have hl:(Value.ref e::us++[]).length=ps.length:=by
  have e1:=r2.length;rw[F.len _ _ _ _ hq] at e1;rw[List.append_nil];exact e1.symm
 have hbb:=hb ⟨h',g,d,tk,os⟩ (Value.ref e::us) I2.kIn hl;rw[List.append_nil] at hbb;refine wpAny_call (codeAny_mono (F.run _ X.stack _ _ ⟨Value.ref e::us,[]⟩ (Value.ref e::us) _ _ E0 (hr.make C us []) (I2.env0.make C us []) hbb r2 hq) fun rr s' hq'=>?_);cases rr with
 | error e=>exact False.elim hq'
 | ok fl=>
  cases fl with
  | ret u=>
   obtain⟨v,H',I3,rv,ev,q3⟩:=I2.after hq';subst ev;exact⟨rv,⟨V.ref e,H',I3,rfl,q3⟩⟩
  | next=>exact False.elim hq'
  | brk=>exact False.elim hq'
  | cont=>exact False.elim hq'
def tBI (C:Addr)(t:TA):TE:=fun σ H Q=>t σ H fun vs H1=>∃e dx ar tb rest,vs=.ref e::rest/\rest.length<=sizeLine/\H1 e=some (ExO C e dx ar tb)/\∀t,H1 t=none->t≠e->Q .non (upd (upd H1 t (.tup rest)) e (ExO C e dx (some t) tb))
theorem pe_baseInit {pl:Sem Bool}{x}{p apos pos:Pos}{e es t}(M:ExF X.K C T fI)(B:BaseInit X.K T)(hg:Gl X x)(hm:X.mg x=some (.ref T))(ha:PA X (e::es) t)
  (hdb:(x==("__debug__" : Str))=false:=by decide) (he:starEach (e::es) X.env=(false,eval e X.env)::starEach es X.env:=by rfl) (hpl:(backTo pos (starEach es X.env)).any (·.1)=false:=by rfl)
  (ht:eval (.Call (.Attribute (.Name x p) "__init__" apos) (e::es) [] pos) X.env=(do
   let ov <- eval (.Name x p) X.env
   standAt apos.atName
   let(f,first) <- holding [ov] (getMethod ov "__init__" pl)
   callWith pos f first (backTo pos (starEach (e::es) X.env)) (backToKw pos (keywordEach [] X.env))):=by rfl) :
  PE X (.Call (.Attribute (.Name x p) "__init__" apos) (e::es) [] pos) (tBI C t):=by
 intro pins s σ H Q I h;refine PySem.W.methodCall_KW (pl:=pl) (ld_glob I hg hm ?_ hdb) ht;refine PySem.W.method_cls I.kIn B.ga (PySem.W.cls_value I.kIn B.rd B.at_ (by decide +kernel) ?_);refine PyProof.Rows.callWith_builtin1 (thn (ha pos pins { s with toks:=s.toks+1 } σ H _ (I.tok _) h) fun us s1 ⟨vs,H1,I1,r,q⟩=>?_) he hpl;obtain⟨e',dx,ar,tb,rest,rfl,hz,hE,q⟩:=q;cases r with
 | cons r1 r2=>
  cases r1;exact init_text M I1 hE r2 (by rw[<- r2.length];exact hz) fun t s' f1 f2 I'=>⟨.non,_,I',rfl,q t f1 f2⟩
def sExF (K:Frag)(C:Addr)(ta tv:TE)(f:Str):TS:=fun D σ H=>tv σ H fun y H1=>ta σ H1 fun x H2=>∃e ar tb,x=.ref e/\H2 e=some (ExO C e none ar tb)/\NoAttr K C f /\
 ∀dx,H2 dx=none->dx≠e->D.nx σ (upd (upd H2 dx (XdO dx [(f,y)])) e (ExO C e (some dx) ar tb))
theorem ps_exf {o value f}{pos pos':Pos}{ta tv}(M:ExF X.K C T fI)(ha:PE X o ta)(hv:PE X value tv)(hs:swapsWith value (some (.Attribute o f pos')) pos.line X.env=pure false):PS X (.Assign [.Attribute o f pos'] value pos) (sExF X.K C ta tv f):=by
 intro pins s σ H D I h;refine plainObj_wpAny_Assign_Attribute (thn (hv pins s σ H _ I h) fun u s1 ⟨y,H1,I1,ry,q⟩=>thn (ha pins s1 σ H1 _ I1 q) fun ov s2 ⟨x,H2,I2,rx,e,ar,tb,ex,ea,n,q2⟩=>?_) hs;subst ex;obtain rfl:ov=Value.ref e:=rx;exact exset_ok M I2 ea n ry fun dx s3 h1 h2 I3=>⟨σ,_,I3,q2 dx h1 h2⟩
def sExF2 (K:Frag)(C:Addr)(ta tv:TE)(f:Str):TS:=fun D σ H=>tv σ H fun y H1=>ta σ H1 fun x H2=>∃e dx ar tb fs,x=.ref e/\H2 e=some (ExO C e (some dx) ar tb)/\H2 dx=some (XdO dx fs)/\fs.length<1000/\NoAttr K C f /\
 D.nx σ (upd H2 dx (XdO dx (putF f y fs)))
theorem ps_exf2 {o value f}{pos pos':Pos}{ta tv}(M:ExF X.K C T fI)(ha:PE X o ta)(hv:PE X value tv)(hs:swapsWith value (some (.Attribute o f pos')) pos.line X.env=pure false):PS X (.Assign [.Attribute o f pos'] value pos) (sExF2 X.K C ta tv f):=by
 intro pins s σ H D I h;refine plainObj_wpAny_Assign_Attribute (thn (hv pins s σ H _ I h) fun u s1 ⟨y,H1,I1,ry,q⟩=>thn (ha pins s1 σ H1 _ I1 q) fun ov s2 ⟨x,H2,I2,rx,e,dx,ar,tb,fs,ex,ea,ed,hz,n,q2⟩=>?_) hs;subst ex;obtain rfl:ov=Value.ref e:=rx;exact exset2_ok M I2 ea ed hz n ry fun s3 I3=>⟨σ,_,I3,q2⟩
def tExFld (K:Frag)(ta:TE)(f:Str):TE:=fun σ H Q=>ta σ H fun x H1=>∃e C dx ar tb fs y,x=.ref e/\H1 e=some (ExO C e (some dx) ar tb)/\H1 dx=some (XdO dx fs)/\ExG K C/\NoAttr K C f/\fs.lookup f=some y/\Q y H1
theorem pe_exfld {e f pos ta}(he:PE X e ta)(hb:attributeBase e f X.env (eval e X.env)=eval e X.env):PE X (.Attribute e f pos) (tExFld X.K ta f):=by
 intro pins s σ H Q I h;refine attr_of hb (thn (he pins s σ H _ I h) fun u s1 ⟨x,H1,I1,rx,a,C,dx,ar,tb,fs,y,ex,ea,ed,g,n,l,q⟩=>?_);subst ex;obtain rfl:u=Value.ref a:=rx;exact exget_ok g.hd I1 ea ed n l (fun J hf hh hq=>exga_value g I1.kIn J hf hh hq) fun u' s2 I2 ru=>⟨y,H1,I2,ru,q⟩
end
section
variable {prog:Program}{w:World}{A:Around}{E:Value->Shared->Prop}{s:Shared}{K:Frag}{e C t:Addr}{o:Obj}{od:Option Obj}{vs:Array Value}{m:Str}{tk:Tok}{nm:String}
variable {P:Program}{p:Addr}{H H':Hp}{as as':List Addr}{d d':Nat}{v:V}{tx:Str}
end
section
variable {w:World}{K:Frag}{P:Program}{p:Addr}{H H':Hp}{as as':List Addr}{d d':Nat}{v:V}{tx:Str}
end
section
variable {prog:Program}{w:World}{A:Around}{E:Value->Shared->Prop}{K:Frag}{T:Addr}{h:Heap}{g:Array GenState}{d:Drawn}{t:Nat}{os:OsState}
end
section
variable {X:Cx}{pins:List (Addr×Obj)}{σ:St}{H:Hp}{s:Shared}{T e:Addr}{A:Around}{E:Value->Shared->Prop}
end
section
variable {X:Cx}{pins:List (Addr×Obj)}{σ:St}{H:Hp}{s:Shared}{h':Heap}{C e:Addr}{A:Around}{E:Value->Shared->Prop}
theorem Inv.slots (I:Inv X pins σ H s)(x:Heap.SlotsOnly (frs X.stack) s.heap h'):Inv X pins σ H { s with heap:=h' }:=by
 have nf:∀b o,H b=some o->b∉frs X.stack:=fun b o q m=>by rw[I.stkFree b m] at q;cases q
 refine I.call (g':=s.gens) (t':=s.toks) (d':=s.drawn) (ch:=[]) ⟨fun b o q n hb _=>(x.2.1 b hb).trans q,fun b o q _ _ _=>x.2.2 b o q,fun _ _ _ n _=>n,fun b o q _=>let⟨_,z⟩:=x.2.2 b o q;⟨_,z⟩,fun _ _ q=>q,fun _ _ _ q=>q,fun b ps q=>⟨#[],by rw[q];simp⟩⟩ (fun a o q=>?_) I.bare (fun _ z=>nomatch z);refine(I.hok a o q).stay (fun b u hb z=>?_) (fun _ z=>z) fun _ _ z=>z;rcases hb with rfl|hb
 ·exact(x.2.1 _ (nf _ _ q)).trans z
 ·exact(x.2.1 _ (nf _ _ hb)).trans z
def TbAt (b:Addr)(h:Heap):Prop:=∃(o:Obj) (ts:Array Value),h.get? b=some o/\o.data=.fields ts/\ts[3]?=some .none
def TbO (b:Addr):HO:=.ext (TbAt b)
theorem tbO_ok {P w}{H:Hp}{h b}(x:TbAt b h):ObjOk P w H h b (TbO b):=by
 refine⟨x,?_,fun h1 h2 q k=>?_⟩
 ·obtain⟨o,_,e1,_⟩:=x;exact⟨o,e1⟩
 ·obtain⟨o,ts,e1,r⟩:=q;exact⟨o,ts,k o e1,r⟩
theorem note_ok {dx ar tb}{Q:Unit->Shared->Prop}(hst:X.stack=X.env::X.outer)(hfr:X.env.frame=some X.env.locals)(I:Inv X pins σ H s)(he:H e=some (ExO C e dx ar tb))(ht:∀b,tb=some b->H b=some (TbO b)/\b≠e)
  (hA:A.frames=some X.stack) (hq:∀b' s',H b'=none->b'≠e->Inv X pins σ (upd (upd H b' (TbO b')) e (ExO C e dx ar (some b'))) s'->Q () s'):wpAny (model X.prog X.w) A (noteFrame (.ref e) X.env) (fun _ s'=>wpAny (model X.prog X.w) A (setFlight (.ref e) none) Q E s') E s:=by
 obtain⟨o,vs,e1,e2,e3,e4,e5,e6,eT⟩:=ex_get I he;have h1:1<vs.size:=(Array.getElem?_eq_some_iff.mp eT).1
 -- the entry is made, stored, and its flight is ended
 have tail:∀{s1:Shared} {hd:Value} {nx:Bool},Inv X pins σ H s1->s1.heap.get? e=some o->wpAny (model X.prog X.w) A (do let a <- frameOf X.env;let pl <- entryPlaceOf X.env.locals nx;let b <- EntryCells.newEntry hd a .none (rawInt X.env.locals) .none pl;setField (.ref e) 1 b)
   (fun _ s2=>wpAny (model X.prog X.w) A (setFlight (.ref e) none) Q E s2) E s1:=fun {s1 hd nx} I1 q1=>by
  rw[hst] at hA;have fr:s1.heap.FunFrames X.base (X.env::X.outer):=by have:=I1.stack;rw[hst] at this;exact this
  refine wpAny_bind (wpAny_frameOf_fun hA fr hfr fun h2 hs2=>?_);have I2:Inv X pins σ H { s1 with heap:=h2 }:=I1.slots (by rw[hst];exact hs2)
  have ne:e∉(X.env::X.outer).filterMap (·.frame):=fun m=>by
   have:=I1.stkFree e (by rw[hst];exact m);rw[he] at this;cases this
  have q2:h2.get? e=some o:=(hs2.2.1 e ne).trans q1;refine wpAny_bind (wpAny_entryPlaceOf fun pl hpl=>?_);unfold EntryCells.newEntry newFields;refine wpAny_bind (wpAny_newObj_type ?_ (hpl.sizeOk5 _ _ _ _ _));generalize hob:({ cls:=.type "traceback",data:=.fields ([hd,.ref X.env.locals,.none,rawInt X.env.locals,.none]++(if pl.isEmpty then List.replicate 6 Value.none else pl)).toArray }:Obj)=ob
  have obd:∃ts,ob.data=.fields ts/\3<ts.size:=by
   rw[<- hob];exact⟨_,rfl,by simp⟩
  obtain⟨ts,d1,d2⟩:=obd;have nb:h2.objs.size≠e:=Nat.ne_of_gt (Heap.lt_size q2);have q3:=Heap.get?_push_of_some (h:=h2) ob q2;refine wpAny_setField q3 e4 h1 ?_;have d3:=Obj.data_mapFields e4 (·.setIfInBounds 1 (Value.ref h2.objs.size));have q4:=Heap.get?_update_self (Obj.mapFields (·.setIfInBounds 1 (Value.ref h2.objs.size))) q3 (Obj.isFreed_of_fields d3)
  have q5:((h2.push ob).update e (Obj.mapFields (·.setIfInBounds 1 (Value.ref h2.objs.size)))).get? h2.objs.size=some ob:=(Heap.get?_update_other _ _ (Ne.symm nb)).trans (Heap.get?_push_size h2 (Obj.isFreed_of_fields d1));unfold setFlight;refine wpAny_bind (wpAny_field q4 d3 (x:=.ref h2.objs.size) (by simp[h1]) ?_);rw[if_pos (show (Value.ref h2.objs.size != Value.none)=true from by simp)]
  refine wpAny_setField q5 d1 d2 ?_;generalize hh3:(h2.push ob).update e (Obj.mapFields (·.setIfInBounds 1 (Value.ref h2.objs.size)))=h3 at q4 q5;have d5:=Obj.data_mapFields d1 (·.setIfInBounds 3 Value.none);have q6:=Heap.get?_update_self (Obj.mapFields (·.setIfInBounds 3 Value.none)) q5 (Obj.isFreed_of_fields d5)
  have q7:(h3.update h2.objs.size (Obj.mapFields (·.setIfInBounds 3 Value.none))).get? e=some (Obj.mapFields (·.setIfInBounds 1 (Value.ref h2.objs.size)) o):=(Heap.get?_update_other _ _ nb).trans q4;have fb:H h2.objs.size=none:=I2.hok.fresh (Nat.le_refl _);refine hq h2.objs.size _ fb nb ?_
  -- first the entry, as it stands at last; then the error
  have obf:(Obj.mapFields (·.setIfInBounds 3 Value.none) ob).isFreed=false:=Obj.isFreed_of_fields d5
  have I3:=I2.laid (a:=h2.objs.size) (o:=TbO h2.objs.size) (h':=h2.push (Obj.mapFields (·.setIfInBounds 3 Value.none) ob)) (t':=s1.toks) (fun b u q=>Heap.get?_push_of_some _ q) (Nat.le_refl _)
   (tbO_ok ⟨_,_,Heap.get?_push_size h2 obf,d5,by simp[d2]⟩)
  refine I3.write (x:=e) (e:=e) (t':=s1.toks) (by rw[upd_ne (Ne.symm nb),he];trivial) (.inl rfl) (fun b u hb q=>?_) ⟨_,q7⟩ (exO_ok ⟨_,_,q7,(Obj.cls_mapFields ..).trans e2,?_,d3,by simpa using e5,fun t z=>?_,by simp[h1,tbV]⟩)
  ·by_cases hbd:b=h2.objs.size
   ·subst hbd;rw[Heap.get?_push_size h2 obf] at q;cases q;exact q6
   ·rw[Heap.get?_update_other _ _ (Ne.symm hbd),<- hh3,Heap.get?_update_other _ _ (Ne.symm hb)]
    have hlt:b<h2.objs.size:=by
     have z:=Heap.lt_size q;have z2:(h2.push (Obj.mapFields (·.setIfInBounds 3 Value.none) ob)).objs.size=h2.objs.size+1:=Heap.size_push _ _;have z3:b<h2.objs.size+1:=by rw[<- z2];exact z
     exact Nat.lt_of_le_of_ne (Nat.le_of_lt_succ z3) hbd
    have q':h2.get? b=some u:=by
     obtain⟨a1,a2⟩:=Heap.get?_some_iff.mp q;refine Heap.get?_some_iff.mpr ⟨?_,a2⟩;have:(h2.objs.push (Obj.mapFields (·.setIfInBounds 3 Value.none) ob))[b]?=some u:=a1;rw[Array.getElem?_push_lt hlt] at this;simpa[hlt] using this
    exact Heap.get?_push_of_some _ q'
  ·have:(Obj.mapFields (·.setIfInBounds 1 (Value.ref h2.objs.size)) o).dict=o.dict:=by
    rcases o with⟨oc,od,odt,osl⟩;cases(show odt=_ from e4);rfl
   rw[this,e3]
  ·rw[Array.getElem?_setIfInBounds_ne (by decide)];exact e6 t z
 unfold noteFrame;simp only[hfr];refine wpAny_bind (wpAny_field e1 e4 eT ?_);cases tb with
 | none=>
  rw[if_neg (show ¬((tbV none != Value.none)=true) from by simp[tbV])];exact tail I e1
 | some b=>
  obtain⟨hb,nb⟩:=ht b rfl;obtain⟨ob,ts,b1,b2,b3⟩:=(show TbAt b s.heap from (I.hok b _ hb).1);have b4:3<ts.size:=(Array.getElem?_eq_some_iff.mp b3).1;rw[if_pos (show (tbV (some b) != Value.none)=true from by simp[tbV])];refine wpAny_bind (wpAny_field b1 b2 b3 ?_);rw[if_neg (show ¬((Value.none==rawInt X.env.locals)=true) from by simp[rawInt])];refine wpAny_bind (wpAny_setField b1 b2 b4 ?_)
  have d5:=Obj.data_mapFields b2 (·.setIfInBounds 3 Value.none);have q6:=Heap.get?_update_self (Obj.mapFields (·.setIfInBounds 3 Value.none)) b1 (Obj.isFreed_of_fields d5)
  have I1:=I.write (x:=b) (e:=b) (o:=TbO b) (t':=s.toks) (h':=s.heap.update b (Obj.mapFields (·.setIfInBounds 3 Value.none))) (by rw[hb];trivial) (.inl rfl) (fun c u hc q=>(Heap.get?_update_other _ _ (Ne.symm hc)).trans q) ⟨_,q6⟩ (tbO_ok ⟨_,_,q6,d5,by simp[b4]⟩)
  have eH:upd H b (TbO b)=H:=by
   funext c
   by_cases hc:c=b
   ·rw[hc,upd_same,hb]
   ·rw[upd_ne hc]
  rw[eH] at I1;exact tail I1 ((Heap.get?_update_other _ _ nb).trans e1)
theorem leave_ok {dx ar tb}{Q:Unit->Shared->Prop}(hst:X.stack=X.env::X.outer)(hfr:X.env.frame=some X.env.locals)(I:Inv X pins σ H s)(he:H e=some (ExO C e dx ar tb))(ht:∀b,tb=some b->H b=some (TbO b)/\b≠e)
  (hA:A.frames=some X.stack) (hq:∀b' s',H b'=none->b'≠e->Inv X pins σ (upd (upd H b' (TbO b')) e (ExO C e dx ar (some b'))) s'->Q () s'):wpAny (model X.prog X.w) A (leaving X.env (.ref e)) Q E s:=by
 unfold leaving;exact wpAny_bind (note_ok hst hfr I he ht hA hq)
end
def CXo (P:Program)(w:World):CXT:=fun outer H s E e s'=>CE outer P w H s (fun v H'=>(∃a,v=.ref a)/\E e none H') e s'
def Fly (C e:Addr)(dx ar tb:Option Addr)(H:Hp):Prop:=H e=some (ExO C e dx ar tb)/\∀b,tb=some b->H b=some (TbO b)/\b≠e
def past (H:Hp)(C e:Addr)(dx ar:Option Addr)(b:Addr):Hp:=upd (upd H b (TbO b)) e (ExO C e dx ar (some b))
def Outs (X:Cx)(E:XK):Prop:=∀(pins:List (Addr×Obj)) (σ:St) (H:Hp) (s:Shared) (C e:Addr) (dx ar tb:Option Addr),Inv X pins σ H s->Fly C e dx ar tb H->(∀b,H b=none->b≠e->E (.ref e) none (past H C e dx ar b))->X.xe (.ref e) s
theorem outs_def {P w K}{mg:Str->Option Value}{base N qual scope f cd}{A:Around}{outer:List Env}{s₀:Shared}{H₀:Hp}{E} :
  Outs (cxOf (CXo P w) P w K mg base N qual scope f cd A outer s₀ H₀ E) E:=fun pins σ H s C e dx ar tb I fl h=>by
 refine leave_ok (X:=cxOf (CXo P w) P w K mg base N qual scope f cd A outer s₀ H₀ E) rfl rfl I fl.1 fl.2 I.ok.frames fun b s' f1 f2 J=>?_;exact⟨.ref e,_,J.os,J.bare,J.base,J.hok,rfl,⟨e,rfl⟩,h b f1 f2⟩
def goOn (E:XK):XK:=fun v _ H=>∃C e dx ar tb,v=.ref e/\Fly C e dx ar tb H/\∀b,H b=none->b≠e->E (.ref e) none (past H C e dx ar b)
theorem Outs.pass {X:Cx}{E}(o:Outs X E):Passes (CXo X.prog X.w) X (goOn E):=fun pins σ H s e s' I h=>by
 obtain⟨v,H',I',rv,q⟩:=I.after h;obtain⟨⟨a,rfl⟩,C,e',dx,ar,tb,ee,fl,k⟩:=q;cases(show e=Value.ref a from rv);cases ee;exact o pins σ H' s' C _ dx ar tb I' fl k
structure ExR (K:Frag)(C:Addr):Prop where
 be:mroIn K C (.type "BaseException")=some true
 ty:typeIn K (.ref C)=some (.type "type")
section
variable {X:Cx}{E:XK}{x:Expr}{tx:TE}{pos:Pos}
def tRaise (K:Frag)(E:XK)(tx:TE):TS:=fun D σ H=>tx σ H fun v H1=>∃C e dx ar,v=.ref e/\ExR K C/\Fly C e dx ar none H1/\∀b,H1 b=none->b≠e->E (.ref e) none (past H1 C e dx ar b)
theorem ps_raise (o:Outs X E)(hc:X.calm=true)(h:PE X x tx):PS X (.Raise (some x) none pos) (tRaise X.K E tx):=by
 intro pins s σ H D I q;rw[arm_exec_Raise];refine wpAny_bind (wpAny_standAt ?_);show wpAny _ _ (raiseStmt X.env (some (do let v <- eval x X.env;standAt pos;pure v)) none) _ _ _;unfold raiseStmt;refine wpAny_bind (wpAny_bind (thn (h pins s σ H _ I q) fun v s1 ⟨y,H1,I1,ry,C,e,dx,ar,ey,r,fl,k⟩=>wpAny_bind (wpAny_standAt (wpAny_pure ?_))));subst ey;obtain rfl:v=Value.ref e:=ry
 obtain⟨ob,vs,e1,e2,e3,e4,e5,e6,eT⟩:=ex_get I1 fl.1;have J:PySem.W.Looks (model X.prog X.w) s1.heap (typeOf (.ref e)) (.ref C):=e2▸(PySem.W.Looks.ld e1).andThen .now
 have nt:∀{A:Around} {R:Bool->Shared->Prop} {E':Value->Shared->Prop},R false s1->wpAny (model X.prog X.w) A (isType (.ref e)) R E' s1:=fun {A R E'} hr=>by
  unfold isType loadHead;refine wpAny_bind (wpAny_loadPart e1 ?_);rw[e4];exact wpAny_pure hr
 have inst:PySem.W.Looks (model X.prog X.w) s1.heap (isInstance (.ref e) (.type "BaseException")) true:=J.andThen (looks_mroIn I1.kIn r.be);dsimp only;refine wpAny_bind (wpAny_pure (wpAny_bind (wpAny_holding ?_)));unfold excFromValue isExcClass;refine wpAny_bind (wpAny_bind (nt ?_));rw[if_neg Bool.false_ne_true];refine wpAny_pure ?_;rw[if_neg Bool.false_ne_true];refine wpAny_bind (inst.here ?_)
 rw[if_pos rfl];refine wpAny_pure (wpAny_bind (nt ?_));rw[if_neg Bool.false_ne_true];refine wpAny_bind ?_;unfold raisedInstance;refine wpAny_bind (J.here (wpAny_bind ((PySem.W.looks_typeIn I1.kIn r.ty).here ?_)));rw[if_pos (by decide)];refine wpAny_pure (wpAny_bind ?_);unfold setFlight;refine wpAny_bind (wpAny_field e1 e4 eT ?_)
 rw[if_neg (show ¬((tbV none != Value.none)=true) from by simp[tbV])];refine wpAny_pure ?_;unfold raiseNew;refine wpAny_bind (wpAny_handled ?_);rw[I1.ok.hd hc];have fin:=o pins σ H1 s1 C e dx ar none I1 fl k
 first
  | exact wpAny_throw fin
  | exact wpAny_bind (wpAny_pure (wpAny_throw fin))
end
def Cx.held (X:Cx)(e:Addr):Cx:={ X with A:=X.A.mark (some (.ref e)),calm:=false,xe:=fun _ _=>False }
def Cx.tried (X:Cx)(pins:List (Addr×Obj))(xe:Value->Shared->Prop):Cx:={ X with pn:=X.pn++pins,xe:=xe }
section
variable {X:Cx}{pins:List (Addr×Obj)}{σ:St}{H:Hp}{s:Shared}{h':Heap}{e:Addr}
theorem Inv.held (I:Inv X pins σ H s)(e:Addr):Inv (X.held e) pins σ H s:=
 ⟨{ I.ok with hd:=fun z=>nomatch (show false=true from z) },I.os,I.bare,I.base,I.loc,I.cell,I.free,I.freeC,I.pin,I.hok,I.len⟩
theorem Inv.unheld (k:X.Ok)(I:Inv (X.held e) pins σ H s):Inv X pins σ H s:=⟨k,I.os,I.bare,I.base,I.loc,I.cell,I.free,I.freeC,I.pin,I.hok,I.len⟩
theorem Inv.tried {xe:Value->Shared->Prop}(I:Inv X pins σ H s):Inv (X.tried pins xe) [] σ H s:=
 ⟨{ I.ok with },I.os,I.bare,I.base,I.loc,I.cell,I.free,I.freeC,fun p hp=>I.pin p (by have:p∈(X.pn++pins)++[]:=hp;rwa[List.append_nil] at this),I.hok,I.len⟩
theorem Inv.untried {xe:Value->Shared->Prop}{pins'}(I:Inv (X.tried pins xe) pins' σ H s):Inv X pins σ H s:=
 ⟨{ I.ok with },I.os,I.bare,I.base,I.loc,I.cell,I.free,I.freeC,fun p hp=>I.pin p (List.mem_append_left _ hp),I.hok,I.len⟩
theorem Inv.bare_frame {m':Str->Option Value}{t':Nat}(I:Inv X pins σ H s)(hn:h'.Ns X.env.locals m')(hs:Heap.SameBut X.env.locals s.heap h'):Inv X pins (List.replicate X.N.length none) H { s with heap:=h',toks:=t' }:=by
 obtain⟨m,⟨oL,_,_,hoL,_⟩,_⟩:=id I.loc;have lt:∀{b:Addr} {o:Obj},X.s₀.heap.get? b=some o->b≠X.env.locals:=fun e=>Nat.ne_of_lt (Nat.lt_of_lt_of_le (Heap.lt_size e) I.ok.above)
 refine⟨I.ok,I.os,I.bare,⟨fun b o e n hb hx=>(hs.2 b (lt e)).trans (I.base.keep b o e n hb hx),fun b o e n hb hx=>?_,I.base.free,fun b o e hx=>?_,I.base.tups,I.base.frzs,I.base.tbls⟩,⟨m',hn,fun j y v e1 e2 _=>?_⟩,fun y c q=>?_,I.free,I.freeC,fun p hp=>?_,fun b ob q=>?_,by simp⟩
 ·obtain⟨sl,e1⟩:=I.base.slot b o e n hb hx;exact⟨sl,(hs.2 b (lt e)).trans e1⟩
 ·obtain⟨o',e1⟩:=I.base.there b o e hx;exact⟨o',(hs.2 b (lt e)).trans e1⟩
 ·simp[List.getElem?_replicate] at e2
 ·obtain⟨v,o,ho,hd⟩:=I.cell y c q;exact⟨v,o,(hs.2 c (I.cne y c q)).trans ho,hd⟩
 ·obtain⟨p1,p2,p3,p4,p5⟩:=I.pin p hp;exact⟨(hs.2 _ p3).trans p1,p2,p3,p4,p5⟩
 ·refine(I.hok b ob q).stay (fun c w' hc z=>(hs.2 c ?_).trans z) (fun _ z=>z) fun _ _ z=>z;rintro rfl;rcases hc with rfl|hc
  ·rw[I.free] at q;cases q
  ·rw[I.free] at hc;cases hc
structure ExM (K:Frag)(D:Addr):Prop where
 be:mroIn K D (.type "BaseException")=some true
 ty:typeIn K (.ref D)=some (.type "type")
 cl:(clsIn K D).isSome=true
theorem matches_ok {A:Around}{E:Value->Shared->Prop}{C D dx ar tb b}{Q:Bool->Shared->Prop}(I:Inv X pins σ H s)(he:H e=some (ExO C e dx ar tb))(m:ExM X.K D)(hb:mroIn X.K C (.ref D)=some b)(q:Q b s) :
  wpAny (model X.prog X.w) A (excMatches (.ref e) (.ref D)) Q E s:=by
 obtain⟨ob,vs,e1,e2,e3,e4,e5,e6,eT⟩:=ex_get I he;have J:PySem.W.Looks (model X.prog X.w) s.heap (typeOf (.ref e)) (.ref C):=e2▸(PySem.W.Looks.ld e1).andThen .now;obtain⟨cd,hc⟩:=Option.isSome_iff_exists.mp m.cl
 have isT:∀{A:Around} {R:Bool->Shared->Prop} {E':Value->Shared->Prop},R true s->wpAny (model X.prog X.w) A (isType (.ref D)) R E' s:=fun {A R E'} hr=>by
  unfold clsIn at hc;split at hc
  ·rename_i c' d' cd' sl' ho
   unfold isType loadHead;exact wpAny_bind (wpAny_loadPart (I.kIn _ _ ho) (wpAny_pure hr))
  ·cases hc
 have nt:PySem.W.Looks (model X.prog X.w) s.heap (isInstance (.ref D) (.type "tuple")) false:=(PySem.W.looks_typeIn I.kIn m.ty).andThen (PySem.W.looks_subIn I.kIn (K:=X.K) (t:=.type "type") (base:=.type "tuple") (by rfl));unfold excMatches;refine wpAny_bind (nt.here ?_);dsimp only;rw[if_neg Bool.false_ne_true];refine wpAny_bind (wpAny_pure ?_);refine wpAny_bind ?_;rw[List.forIn_cons]
 refine wpAny_bind (wpAny_bind ?_);unfold isExcClass;refine wpAny_bind (isT ?_);rw[if_pos rfl];refine(looks_mroIn I.kIn m.be).here ?_;rw[if_neg (by decide)];refine wpAny_pure ?_;dsimp only;rw[List.forIn_nil];refine wpAny_pure (wpAny_bind (J.here (wpAny_bind ?_)));rw[List.forIn_cons];refine wpAny_bind (wpAny_bind ((looks_mroIn I.kIn hb).here ?_));cases b with
 | true=>
  rw[if_pos rfl];exact wpAny_pure (wpAny_pure (wpAny_pure q))
 | false=>
  rw[if_neg Bool.false_ne_true];refine wpAny_pure ?_;dsimp only;rw[List.forIn_nil];exact wpAny_pure (wpAny_pure q)
abbrev TH:=Addr->Addr->Option Addr->Option Addr->Addr->Ends->St->Hp->Prop
def PHs (X:Cx)(hs:List ExceptHandler)(t:TH):Prop:=∀(pins:List (Addr×Obj)) (s:Shared) (σ:St) (H:Hp) (D:Ends) (C e:Addr) (dx ar:Option Addr) (b:Addr),Inv X pins σ H s->Fly C e dx ar (some b) H->t C e dx ar b D σ H->wpAny (model X.prog X.w) X.A (handleBy (.ref e) X.env hs) (SP X pins D) X.xe s
def thNil:TH:=fun _ _ _ _ _ _ _ _=>False
theorem phs_nil:PHs X [] thNil:=fun _ _ _ _ _ _ _ _ _ _ _ _ z=>z.elim
def retOnly (D:Ends):Ends:={ nx:=fun _ _=>False,rt:=D.rt }
def thAs (K:Frag)(Dc:Addr)(i:Nat)(tb:TS)(rest:TH):TH:=fun C e dx ar b D σ H=>∃hit,mroIn K C (.ref Dc)=some hit/\if hit=true then tb (retOnly D) (σ.set i (some (.ref e))) H else rest C e dx ar b D σ H
theorem fly_none {A:Around}{E:Value->Shared->Prop}{C dx ar b}{Q:Unit->Shared->Prop}(I:Inv X pins σ H s)(f:Fly C e dx ar (some b) H)(q:∀s',Inv X pins σ H s'->Q () s'):wpAny (model X.prog X.w) A (setFlight (.ref e) none) Q E s:=by
 obtain⟨ob,vs,e1,e2,e3,e4,e5,e6,eT⟩:=ex_get I f.1;obtain⟨hb,nb⟩:=f.2 b rfl;obtain⟨oT,ts,b1,b2,b3⟩:=(show TbAt b s.heap from (I.hok b _ hb).1);have b4:3<ts.size:=(Array.getElem?_eq_some_iff.mp b3).1;refine wpAny_setFlight_none e1 e4 eT b1 b2 b4 (q _ ?_);have d5:=Obj.data_mapFields b2 (·.setIfInBounds 3 Value.none)
 have q6:=Heap.get?_update_self (Obj.mapFields (·.setIfInBounds 3 Value.none)) b1 (Obj.isFreed_of_fields d5);have I1:=I.write (x:=b) (e:=b) (o:=TbO b) (t':=s.toks) (h':=s.heap.update b (Obj.mapFields (·.setIfInBounds 3 Value.none))) (by rw[hb];trivial) (.inl rfl) (fun c u hc q=>(Heap.get?_update_other _ _ (Ne.symm hc)).trans q) ⟨_,q6⟩ (tbO_ok ⟨_,_,q6,d5,by simp[b4]⟩)
 have eH:upd H b (TbO b)=H:=by
  funext c
  by_cases hc:c=b
  ·rw[hc,upd_same,hb]
  ·rw[upd_ne hc]
 rwa[eH] at I1
theorem phs_as {x n}{xp pos:Pos}{b₀ suite rest Dc}{i:Nat}{tb}{tr:TH}(m:ExM X.K Dc)(hg:Gl X x)(hm:X.mg x=some (.ref Dc))(hN:X.N.Nodup)(hi:X.N[i]?=some n)(hl:X.env.scope.names.lookup n=some .local)(hk:X.env.kindOf n=some .local)
  (hb:∀e,PSs (X.held e) (b₀::suite) tb) (hr:PHs X rest tr) (hdb:(x==("__debug__" : Str))=false:=by decide):PHs X (.ExceptHandler (some (.Name x xp)) (some n) (b₀::suite) pos::rest) (thAs X.K Dc i tb tr):=by
 intro pins s σ H D C e dx ar b I f h;obtain⟨hit,hc,h⟩:=h;refine wpAny_handleBy_cons (codeAny_handlers_test (ld_glob (X:=X.held e) (I.held e) hg hm ?_ hdb)) (by intro z;cases z);refine matches_ok I f.1 m hc ?_;cases hit with
 | false=>
  rw[if_neg Bool.false_ne_true] at h ⊢;exact hr pins s σ H D C e dx ar b I f h
 | true=>
  rw[if_pos rfl] at h ⊢;refine codeAny_handlers_suite_as (fly_none I f fun s1 I1=>?_);refine store_ok I1 hN hi (.inl hl) (v:=.ref e) rfl (fun s2 I2=>?_) (.inr hl);refine wpAny_mono (hb e pins s2 _ H (retOnly D) (I2.held e) h) (fun fl s3 q=>?_) fun _ _ z=>z.elim;have hp:(X.env.scope.kind==.class||(X.env.scope.kind==.module&&X.env.locals != X.env.globals))=false:=by rw[I.ok.kind];rfl
  cases fl with
  | ret u=>
   obtain⟨v,σ',H',I3,rv,q⟩:=q;obtain⟨m',hn,_⟩:=I3.loc;refine wpAny_nameGoes hk hn hp fun h4 m4 hn4 hs4=>?_;exact⟨v,_,H',(I3.unheld I.ok).bare_frame hn4 hs4,rv,q⟩
  | next=>
   obtain⟨_,_,_,q⟩:=q;exact q.elim
  | brk=>
   obtain⟨_,_,_,q⟩:=q;exact q.elim
  | cont=>
   obtain⟨_,_,_,q⟩:=q;exact q.elim
theorem SP.untried {xe:Value->Shared->Prop}{D:Ends}{fl:Flow}(q:SP (X.tried pins xe) [] D fl s):SP X pins D fl s:=by
 cases fl with
 | ret u=>
  obtain⟨v,σ',H',I3,rv,q⟩:=q;exact⟨v,σ',H',I3.untried,rv,q⟩
 | next=>
  obtain⟨σ',H',I3,q⟩:=q;exact⟨σ',H',I3.untried,q⟩
 | brk=>
  obtain⟨σ',H',I3,q⟩:=q;exact⟨σ',H',I3.untried,q⟩
 | cont=>
  obtain⟨σ',H',I3,q⟩:=q;exact⟨σ',H',I3.untried,q⟩
def caught (n:Nat)(th:TH)(D:Ends):XK:=fun v _ H=>∃C e dx ar tb,v=.ref e/\Fly C e dx ar tb H/\∀σ:St,σ.length=n->∀b,H b=none->b≠e->th C e dx ar b D σ (past H C e dx ar b)
def tTry (n:Nat)(tb:XK->TS)(th:TH):TS:=fun D σ H=>tb (caught n th D) D σ H
theorem fly_past {C dx ar b}(h:b≠e):Fly C e dx ar (some b) (past H C e dx ar b):=by
 refine⟨upd_same,fun b' z=>?_⟩;cases z;exact⟨by show upd _ _ _ _=_;rw[upd_ne h,upd_same],h⟩
theorem ps_try {body h₀ hs pos}{tb:XK->TS}{th:TH}(hst:X.stack=X.env::X.outer)(hfr:X.env.frame=some X.env.locals)
  (hb:∀(E:XK) (ps:List (Addr×Obj)) (xe:Value->Shared->Prop),Passes (CXo X.prog X.w) (X.tried ps xe) E->PSs (X.tried ps xe) body (tb E)) (hh:PHs X (h₀::hs) th):PS X (.Try body (h₀::hs) [] [] pos) (tTry X.N.length tb th):=by
 intro pins s σ H D I h;refine wpAny_Try_except ?_;have run:=hb (caught X.N.length th D) pins (fun v s'=>∃σ' H',Inv X pins σ' H' s'/\caught X.N.length th D v none H') (fun pins' σ' H' s' v s'' I' q=>?_) [] s σ H D I.tried h
 ·refine wpAny_mono run (fun fl s1 q=>?_) fun v s1 q=>?_
  ·have q':=q.untried;cases fl with
   | next=>exact wpAny_pure q'
   | ret u=>exact q'
   | brk=>exact q'
   | cont=>exact q'
  ·obtain⟨σ',H',I',C,e,dx,ar,tb',rfl,fl,k⟩:=q;exact note_ok hst hfr I' fl.1 fl.2 I'.ok.frames fun b s2 f1 f2 J=>hh pins s2 σ' _ D C e dx ar b J (fly_past f2) (k σ' I'.len b f1 f2)
 ·obtain⟨u,H2,I2,rv,⟨a,ea⟩,q⟩:=I'.after q;exact⟨_,H2,I2.untried,q⟩
end
section
variable {prog:Program}{w:World}{A:Around}{E:Value->Shared->Prop}{s:Shared}
end
def SqB (K:Frag)(tp:Bool)(H:Hp)(a:Addr)(xs:List V):Prop:=if tp then SqT K H a xs else SqL K H a xs
section
variable {X:Cx}
end
section
variable {prog:Program}{w:World}{A:Around}{E:Value->Shared->Prop}
end
section
variable {X:Cx}{pos:Pos}
end
theorem bt_len:bootBuiltins "len" = some (.builtin "len"):=by decide +kernel
theorem bt_max:bootBuiltins "max" = some (.builtin "max"):=by decide +kernel
theorem bt_min:bootBuiltins "min" = some (.builtin "min"):=by decide +kernel
theorem bt_isinstance:bootBuiltins "isinstance" = some (.builtin "isinstance"):=by decide +kernel
theorem bt_list:bootBuiltins "list" = some (.type "list"):=by decide +kernel
theorem bt_tuple:bootBuiltins "tuple" = some (.type "tuple"):=by decide +kernel
theorem bt_int:bootBuiltins "int" = some (.type "int"):=by decide +kernel
theorem bt_bool:bootBuiltins "bool" = some (.type "bool"):=by decide +kernel
theorem bt_enumerate:bootBuiltins "enumerate" = some (.type "enumerate"):=by decide +kernel
structure Dn (K:Frag)(mg:Str->Option Value)(x qual:Str)(st:Stmt)(ps:List Str)(f:Addr)(fd:FuncData):Prop where
 fn:Fun K x qual st f fd
 b:Binds K fd ps []
 m:mg x=some (.ref f)
theorem dn_mk {K:Frag}{h:Heap}{mg:Str->Option Value}(X:K.In h)(G:h.Ns mainGlobals mg){x st}{ps:List Str}{f oc od an osl}{kV doc pm cdv ct:Value}
  (a:nsIn K mainGlobals x=some (some (.ref f))) (l:K.lookup f=some ⟨oc,od,.func (fnOf x x (defArgs st) (defBody st) (defScope st) .none kV doc pm an cdv ct),osl⟩)
  (c:codeIn K cdv x=true) (k:keepIn K (.ref f)=true)
  (b:∀(kV doc pm:Value) (an:Option Addr) (cdv ct:Value) (us:List Value),us.length=ps.length->bindArgs (fnOf x x (defArgs st) (defBody st) (defScope st) .none kV doc pm an cdv ct) ⟨us,[]⟩=pure (ps.zip us)) :
  ∃f fd,Dn K mg x x st ps f fd:=⟨f,_,fun_mk (st:=st) l c k,(fun_mk (st:=st) l c k).binds b,mg_of X G a⟩
def isStar:Expr->Bool
 | .Starred _ _=>true
 | _=>false
theorem star_cons {e es}{env:Env}(h:isStar e=false):starEach (e::es) env=(false,eval e env)::starEach es env:=by
 cases e with
 | Starred a b=>exact Bool.noConfusion h
 | _=>kernel_rfl
theorem pa_c {X:Cx}{e es te t}(ha:PE X e te)(hr:PA X es t)(h:isStar e=false:=by rfl):PA X (e::es) (tCons te t):=pa_cons ha hr (star_cons h)
section
variable {X:Cx}{es:List Expr}{t:TA}{j:Nat}{p:Pos}
theorem pa_ofE {e te}(ha:PE X e te)(hs:isStar e=false)(h:PA X es t):PA X (e::es) (tCons te t):=pa_c ha h hs
theorem pa_non (h:PA X es t):PA X (.Constant .none j p::es) (tCons (tC .non) t):=pa_ofE pe_non rfl h
theorem pa_bl {b}(h:PA X es t):PA X (.Constant (.bool b) j p::es) (tCons (tC (.bl b)) t):=pa_ofE pe_bl rfl h
theorem pa_str {x}(h:PA X es t):PA X (.Constant (.str x) j p::es) (tCons (tC (.str x)) t):=pa_ofE pe_str rfl h
theorem pa_int {i:Int}(h:PA X es t):PA X (.Constant (.int i) j p::es) (tCons (tC (.int i)) t):=pa_ofE pe_int rfl h
theorem pa_lst {es' t'}(h':PA X es' t')(h:PA X es t):PA X (.List es' p::es) (tCons (tLst t') t):=pa_ofE (pe_lst h') rfl h
theorem pa_tup {es' t'}{k:Nat}(h':PA X es' t')(h:PA X es t):PA X (.Tuple es' k p::es) (tCons (tTup t') t):=pa_ofE (pe_tup h') rfl h
theorem pa_dnew (h:PA X es t):PA X (.Dict [] [] p::es) (tCons tDNewK t):=pa_ofE pe_dnewK rfl h
end
def blkOk (fs:Scope)(scope:Scope)(N xs Nf:List Str)(js:List Nat):Bool:=
 (scope.kind==.function)&&scope.names.all (fun y=>y.2 != .cell)&&scope.names.all (fun y=>y.2 != .local||scope.names.lookup y.1==some .local)&&xs.all (fun x=>scope.names.lookup x==some .local) &&
  decide (xs++Nf).Nodup&&scope.names.all (fun y=>y.2 != .free||fs.names.lookup y.1==some .cell)&&(Nf.length==js.length) &&
  (Nf.zip js).all (fun p=>N[p.2]?==some p.1&&scope.names.lookup p.1==some .free&&fs.names.lookup p.1==some .cell)
theorem blk_mk {X:Cx}{scope xs}(Nf:List Str)(js:List Nat)(h:blkOk X.env.scope scope X.N xs Nf js=true:=by kernel_rfl):BlkG X scope xs Nf js:=by
 unfold blkOk at h;simp only[Bool.and_eq_true,beq_iff_eq,decide_eq_true_eq] at h;obtain⟨⟨⟨⟨⟨⟨⟨h1,h2⟩,h3⟩,h4⟩,h5⟩,h6⟩,h7⟩,h8⟩:=h;refine⟨h1,fun y hy=>?_,fun y hy hl=>?_,fun x hx=>beq_iff_eq.mp (List.all_eq_true.mp h4 x hx),h5,fun y hy hf=>?_,h7,fun i z hz=>?_⟩
 ·have:=List.all_eq_true.mp h2 y hy;simpa using this
 ·have:=List.all_eq_true.mp h3 y hy;rw[hl] at this;simpa using this
 ·have:=List.all_eq_true.mp h6 y hy;rw[hf] at this;show X.env.scope.names.lookup y.1=some .cell;simpa using this
 ·have hi:i<js.length:=by rw[<- h7];exact(List.getElem?_eq_some_iff.mp hz).1
  have hm:(z,js[i])∈Nf.zip js:=by
   have e:(Nf.zip js)[i]?=some (z,js[i]):=by
    rw[List.getElem?_zip_eq_some];exact⟨hz,by simp[hi]⟩
   exact List.mem_of_getElem? e
  have q:=List.all_eq_true.mp h8 _ hm;rw[Bool.and_eq_true,Bool.and_eq_true,beq_iff_eq,beq_iff_eq,beq_iff_eq] at q;exact⟨js[i],by simp[hi],q.1.1,q.1.2,q.2⟩
def ItB (K:Frag)(tp:Bool)(a:Addr):It:=if tp then Itt K a else Itl K a
def iSeq (K:Frag)(tp:Bool)(tl:TE):TI:=fun σ H R=>tl σ H fun x H1=>∃a,x=.ref a/\(∃xs,SqB K tp H1 a xs)/\R (ItB K tp a) H1
theorem pi_seq {X:Cx}{tg l tl}(tp:Bool)(hl:PE X l tl):PI X tg l (iSeq X.K tp tl):=by
 cases tp with
 | true=>exact pi_tup hl
 | false=>exact pi_list hl
def KB (p:Addr)(H H':Hp):Prop:=∀b o,H b=some o->b≠p->H' b=some o
theorem KB.refl {p}{H:Hp}:KB p H H:=fun _ _ h _=>h
theorem Same.kb {p}{H H':Hp}(a:Same H H'):KB p H H':=fun b o h _=>a b o h
theorem Same.upd {H:Hp}{p o}(h:H p=none):Same H (upd H p o):=fun b u q=>by rw[upd_ne (ne_of_none q h)];exact q
theorem KB.updP {H H1:Hp}{p o}(k:KB p H H1):KB p H (upd H1 p o):=fun b u z n=>by rw[upd_ne n];exact k b u z n
def kD:Key->PyData
 | .inl i=>.int i
 | .inr x=>.str x
mutual
inductive DV (N:Addr->Prop)(H:Hp):V->PyData->Prop
 | non:DV N H .non .none
 | bl (b:Bool):DV N H (.bl b) (.bool b)
 | int (i:Int):DV N H (.int i) (.int i)
 | str (x:Str):DV N H (.str x) (.str x)
 | lst {a:Addr} {xs:List V} {ds:List PyData}:¬N a->H a=some (.lst xs)->DVs N H xs ds->DV N H (.ref a) (.list ds)
 | tup {a:Addr} {xs:List V} {ds:List PyData}:¬N a->H a=some (.tup xs)->DVs N H xs ds->DV N H (.ref a) (.tuple ds)
 | dct {a:Addr} {kvs:List (Key×V)} {ds:List (PyData×PyData)}:¬N a->H a=some (.dK kvs)->DKs N H kvs ds->DV N H (.ref a) (.dict ds)
inductive DVs (N:Addr->Prop)(H:Hp):List V->List PyData->Prop
 | nil:DVs N H [] []
 | cons {v:V} {d:PyData} {vs:List V} {ds:List PyData}:DV N H v d->DVs N H vs ds->DVs N H (v::vs) (d::ds)
inductive DKs (N:Addr->Prop)(H:Hp):List (Key×V)->List (PyData×PyData)->Prop
 | nil:DKs N H [] []
 | cons {k:Key} {v:V} {d:PyData} {vs:List (Key×V)} {ds:List (PyData×PyData)}:DV N H v d->DKs N H vs ds->DKs N H ((k,v)::vs) ((kD k,d)::ds)
end
mutual
theorem DV.keep {N N':Addr->Prop}{H H':Hp}(k:∀a o,¬N a->H a=some o->H' a=some o)(n:∀a,N' a->N a):∀{v:V} {d:PyData},DV N H v d->DV N' H' v d
 | _,_,.non=>.non
 | _,_,.bl b=>.bl b
 | _,_,.int i=>.int i
 | _,_,.str x=>.str x
 | _,_,.lst na e r=>.lst (fun z=>na (n _ z)) (k _ _ na e) (DVs.keep k n r)
 | _,_,.tup na e r=>.tup (fun z=>na (n _ z)) (k _ _ na e) (DVs.keep k n r)
 | _,_,.dct na e r=>.dct (fun z=>na (n _ z)) (k _ _ na e) (DKs.keep k n r)
theorem DVs.keep {N N':Addr->Prop}{H H':Hp}(k:∀a o,¬N a->H a=some o->H' a=some o)(n:∀a,N' a->N a):∀{vs:List V} {ds:List PyData},DVs N H vs ds->DVs N' H' vs ds
 | _,_,.nil=>.nil
 | _,_,.cons r t=>.cons (DV.keep k n r) (DVs.keep k n t)
theorem DKs.keep {N N':Addr->Prop}{H H':Hp}(k:∀a o,¬N a->H a=some o->H' a=some o)(n:∀a,N' a->N a):∀{vs:List (Key×V)} {ds:List (PyData×PyData)},DKs N H vs ds->DKs N' H' vs ds
 | _,_,.nil=>.nil
 | _,_,.cons r t=>.cons (DV.keep k n r) (DKs.keep k n t)
end
mutual
theorem DV.one {N N':Addr->Prop}{H:Hp}:∀{v:V} {d d':PyData},DV N H v d->DV N' H v d'->d=d'
 | _,_,_,.non,.non=>rfl
 | _,_,_,.bl _,.bl _=>rfl
 | _,_,_,.int _,.int _=>rfl
 | _,_,_,.str _,.str _=>rfl
 | _,_,_,.lst _ e r,.lst _ e' r'=>by rw[e] at e';cases e';rw[DVs.one r r']
 | _,_,_,.tup _ e r,.tup _ e' r'=>by rw[e] at e';cases e';rw[DVs.one r r']
 | _,_,_,.dct _ e r,.dct _ e' r'=>by rw[e] at e';cases e';rw[DKs.one r r']
 | _,_,_,.lst _ e _,.tup _ e' _=>by rw[e] at e';cases e'
 | _,_,_,.lst _ e _,.dct _ e' _=>by rw[e] at e';cases e'
 | _,_,_,.tup _ e _,.lst _ e' _=>by rw[e] at e';cases e'
 | _,_,_,.tup _ e _,.dct _ e' _=>by rw[e] at e';cases e'
 | _,_,_,.dct _ e _,.lst _ e' _=>by rw[e] at e';cases e'
 | _,_,_,.dct _ e _,.tup _ e' _=>by rw[e] at e';cases e'
theorem DVs.one {N N':Addr->Prop}{H:Hp}:∀{vs:List V} {ds ds':List PyData},DVs N H vs ds->DVs N' H vs ds'->ds=ds'
 | _,_,_,.nil,.nil=>rfl
 | _,_,_,.cons r t,.cons r' t'=>by rw[DV.one r r',DVs.one t t']
theorem DKs.one {N N':Addr->Prop}{H:Hp}:∀{vs:List (Key×V)} {ds ds':List (PyData×PyData)},DKs N H vs ds->DKs N' H vs ds'->ds=ds'
 | _,_,_,.nil,.nil=>rfl
 | _,_,_,.cons r t,.cons r' t'=>by rw[DV.one r r',DKs.one t t']
end
def tyD:PyData->Value
 | .none=>.type "NoneType"|.bool _=>.type "bool"|.int _=>.type "int"|.str _=>.type "str"|.list _=>.type "list"|.tuple _=>.type "tuple"|.dict _=>.type "dict"
theorem DV.thg {K}{N:Addr->Prop}{H:Hp}{v d}(x:DV N H v d):Thg K H v (tyD d):=by
 cases x with
 | non=>exact .non
 | bl b=>exact .bl b
 | int i=>exact .int i
 | str x=>exact .str x
 | lst _ e _=>exact .lst e
 | tup _ e _=>exact .tup e
 | dct _ e _=>exact .dK e
theorem entries_more {prog:Program}{w:World}{h₀:Heap}{as as':List Addr}{d d':Nat}(hsub:∀b∈as,b∈as')(hd:d<=d'):∀{l:List DictEntry} {ts:List Str},ReprEntriesK prog w as h₀ d l ts->ReprEntriesK prog w as' h₀ d' l ts
 | _,_,.nil=>.nil
 | _,_,.cons a b t=>.cons ((a.more hsub).level_le hd) ((b.more hsub).level_le hd) (entries_more hsub hd t)
section
variable {X:Cx}{pins:List (Addr×Obj)}{σ:St}{H:Hp}{s:Shared}{N:Addr->Prop}
def Low (N:Addr->Prop)(H:Hp)(n:Nat)(bs:List Addr):Prop:=∀b∈bs,∃d,DV N H (.ref b) d/\d.depth<=n
theorem Low.mono {n m:Nat}{bs}(h:Low N H n bs)(k:n<=m):Low N H m bs:=fun b hb=>let⟨d,r,q⟩:=h b hb;⟨d,r,Nat.le_trans q k⟩
theorem Low.append {n:Nat}{bs cs}(h:Low N H n bs)(k:Low N H n cs):Low N H n (bs++cs):=fun b hb=>(List.mem_append.mp hb).elim (h b) (k b)
theorem Low.cons {n:Nat}{a}{d:PyData}{bs}(r:DV N H (.ref a) d)(k:n<=d.depth)(h:Low N H n bs):Low N H d.depth (a::bs):=fun b hb=>by
 rcases List.mem_cons.mp hb with rfl|hb
 ·exact⟨d,r,Nat.le_refl _⟩
 ·exact h.mono k b hb
theorem Low.out {n:Nat}{a}{d:PyData}{bs}(r:DV N H (.ref a) d)(k:n<d.depth)(h:Low N H n bs):a∉bs:=fun hb=>by
 obtain⟨d',r',q⟩:=h a hb;rw[DV.one r' r] at q;omega
mutual
theorem DV.shows (I:Inv X pins σ H s):∀{v:V} {d:PyData} {u:Value},DV N H v d->RelV v u->d.showable=true->d.shown.length<=sizeLine->∃bs,Low N H d.depth bs/\ReprK X.prog X.w bs s.heap d.depth u d.shown
 | _,_,u,.non,r,_,_=>by cases(show u=Value.none from r);exact⟨[],(fun _ h=>nomatch h),by simp only[PyData.shown];exact .of_is ReprIs.none _ _ _⟩
 | _,_,u,.bl b,r,_,_=>by cases(show u=Value.bool b from r);exact⟨[],(fun _ h=>nomatch h),by simp only[PyData.shown];exact .of_is (ReprIs.bool b) _ _ _⟩
 | _,_,u,.int i,r,hs,_=>by obtain⟨t,rfl⟩:=(show ∃t,u=Value.int i t from r);exact⟨[],(fun _ h=>nomatch h),by simp only[PyData.shown];exact .of_is (ReprIs.int t (by simpa[PyData.showable] using hs)) _ _ _⟩
 | _,_,u,.str x,r,_,hz=>by obtain⟨t,rfl⟩:=(show ∃t,u=Value.str x t from r);exact⟨[],(fun _ h=>nomatch h),by simp only[PyData.shown];exact .of_is (ReprIs.str x t (by simpa only [PyData.shown] using hz)) _ _ _⟩
 | _,_,u,.lst (a:=a) (xs:=xs) (ds:=ds) na e q,r,hs,hz=>by
  cases(show u=Value.ref a from r);obtain⟨_,its,n,rv,g⟩:=(show ObjOk X.prog X.w H s.heap a (.lst xs) from I.hok a _ e);have hz':(listText (PyData.shownAll ds)).length<=sizeLine:=by simpa only [PyData.shown] using hz
  obtain⟨bs,hb,hk⟩:=DVs.shows I q rv (by simpa[PyData.showable] using hs) (fun t ht=>Nat.le_trans (listText_mem_le ht) hz');have R:DV N H (.ref a) (.list ds):=.lst na e q;have hna:a∉bs:=Low.out R (by simp only[PyData.depth];omega) hb;refine⟨a::bs,Low.cons R (by simp only[PyData.depth];omega) hb,?_⟩;simp only[PyData.depth,PyData.shown];cases rv with
  | nil=>
   cases q;simp only[PyData.shownAll,listText_nil];exact ReprK.listEmpty g rfl rfl
  | cons r1 r2=>exact ReprK.list g rfl rfl hna (by simpa using hk.length_eq) (fun i y e=>hk.item i y (by simpa using e))
 | _,_,u,.tup (a:=a) (xs:=xs) (ds:=ds) na e q,r,hs,hz=>by
  cases(show u=Value.ref a from r);obtain⟨_,its,rv,⟨o,h1,h2,n,h3⟩,_⟩:=(show ObjOk X.prog X.w H s.heap a (.tup xs) from I.hok a _ e);have hz':(tupleText (PyData.shownAll ds)).length<=sizeLine:=by simpa only [PyData.shown] using hz
  obtain⟨bs,hb,hk⟩:=DVs.shows I q rv (by simpa[PyData.showable] using hs) (fun t ht=>Nat.le_trans (tupleText_mem_le ht) hz');have R:DV N H (.ref a) (.tuple ds):=.tup na e q;have hna:a∉bs:=Low.out R (by simp only[PyData.depth];omega) hb;refine⟨a::bs,Low.cons R (by simp only[PyData.depth];omega) hb,?_⟩;simp only[PyData.depth,PyData.shown];exact ReprK.tuple h1 h2 h3 hna (by simpa using hk)
 | _,_,u,.dct (a:=a) (kvs:=kvs) (ds:=ds) na e q,r,hs,hz=>by
  cases(show u=Value.ref a from r);obtain⟨_,hsys,vs,kv,o,es,ep,h1,h2,h3,h4,h5,h6⟩:=(show ObjOk X.prog X.w H s.heap a (.dK kvs) from I.hok a _ e);have hz':(dictText (PyData.shownKv ds)).length<=sizeLine:=by simpa only [PyData.shown] using hz
  obtain⟨bs,hb,hk⟩:=DKs.shows I q kv h5 (by simpa[PyData.showable] using hs) (fun t ht=>Nat.le_trans (dictText_mem_le ht) hz');have R:DV N H (.ref a) (.dict ds):=.dct na e q;have hna:a∉bs:=Low.out R (by simp only[PyData.depth];omega) hb;refine⟨a::bs,Low.cons R (by simp only[PyData.depth];omega) hb,?_⟩;simp only[PyData.depth,PyData.shown];exact ReprK.dict h1 h2.1 h3 hsys hna hk
theorem DVs.shows (I:Inv X pins σ H s):∀{vs:List V} {ds:List PyData} {us:List Value},DVs N H vs ds->Vals vs us->PyData.showableAll ds=true->(∀t∈PyData.shownAll ds,t.length<=sizeLine) ->
  ∃bs,Low N H (PyData.depthAll ds) bs/\ReprAllK X.prog X.w bs s.heap (PyData.depthAll ds) us (PyData.shownAll ds)
 | _,_,_,.nil,.nil,_,_=>⟨[],(fun _ h=>nomatch h),by simp only[PyData.shownAll];exact .nil⟩
 | _,_,_,.cons (d:=d) (ds:=ds) r t,.cons r1 r2,hs,hz=>by
  obtain⟨sd,sds⟩:d.showable=true/\PyData.showableAll ds=true:=by rwa[PyData.showableAll,Bool.and_eq_true] at hs
  obtain⟨b1,hb1,k1⟩:=DV.shows I r r1 sd (hz _ (by simp only[PyData.shownAll];exact List.mem_cons_self ..));obtain⟨b2,hb2,k2⟩:=DVs.shows I t r2 sds (fun t ht=>hz t (by simp only[PyData.shownAll];exact List.mem_cons_of_mem _ ht));refine⟨b1++b2,(hb1.mono (by simp only[PyData.depthAll];exact Nat.le_max_left _ _)).append (hb2.mono (by simp only[PyData.depthAll];exact Nat.le_max_right _ _)),?_⟩
  simp only[PyData.depthAll,PyData.shownAll];have m1:=(k1.more fun b hb=>List.mem_append_left b2 hb).level_le (Nat.le_max_left d.depth (PyData.depthAll ds));have m2:=k2.more_le (fun b hb=>List.mem_append_right b1 hb) (Nat.le_max_right d.depth (PyData.depthAll ds));exact .cons m1 m2
theorem DKs.shows (I:Inv X pins σ H s):∀{vs:List (Key×V)} {ds:List (PyData×PyData)} {us:List (Key×Value)} {es:List DictEntry},DKs N H vs ds->KV vs us->Pairs (mixKind X.prog X.w) es us->PyData.showableKv ds=true ->
  (∀t∈PyData.shownKv ds,t.length<=sizeLine)->∃bs,Low N H (PyData.depthKv ds) bs/\ReprEntriesK X.prog X.w bs s.heap (PyData.depthKv ds) es (PyData.shownKv ds)
 | _,_,_,_,.nil,.nil,.nil,_,_=>⟨[],(fun _ h=>nomatch h),by simp only[PyData.shownKv];exact .nil⟩
 | _,_,_,[],.cons _ _,.cons _ _,w,_,_=>nomatch w
 | _,_,kv::_,e::_,.cons (k:=k) (d:=d) (ds:=ds) r t,.cons q1 q2,w,hs,hz=>by
  cases w with
  | cons w1 w2 w3=>
  have hs':((kD k).showable=true/\d.showable=true)/\PyData.showableKv ds=true:=by simpa[PyData.showableKv] using hs
  have hz1:((kD k).shown ++ ": " ++ d.shown).length<=sizeLine:=hz _ (by simp only[PyData.shownKv];exact List.mem_cons_self ..);rw[strLen_append,strLen_append] at hz1;obtain⟨z1,z2⟩:=q1;obtain⟨b1,hb1,k1⟩:=DV.shows I r z2 hs'.1.2 (by omega);obtain⟨b2,hb2,k2⟩:=DKs.shows I t q2 w3 hs'.2 (fun t ht=>hz t (by simp only[PyData.shownKv];exact List.mem_cons_of_mem _ ht))
  have hk:∀n,ReprK X.prog X.w (b1++b2) s.heap n e.key (kD k).shown:=fun n=>by
   have z1':k=kv.1:=z1;rcases keyIs_shape (show keyIs kv.1 e.key=true from w1) with⟨i,tk,z,w4⟩|⟨x,tk,z,w4⟩
   ·rw[w4,z1',z];have hsi:=hs'.1.1;rw[z1',z] at hsi;simp only[kD,PyData.shown];exact .of_is (ReprIs.int tk (by simpa[kD,PyData.showable] using hsi)) _ _ _
   ·rw[w4,z1',z];have hzi:(kD k).shown.length<=sizeLine:=by omega
    rw[z1',z] at hzi;simp only[kD,PyData.shown] at hzi ⊢;exact .of_is (ReprIs.str x tk hzi) _ _ _
  refine⟨b1++b2,(hb1.mono (by simp only[PyData.depthKv];omega)).append (hb2.mono (by simp only[PyData.depthKv];omega)),?_⟩;simp only[PyData.depthKv,PyData.shownKv];exact .cons (hk _) (by rw[w2];exact(k1.more fun b hb=>List.mem_append_left _ hb).level_le (by omega)) (entries_more (fun b hb=>List.mem_append_right _ hb) (by omega) k2)
end
structure Okd (n:Nat)(d:PyData):Prop where
 sh:d.showable=true
 lv:d.leavesShort 40=true
 dp:d.depth<=20
 wt:d.weight<=n
theorem Okd.len {n:Nat}{d:PyData}(h:Okd n d)(hn:n<=100000):d.shown.length<=sizeLine:=by
 have:=PyData.shown_le 40 (by decide) d h.lv;have e:(40+2) * d.weight<=42 * 100000:=Nat.mul_le_mul (by omega) (Nat.le_trans h.wt hn);have:sizeLine=16777216:=by decide
 omega
theorem call_reprD {X:Cx}(hg:X.A.guards=some [])(hu:X.A.units+64<cLine):CallR X (.builtin "repr") (fun xs H Q=>∃(v:V) (N:Addr->Prop) (d:PyData),xs=[v]/\DV N H v d/\Okd 100000 d/\Q (.str d.shown) H):=by
 intro pins s σ H xs us Q I r h;obtain⟨v,N,d,rfl,x,ok,q⟩:=h;obtain⟨u,rfl,rx⟩:=vals1 r;have hz:=ok.len (Nat.le_refl _);have hs:=ok.sh;have hd:=ok.dp;cases x with
 | non=>cases(show u=Value.none from rx);exact P.repr_of_none ⟨.str PyData.none.shown,H,I.tok _,⟨_,by simp only[PyData.shown];rfl⟩,q⟩
 | bl b=>cases(show u=Value.bool b from rx);exact P.repr_of_bool ⟨.str (PyData.bool b).shown,H,I.tok _,⟨_,by simp only[PyData.shown];rfl⟩,q⟩
 | int i=>
  obtain⟨t,rfl⟩:=(show ∃t,u=Value.int i t from rx);exact P.repr_of_int (by simpa[PyData.showable] using hs) ⟨.str (PyData.int i).shown,H,I.tok _,⟨_,by simp only[PyData.shown];rfl⟩,q⟩
 | str y=>
  obtain⟨t,rfl⟩:=(show ∃t,u=Value.str y t from rx);exact P.repr_of_str ⟨.str (PyData.str y).shown,H,I.tok _,⟨_,by simp only[PyData.shown];rfl⟩,q⟩ (by simpa only [PyData.shown] using hz)
 | @lst a xs ds na e p=>
  cases(show u=Value.ref a from rx);obtain⟨_,its,n,rv,g⟩:=(show ObjOk X.prog X.w H s.heap a (.lst xs) from I.hok a _ e);have hz':(listText (PyData.shownAll ds)).length<=sizeLine:=by simpa only [PyData.shown] using hz
  obtain⟨bs,hb,hk⟩:=DVs.shows I p rv (by simpa[PyData.showable] using hs) (fun t ht=>Nat.le_trans (listText_mem_le ht) hz');have hna:a∉bs:=Low.out (DV.lst na e p) (by simp only[PyData.depth];omega) hb;simp only[PyData.depth] at hd;cases rv with
  | nil=>
   cases p;refine call_repr_slot (by omega) ⟨_,g,rfl⟩ PySem.F.slot_list_repr.toG (call_list_repr_empty ⟨_,g,rfl⟩ g rfl ?_);exact⟨_,_,rfl,.str (PyData.list []).shown,H,I.kept (fun _ _ e=>e),⟨_,by simp only[PyData.shown,PyData.shownAll,listText_nil];rfl⟩,q⟩
  | cons r1 r2=>
   refine call_repr_slot (by omega) ⟨_,g,rfl⟩ PySem.F.slot_list_repr.toG (call_list_reprK (g:=[]) g rfl rfl hna (by simpa using hk.length_eq) (fun i y z=>hk.item i y (by simpa using z)) hg (fun b _=>Clear.nil b) (by show X.A.units+1+(_+1)<cLine;omega) (fun _ _ e=>e) (fun h' u tk hkk=>⟨_,_,rfl,?_⟩) hz');exact⟨.str (PyData.list ds).shown,H,I.kept hkk,⟨_,by simp only[PyData.shown];rfl⟩,q⟩
 | @tup a xs ds na e p=>
  cases(show u=Value.ref a from rx);obtain⟨_,its,rv,⟨o,h1,h2,n,h3⟩,_⟩:=(show ObjOk X.prog X.w H s.heap a (.tup xs) from I.hok a _ e);have hz':(tupleText (PyData.shownAll ds)).length<=sizeLine:=by simpa only [PyData.shown] using hz
  obtain⟨bs,hb,hk⟩:=DVs.shows I p rv (by simpa[PyData.showable] using hs) (fun t ht=>Nat.le_trans (tupleText_mem_le ht) hz');have hna:a∉bs:=Low.out (DV.tup na e p) (by simp only[PyData.depth];omega) hb;simp only[PyData.depth] at hd
  refine call_repr_slot (by omega) ⟨_,h1,h2⟩ PySem.F.slot_tuple_repr (call_tuple_reprK (g:=[]) h1 h2 h3 hna (by simpa using hk) hg (fun b _=>Clear.nil b) (by show X.A.units+1+(_+1)<cLine;omega) (fun _ _ e=>e) (fun h' u tk hkk=>⟨_,_,rfl,?_⟩) hz');exact⟨.str (PyData.tuple ds).shown,H,I.kept hkk,⟨_,by simp only[PyData.shown];rfl⟩,q⟩
 | @dct a kvs ds na e p=>
  cases(show u=Value.ref a from rx);obtain⟨_,hsys,vs,kv,o,es,ep,h1,h2,h3,h4,h5,h6⟩:=(show ObjOk X.prog X.w H s.heap a (.dK kvs) from I.hok a _ e);have hz':(dictText (PyData.shownKv ds)).length<=sizeLine:=by simpa only [PyData.shown] using hz
  obtain⟨bs,hb,hk⟩:=DKs.shows I p kv h5 (by simpa[PyData.showable] using hs) (fun t ht=>Nat.le_trans (dictText_mem_le ht) hz');have hna:a∉bs:=Low.out (DV.dct na e p) (by simp only[PyData.depth];omega) hb;simp only[PyData.depth] at hd
  refine call_repr_slot (by omega) ⟨_,h1,h2.1⟩ PySem.F.slot_dict_repr (call_dict_reprK (g:=[]) h1 h2.1 h3 hsys hna hk hg (fun b _=>Clear.nil b) (by show X.A.units+1+(_+1)<cLine;omega) (fun _ _ e=>e) (fun h' u tk hkk=>⟨_,_,rfl,?_⟩) hz');exact⟨.str (PyData.dict ds).shown,H,I.kept hkk,⟨_,by simp only[PyData.shown];rfl⟩,q⟩
end
theorem bt_repr:bootBuiltins "repr" = some (.builtin "repr"):=by decide +kernel
theorem bt_all:bootBuiltins "all" = some (.builtin "all"):=by decide +kernel
theorem bt_set:bootBuiltins "set" = some (.type "set"):=by decide +kernel
section
variable {X:Cx}
theorem call_allB (hh:X.A.handled=none):CallR X (.builtin "all") (fun xs H Q=>∃(a:Addr) (bs:List Bool),xs=[.ref a]/\H a=some (.lst (bs.map V.bl))/\Q (.bl (bs.all id)) H):=by
 intro pins s σ H xs us Q I r h;obtain⟨a,bs,rfl,hl,q⟩:=h;obtain⟨u,rfl,rx⟩:=vals1 r;cases rx;obtain⟨hz,its,n,rv,g⟩:=(show ObjOk X.prog X.w H s.heap a (.lst (bs.map V.bl)) from I.hok a _ hl);have isl:s.heap.IsList a its.toArray:=⟨_,g,rfl,n,rfl⟩;have lt:=Heap.lt_size g;refine call_all_walk (wpAny_pyIter_list isl ?_)
 have at_:∀(i:Nat) (v:Value),its.toArray[i]?=some v->v=.bool (bs.getD i false):=fun i v e=>by
  have e':its[i]?=some v:=by simpa using e
  obtain⟨j1,j2⟩:=List.getElem?_eq_some_iff.mp e';have hi:i<bs.length:=by have:=rv.length;rw[List.length_map] at this;omega
  obtain⟨u,u1,u2⟩:=rv.get (i:=i) (x:=.bl bs[i]) (by simp[hi]);rw[e'] at u1;cases u1;rw[show v=Value.bool bs[i] from u2];simp[hi]
 refine⟨_,_,_,_,_,_,fun i=>bs.getD i false,rfl,Walks.list (by simp[hh]) _ a (Nat.ne_of_lt lt) its.toArray,⟨⟨_,Heap.get?_push_size _ rfl,rfl,rfl⟩,isl.push _⟩,?_,fun h' tk k=>?_⟩
 ·intro i v s' R E' e hr;rw[at_ i v e];exact wpAny_pure hr
 ·have kk:∀b o,s.heap.get? b=some o->h'.get? b=some o:=fun b o e=>k b o (by
   intro z;rw[List.mem_singleton.mp z] at e
   exact absurd (Heap.lt_size e) (Nat.lt_irrefl _)) (Heap.get?_push_of_some _ e)
  refine⟨.bl (bs.all id),H,I.kept kk,?_,q⟩;show Value.bool _=Value.bool _;congr 1;have e1:its.toArray.size=bs.length:=by have:=rv.length;rw[List.length_map] at this;simp[<- this]
  rw[e1];clear q rv hl isl g at_ e1;rw[Bool.eq_iff_iff,List.all_eq_true,List.all_eq_true];constructor
  ·intro f b hb;obtain⟨i,hi,e⟩:=List.getElem_of_mem hb;have:=f i (List.mem_range.mpr hi);simpa[hi,e] using this
  ·intro f i hi;have hi':=List.mem_range.mp hi;have:=f bs[i] (List.getElem_mem hi');simpa[hi'] using this
def upTo (i:Int)(n:Nat):List V:=(List.range n).map fun(k:Nat)=>V.int (i+(k:Int))
end
section
variable {prog:Program}{w:World}{A:Around}{E:Value->Shared->Prop}{s:Shared}
abbrev onceOf (ns:List Int)(n:Nat):List Int:=firstMet (fun i=>ns.getD i 0) n
end
section
variable {X:Cx}
theorem ints_vals:∀{ns:List Int} {us:List Value},Vals (ns.map V.int) us->IntsAre us ns
 | [],_,.nil=>.nil
 | n::ns,_,.cons r t=>by
  obtain⟨k,rfl⟩:=(show ∃k,_=Value.int n k from r);exact .cons _ _ (ints_vals t)
theorem call_lenS:CallR X (.builtin "len") (fun xs H Q=>∃(a:Addr) (S:Int->Bool) (n:Nat),xs=[.ref a]/\H a=some (.set S n)/\n<=100000/\Q (.int n) H):=by
 intro pins s σ H xs us Q I r h;obtain⟨a,S,n,rfl,hl,hz,q⟩:=h;obtain⟨u,rfl,rx⟩:=vals1 r;cases rx;obtain⟨o,es,ep,t,h1,h2,h3,h4,h5,h6,h7,h8⟩:=(show s.heap.SetOf (intKind X.prog X.w) a S n from I.hok a _ hl);exact call_len_set h1 h2 h3 h7 (by omega) ⟨.int n,H,I.tok _,⟨_,by rw[h8]⟩,q⟩
structure BaseFn (K:Frag)(T:Addr)(m:Str)(f:Addr):Prop where
 ga:specialIn K (.ref T) "__getattribute__" = some (some (.builtin "type.__getattribute__"))
 rd:PySem.W.readsIn K T (.type "type")=true
 at_:PySem.W.findCls K (.ref T) (.type "type") m=some (.val (.ref f))
 kp:keepIn K (.ref f)=true
theorem pe_base {CX}{k:Nat}{T f fd ps sp E}{pl:Sem Bool}{x m}{p apos pos:Pos}{e es t}(B:BaseFn X.K T m f)(F:FnOk X.prog X.w X.K X.mg X.base CX k f fd ps sp)(hr:Room k X.A)
  (hg:Gl X x) (hm:X.mg x=some (.ref T)) (hb:Binds X.K fd ps []) (hx:Passes CX X E) (ha:PA X (e::es) t)
  (hdb:(x==("__debug__" : Str))=false:=by decide) (he:starEach (e::es) X.env=(false,eval e X.env)::starEach es X.env:=by rfl) (hpl:(backTo pos (starEach es X.env)).any (·.1)=false:=by rfl)
  (ht:eval (.Call (.Attribute (.Name x p) m apos) (e::es) [] pos) X.env=(do
   let ov <- eval (.Name x p) X.env
   standAt apos.atName
   let(f,first) <- holding [ov] (getMethod ov m pl)
   callWith pos f first (backTo pos (starEach (e::es) X.env)) (backToKw pos (keywordEach [] X.env))):=by rfl) :
  PE X (.Call (.Attribute (.Name x p) m apos) (e::es) [] pos) (tCall sp [] E t):=by
 intro pins s σ H Q I h;refine PySem.W.methodCall_KW (pl:=pl) (ld_glob I hg hm ?_ hdb) ht;refine PySem.W.method_cls I.kIn B.ga (PySem.W.cls_value I.kIn B.rd B.at_ rfl ?_);refine PySem.W.callWith_K (h₀:=X.base) I.ok.mod.kin B.kp (thn (ha pos pins { s with toks:=s.toks+1 } σ H _ (I.tok _) h) fun us s1 ⟨vs,H1,I1,r,q⟩=>⟨I1.kIn,?_⟩) he hpl;exact run_fn F hr hb .nil hx I1 r (by simpa using q)
structure InsC (K:Frag)(C:Addr):Prop where
 cl:Cls K C
 ha:findIn K (.ref C) "__class__" = some (some (.builtin "object.__class__"))
 hn:specialIn K (.builtin "object.__class__") "__get__" = some (some (.builtin "getset_descriptor.__get__"))
 tk:takesIn K (.builtin "object.__class__")=some true
 hm:mroIn K C (.type "object")=some true
theorem call_instO:CallR X (.builtin "isinstance") (fun xs H Q=>∃(a C D dx:Addr) (fs:List (Str×V)) (b:Bool),xs=[.ref a,.ref D]/\H a=some (.ins C dx fs)/\InsC X.K C/\kitOne X.K (.ref C) (.ref D)=some b/\Q (.bl b) H):=by
 intro pins s σ H xs us Q I r h;obtain⟨a,C,D,dx,fs,b,rfl,hi,c,e,q⟩:=h;obtain⟨u,u',rfl,ru,ru'⟩:=vals2 r;cases(show u'=Value.ref D from ru');exact isinst_ok I ru (.ins hi c.cl c.ha c.hn c.tk c.hm) e fun tk=>⟨.bl b,H,I.tok tk,rfl,q⟩
end
end L2
namespace L2
open PySem PyProof PyProof.Rows
theorem dict_len_at:typeLookup (.type "dict") "__len__" = pure (some (.builtin "dict.__len__")):=by rw[typeLookup_type,builtinLookup_eq_fast];kernel_rfl
section
variable {prog:Program}{w:World}{A:Around}{E:Value->Shared->Prop}{s:Shared}{KK:Type}[DecidableEq KK]{knd:KeyKind prog w KK}
theorem go_in {R:Result->Shared->Prop}{id}{args:Args}{b:Builtin}(ent:entryFor table id=some b)(pl:plainId id=true)(k:wpAny (model prog w) A.in1 (b args) (fun fin t=>match fin with|.done f=>R (.ok f) t|.again c=>c.quiet=true/\codeAny (model prog w) A c R t) (fun e t=>R (.error e) t) s):codeAny (model prog w) A (.builtin id args) R s:=
 codeAny_builtin ent (by rw[Around.under_plainId pl];exact k)
theorem keys_of_dict {d}{kvs:List (KK×Value)}{ep:Nat}{Q:List Value->Shared->Prop}(hh:A.handled=none)(hS:(d==sysModules)=false)(hm:s.heap.DictAt knd d kvs ep)(hn:kvs.length<=sizeLine)
  (q:∀h' tk acc,s.heap.objs.size<=h'.objs.size->(∀b o,s.heap.get? b=some o->h'.get? b=some o)->ItemsOf (fun i v=>∃k x,kvs[i]?=some (k,x)/\knd.is k v=true) acc kvs.length->Q acc.toList { s with heap:=h',toks:=tk }):wpAny (model prog w) A (collect (.ref d)) Q E s:=by
 have dlt:=hm.lt_size;have T0:s.TypeIs (.ref d) "dict":=hm.dictOf.typeIs;refine show wpAny _ _ (runValue (.builtin "proto.collect" ⟨[.ref d],[]⟩) >>= _) _ _ s from wpAny_bind (wpAny_runValue (go_in F.entry_proto_collect F.plain_proto_collect ?c0))
 refine wpAny_bind (m:=newList []) (wpAny_newList (wpAny_pure ⟨plainId_quiet F.plain_list_iadd _,go_in F.entry_list_iadd F.plain_list_iadd (show wpAny _ A.in1 (typeOf (.ref d) >>= _) _ _ _ from ?c2)⟩));have m1:=hm.push { cls:=.type "list",data:=.seq ([]:List Value).toArray }
 have g1:(s.heap.push { cls:=.type "list",data:=.seq ([]:List Value).toArray }).get? s.heap.objs.size=some { cls:=.type "list",data:=.seq ([]:List Value).toArray }:=Heap.get?_push_size _ rfl;have z1:(s.heap.push { cls:=.type "list",data:=.seq ([]:List Value).toArray }).objs.size=s.heap.objs.size+1:=by rw[Heap.size_push]
 have k1:∀b o,s.heap.get? b=some o->(s.heap.push { cls:=.type "list",data:=.seq ([]:List Value).toArray }).get? b=some o:=fun b o e=>Heap.get?_push_of_some _ e;generalize s.heap.push { cls:=.type "list",data:=.seq ([]:List Value).toArray }=h1 at *;refine wpAny_bind (wpAny_typeOf (T:="dict") (s:={ s with heap:=h1 }) m1.dictOf.typeIs ?c3);have nd:s.heap.objs.size≠d:=fun e=>Nat.lt_irrefl _ (e▸dlt)
 have e1:Builtin.List.listSameRef (.ref s.heap.objs.size) (.ref d)=false:=by simp[Builtin.List.listSameRef,nd]
 rw[if_neg (by rw[e1];decide)];refine wpAny_bind (wpAny_pyIter_dict (s:={ s with heap:=h1 }) hS m1 ?c4);dsimp only;have m2:=m1.push { cls:=.type "dict_keyiterator",data:=.fields #[.ref d,.int 0 0,.int kvs.length 0,.int ep 0] }
 have i2:(h1.push { cls:=.type "dict_keyiterator",data:=.fields #[.ref d,.int 0 0,.int kvs.length 0,.int ep 0] }).IsKeyIter h1.objs.size d 0 kvs.length ep:=⟨_,Heap.get?_push_size _ rfl,rfl,rfl⟩;have g2:=Heap.get?_push_of_some { cls:=.type "dict_keyiterator",data:=.fields #[.ref d,.int 0 0,.int kvs.length 0,.int ep 0] } g1
 have k2:∀b o,s.heap.get? b=some o->(h1.push { cls:=.type "dict_keyiterator",data:=.fields #[.ref d,.int 0 0,.int kvs.length 0,.int ep 0] }).get? b=some o:=fun b o e=>Heap.get?_push_of_some _ (k1 b o e);have n2:s.heap.objs.size≠h1.objs.size:=by rw[z1];exact Nat.ne_of_lt (Nat.lt_succ_self _)
 have dI:d≠h1.objs.size:=by rw[z1];exact Nat.ne_of_lt (Nat.lt_succ_of_lt dlt)
 generalize hI:h1.objs.size=It at *;generalize h1.push { cls:=.type "dict_keyiterator",data:=.fields #[.ref d,.int 0 0,.int kvs.length 0,.int ep 0] }=h2 at *;refine wpAny_bind (wpAny_holding ?c5);unfold Builtin.List.listLengthHint;refine wpAny_bind (wpAny_specialOf (T:="dict") (s:={ s with heap:=h2 }) m2.dictOf.typeIs dict_len_at ?c6)
 wp_delta
 refine wpAny_bind (wpAny_isInstance (T:="dict") (s:={ s with heap:=h2 }) (b:=true) m2.dictOf.typeIs (by rw[isSubtype_type];kernel_rfl) ?c7);show wpAny _ A.in1 (typeOf (Value.ref d) >>= _) _ _ _;refine wpAny_bind (wpAny_typeOf (T:="dict") (s:={ s with heap:=h2 }) m2.dictOf.typeIs ?c8);refine wpAny_pure ?c9;rw[if_pos (by decide +kernel)];refine wpAny_bind (wpAny_rule ?c10);refine wpAny_bind ?c11
 show wpAny _ _ (updateSeq s.heap.objs.size (·.push .none) >>= fun _=>updateSeq s.heap.objs.size (·.pop)) _ _ _;refine wpAny_bind (wpAny_updateSeq (s:={ s with heap:=h2 }) g2 rfl ?c12);have g3:=Heap.get?_update_self (Obj.mapSeq (·.push Value.none)) g2 rfl;refine wpAny_updateSeq (hz:=by seq_fits) g3 rfl ?c13;have g4:=Heap.get?_update_self (Obj.mapSeq (·.pop)) g3 rfl
 have o4:∀b o,b≠s.heap.objs.size->h2.get? b=some o->((h2.update s.heap.objs.size (Obj.mapSeq (·.push Value.none))).update s.heap.objs.size (Obj.mapSeq (·.pop))).get? b=some o:=fun b o n e=>
  (Heap.get?_update_other _ _ (Ne.symm n)).trans ((Heap.get?_update_other _ _ (Ne.symm n)).trans e)
 generalize (h2.update s.heap.objs.size (Obj.mapSeq (·.push Value.none))).update s.heap.objs.size (Obj.mapSeq (·.pop))=h4 at *;have W:=(Walks.dictKeys (prog:=prog) (w:=w) (A:=A.in1) (knd:=knd) hh It d dI kvs ep).toS
 have out:s.heap.objs.size∉[It,d]:=fun z=>by
  rcases List.mem_cons.mp z with z|z
  ·exact n2 z
  ·exact nd (List.mem_singleton.mp z)
 refine wpAny_pure ⟨plainId_quiet F.plain_extend_loop _,codeAny_extend_loopS W hn s.heap.objs.size out _ kvs.length 0 _ _ _ rfl (Nat.zero_le _) ⟨i2.at fun o e=>o4 _ _ (Ne.symm n2) e,m2.at' fun o e=>o4 _ _ (Ne.symm nd) e⟩ g4 (ItemsOf.nil _) fun s' acc' c' mv gS it=>?c14⟩;refine show wpAny _ A (load s.heap.objs.size >>= _) _ _ s' from wpAny_bind (wpAny_load gS ?c15);have eq:=Moved.eq_with mv
 have kp:∀b o,s.heap.get? b=some o->s'.heap.get? b=some o:=fun b o e=>by
  have lt:=Heap.lt_size e;have b1:b≠s.heap.objs.size:=Nat.ne_of_lt lt;refine mv.heap b o (fun z=>?_) (o4 b o b1 (k2 b o e));rcases List.mem_cons.mp z with z|z
  ·exact b1 z
  ·rw[List.mem_singleton.mp z,z1] at lt;exact absurd lt (Nat.not_lt.mpr (Nat.le_succ _))
 have sz:=Nat.le_of_lt (Heap.lt_size gS);rw[eq];exact wpAny_pure (q s'.heap s'.toks acc' sz kp it)
theorem sorted_of_dict {d}{kvs:List (KK×Value)}{ep:Nat}{ns}{Q:Value->Shared->Prop}(hh:A.handled=none)(hS:(d==sysModules)=false)(hm:s.heap.DictAt knd d kvs ep)(h64:kvs.length<64)
  (hi:∀acc:Array Value,ItemsOf (fun i v=>∃k x,kvs[i]?=some (k,x)/\knd.is k v=true) acc kvs.length->IntsAre acc.toList ns)
  (q:∀h' tk l (out:Array Value) e ns',(∀b o,s.heap.get? b=some o->h'.get? b=some o)->s.heap.objs.size<=l->h'.get? l=some (seqObj "list" out e)->IntsAre out.toList ns'->ns'.Perm ns->ns'.Pairwise (· <= ·)->Q (.ref l) { s with heap:=h',toks:=tk }):wpAny (model prog w) A (call (.builtin "sorted") [.ref d]) Q E s:=by
 refine Calls.call_function_entry kind_sorted plain_sorted entry_sorted (args_sorted1 _) (show wpAny _ _ (checkCount "sorted" 1 1 1 >>= fun _=>collect (.ref d) >>= _) _ _ s from wpAny_bind (wpAny_pure (wpAny_bind ?c1)));refine keys_of_dict hh hS hm (by rw[show sizeLine=16777216 by decide];omega) fun h1 tk acc sz k1 it=>?c2;have hI:=hi acc it
 have len:acc.toList.length<64:=by rw[Array.length_toList,it.1];exact h64
 refine wpAny_bind (wpAny_newList ?c3);have g1:(h1.push (seqObj "list" acc.toList.toArray 0)).get? h1.objs.size=some (seqObj "list" acc.toList.toArray 0):=Heap.get?_push_size _ rfl;show wpAny _ _ _ _ _ { heap:=h1.push (seqObj "list" acc.toList.toArray 0),gens:=s.gens,drawn:=s.drawn,toks:=tk,os:=s.os }
 refine wpAny_bind (wpAny_holding (wpAny_call_entry slot_list_sort ⟨_,g1,rfl⟩ entry_list_sort (list_sort_tree g1 hI len fun out ns' p1 p2 p3=>⟨_,rfl,?c4⟩) (args_list_sort _)));obtain⟨e,ge⟩:=sortedHeap_at (out:=out) g1;refine wpAny_pure ⟨_,rfl,q _ tk h1.objs.size out e ns' (fun b o z=>?c5) ?c6 ge p1 p2 p3⟩
 case c5=>
  have lt:=Heap.lt_size (k1 b o z);rw[sortedHeap_old (Nat.ne_of_lt lt) (by rw[size_push'];exact Nat.lt_succ_of_lt lt)];exact Heap.get?_push_of_some _ (k1 b o z)
 case c6=>exact sz
end
theorem ints_by {us:List Value}{ns:List Int}(l:us.length=ns.length)(f:∀(i:Nat) (u:Value) (n:Int),us[i]?=some u->ns[i]?=some n->∃t,u=.int n t):IntsAre us ns:=by
 induction us generalizing ns with
 | nil=>
  have e:ns=[]:=List.length_eq_zero_iff.mp l.symm;rw[e];exact .nil
 | cons u us ih=>
  obtain⟨n,ns,rfl⟩:=List.exists_cons_of_length_eq_add_one (n:=us.length) l.symm;obtain⟨t,rfl⟩:=f 0 u n rfl rfl;exact .cons n t (ih (Nat.succ.inj l) fun i u' n' a b=>f (i+1) u' n' a b)
section
variable {X:Cx}
theorem call_sortD (hh:X.A.handled=none):CallR X (.builtin "sorted") (fun xs H Q=>∃(a:Addr) (kvs:List (Key×V)) (ns:List Int),xs=[.ref a]/\Rd H a (.dK kvs)/\kvs.map (·.1)=ns.map Sum.inl/\ns.length<64 /\
  ∀ns':List Int,ns'.Perm ns->ns'.Pairwise (· <= ·)->∀l,H l=none->Q (.ref l) (upd H l (.lst (ns'.map V.int)))):=by
 intro pins s σ H xs us Q I r h;obtain⟨a,kvs,ns,rfl,hk,ek,hl,q⟩:=h;obtain⟨u,rfl,ru⟩:=vals1 r;cases ru;obtain⟨hz,hS,vs,rk,m⟩:=dk_rd I.hok hk;obtain⟨ep,hm0⟩:=m.dictAt
 have e1:vs.map (·.1)=kvs.map (·.1):=by
  clear hz m hm0 q hk ek
  induction rk with
  | nil=>rfl
  | cons a b ih=>rw[List.map_cons,List.map_cons,ih,a.1]
 have lv:vs.length=ns.length:=by
  have:=congrArg List.length (e1.trans ek);simpa using this
 refine sorted_of_dict (ns:=ns) hh hS hm0 (by omega) (fun acc it=>?_) fun h' tk l out e ns' kp le g i1 i2 i3=>?_
 ·refine ints_by (by rw[Array.length_toList,it.1,lv]) fun i u n a b=>?_;obtain⟨k,x,e2,e3⟩:=it.2 i u (by simpa using a);have e4:(vs.map (·.1))[i]?=some k:=by rw[List.getElem?_map,e2];rfl
  rw[e1,ek,List.getElem?_map,b] at e4;cases e4;rw[mixKind_is] at e3;exact Value.isInt_shape (show Value.isInt n u=true from e3)
 ·have rel:Vals (ns'.map V.int) out.toList:=vals_ints i1;refine⟨.ref l,_,I.laid (a:=l) (o:=.lst (ns'.map V.int)) (t':=tk) kp le ⟨?_,out.toList,e,rel,by simpa using g⟩,rfl,q ns' i2 i3 l (I.hok.fresh le)⟩;have:=i2.length_eq;rw[List.length_map,show sizeLine=16777216 by decide];omega
end
section
variable {s:Shared}{E:Value->Shared->Prop}{A:Around}{prog:Program}{w:World}
end
section
variable {X:Cx}
end
section
variable {s:Shared}{E:Value->Shared->Prop}{A:Around}{prog:Program}{w:World}
end
section
variable {X:Cx}{o e:Expr}{es:List Expr}{to:TE}{t:TA}{name:Str}{apos cpos:Pos}{id:String}{r:V->List V->Hp->VK->Prop}
end
section
variable {X:Cx}
theorem op_inD (hu:X.A.units+1<cLine):OpR X (compareOp .In) (fun x y H Q=>∃a o,y=.ref a/\DGet H a x o/\Q (.bl o.isSome) H):=by
 intro pins s σ H x y v u Q I rx ry h;obtain⟨a,o,rfl,g,q⟩:=h;cases ry;exact d_in hu I g rx fun s' I'=>⟨.bl _,H,I',rfl,q⟩
theorem op_notInD (hu:X.A.units+1<cLine):OpR X (compareOp .NotIn) (fun x y H Q=>∃a o,y=.ref a/\DGet H a x o/\Q (.bl (!o.isSome)) H):=by
 intro pins s σ H x y v u Q I rx ry h;obtain⟨a,o,rfl,g,q⟩:=h;cases ry;exact d_notIn hu I g rx fun s' I'=>⟨.bl _,H,I',rfl,q⟩
end
end L2
namespace L2
open PySem
section
variable {prog:Program}{w:World}{A:Around}{E:Value->Shared->Prop}{s:Shared}{z TI TO i1 i2 l1 l2:Addr}{n1 n2 i:Nat}{P1 P2:Nat->Value->Prop}{St1 St2:Nat->Heap->Prop}
end
section
variable {prog:Program}{w:World}{A:Around}{E:Value->Shared->Prop}{s:Shared}{z TI TO:Addr}{f0 f1:Value}
end
section
variable {s:Shared}{E:Value->Shared->Prop}{A:Around}{prog:Program}{w:World}
variable {z TI TO i1 i2 l1 l2:Addr}{n1 n2 i:Nat}{P1 P2:Nat->Value->Prop}{St1 St2:Nat->Heap->Prop}
end
end L2
namespace L2
open PySem PyProof PyProof.Rows
section
variable {prog:Program}{w:World}{A:Around}{KK:Type}[DecidableEq KK]{knd:KeyKind prog w KK}{R:Result->Shared->Prop}
variable {z TI TO i1 i2 l1 l2:Addr}{n:Nat}{P1 P2:Nat->Value->Prop}{St1 St2:Nat->Heap->Prop}
end
section
variable {prog:Program}{w:World}{A:Around}{E:Value->Shared->Prop}{s:Shared}{KK:Type}[DecidableEq KK]{knd:KeyKind prog w KK}
end
section
variable {X:Cx}{a b:Expr}{t:TA}{p p' pos pos':Pos}{tp:Bool}
end
section
variable {X:Cx}
theorem call_dictD:CallR X (.type "dict") (fun xs H Q=>∃(a:Addr) (kvs:List (Key×V)),xs=[.ref a]/\Rd H a (.dK kvs)/\∀l,H l=none->Q (.ref l) (upd H l (.dK kvs))):=by
 intro pins s σ H xs us Q I r h;obtain⟨a,kvs,rfl,hk,q⟩:=h;obtain⟨u,rfl,ru⟩:=vals1 r;cases ru;obtain⟨hz,hS,vs,rk,m⟩:=dk_rd I.hok hk;refine kt_call_dict hS m (by rw[<- rk.length];exact hz) fun h' hd hs=>?_;have kk:∀c o,s.heap.get? c=some o->h'.get? c=some o:=fun c o e=>hs.extBut _ _ (Nat.ne_of_lt (Heap.lt_size e)) (Heap.get?_push_of_some _ e)
 refine⟨.ref s.heap.objs.size,_,I.laid (a:=s.heap.objs.size) (o:=.dK kvs) (t':=s.toks) kk (Nat.le_refl _) ⟨hz,?_,vs,rk,hd⟩,rfl,q _ (I.hok.fresh (Nat.le_refl _))⟩;have:=I.big;exact beq_eq_false_iff_ne.mpr (by intro z;simp only[Addr] at *;omega)
end
theorem Inv.turnN {X:Cx}{pins}{σ:St}{H:Hp}{s:Shared}{h':Heap}{t':Nat}(ch:List Addr)(I:Inv X pins σ H s)(hf:∀b∈ch,FpOk X pins H b)(k:∀b o,b∉ch->s.heap.get? b=some o->h'.get? b=some o):Inv X pins σ H { s with heap:=h',toks:=t' }:=by
 have nH:∀b u,H b=some u->b∉ch:=fun b u q z=>by rw[(hf b z).1] at q;cases q
 refine I.step (g':=s.gens) (d':=s.drawn) (ch:=ch) (fun b hb=>?_) (fun b o _ _ hc q _=>k b o hc q) (fun b o _ _ hc q _=>⟨o.slots,k b o hc q⟩)
  (fun _ _ _ _ n=>n) (fun b o hc q=>⟨o,k b o hc q⟩) (fun _ _ e=>e) (fun _ _ _ e=>e) (fun b ps e=>⟨#[],by rw[e];simp⟩) (fun m hm=>?_) (fun b u q=>?_) I.bare
 ·obtain⟨_,f1,_,f3,f4,f5⟩:=hf b hb;exact⟨f3,f1,f4,f5⟩
 ·obtain⟨o,es,ep,ho,r⟩:=hm;exact⟨o,es,ep,k _ o (fun z=>(hf _ z).2.1 rfl) ho,r⟩
 ·refine(I.hok b u q).stay (fun c v hc z=>?_) (fun _ z=>z) fun _ _ z=>z;rcases hc with rfl|hc
  ·exact k _ v (nH _ _ q) z
  ·exact k _ v (nH _ _ hc) z
theorem Inv.turnT {X:Cx}{pins}{σ:St}{H:Hp}{s:Shared}{h':Heap}{t':Nat}{T}{xs:List V}{us:List Value}(ch:List Addr)(I:Inv X pins σ H s)(hf:∀b∈ch,FpOk X pins H b)(k:∀b o,b∉ch->s.heap.get? b=some o->h'.get? b=some o)
  (lT:s.heap.objs.size<=T) (r:Vals xs us) (hz:xs.length<=sizeLine) (hT:h'.get? T=some { cls:=.type "tuple",data:=.seq us.toArray }):Inv X pins σ (upd H T (.tup xs)) { s with heap:=h',toks:=t' }:=by
 have fT:H T=none:=I.hok.fresh lT;have nT:∀b o,s.heap.get? b=some o->b≠T:=fun b o q=>Nat.ne_of_lt (Nat.lt_of_lt_of_le (Heap.lt_size q) lT);have nH:∀b u,H b=some u->b∉ch:=fun b u q z=>by rw[(hf b z).1] at q;cases q
 refine I.step (g':=s.gens) (d':=s.drawn) (ch:=ch) (fun b hb=>?_) (fun b o _ _ hc q _=>k b o hc q) (fun b o _ _ hc q _=>⟨o.slots,k b o hc q⟩)
  (fun b o _ q n=>by rw[upd_ne (nT b o q)];exact n) (fun b o hc q=>⟨o,k b o hc q⟩) (fun b ys q=>by rw[upd_ne (ne_of_none q fT)];exact q) (fun b o u q=>by rw[upd_ne (ne_of_none q fT)];exact q)
  (fun b ps q=>⟨#[],by rw[upd_ne (ne_of_none q fT),q];simp⟩) (fun m hm=>?_) (fun b u q=>?_) I.bare
 ·obtain⟨_,f1,_,f3,f4,f5⟩:=hf b hb;exact⟨f3,f1,f4,f5⟩
 ·obtain⟨o,es,ep,ho,r⟩:=hm;exact⟨o,es,ep,k _ o (fun z=>(hf _ z).2.1 rfl) ho,r⟩
 ·by_cases hb:b=T
  ·subst hb;rw[upd_same] at q;cases q;exact⟨hz,us,r,⟨_,hT,rfl,_,rfl⟩,fun o z=>by rw[hT] at z;cases z;rfl⟩
  ·rw[upd_ne hb] at q;refine(I.hok b u q).stay (fun c v hc z=>?_) (fun c z=>by rw[upd_ne (ne_of_none z fT)];exact z) fun c ys z=>by rw[upd_ne (ne_of_none z fT)];exact z
   rcases hc with rfl|hc
   ·exact k _ v (nH _ _ q) z
   ·exact k _ v (nH _ _ hc) z
section
variable {X:Cx}
end
def Any1 (K:Frag)(H:Hp)(v:V)(t:Value):Prop:=Thg K H v t\/∃(a C dx:Addr) (fs:List (Str×V)),v=.ref a/\H a=some (.ins C dx fs)/\InsC K C/\t=.ref C
section
variable {X:Cx}
theorem Any1.kit {pins}{σ:St}{H:Hp}{s:Shared}{v u t}(I:Inv X pins σ H s)(r:RelV v u)(x:Any1 X.K H v t):u≠.builtin "__main__.__loader__#opaque"/\∃φ,PySem.W.KitX X.K u t φ/\φ s.heap:=by
 rcases x with x|⟨a,C,dx,fs,rfl,ea,c,rfl⟩
 ·exact x.kit I r
 ·cases(show u=Value.ref a from r);obtain⟨mA,O,_⟩:=ins_get I.hok ea;obtain⟨od,J,_⟩:=O.look;exact⟨(fun z=>nomatch z),_,PySem.W.kitx_own (c.cl.get _) c.cl.hd c.ha c.hn c.tk c.hm,J⟩
theorem call_instA:CallR X (.builtin "isinstance") (fun xs H Q=>∃v c t b,xs=[v,c]/\Any1 X.K H v t /\
  ((∃T,c=.ty T/\kitOne X.K t (.type T)=some b)\/(∃C,c=.ref C/\kitOne X.K t (.ref C)=some b) \/
    ∃tp cs,c=.ref tp/\H tp=some (.tup cs)/\(∀c∈cs,(∃n,c=.ty n)\/∃a,c=.ref a)/\kitAny X.K t (cs.map vOf)=some b)/\Q (.bl b) H):=by
  intro pins s σ H xs us Q I r h;obtain⟨v,c,t,b,rfl,x,hc,q⟩:=h;obtain⟨u,u',rfl,ru,ru'⟩:=vals2 r;obtain⟨hx,φ,Z,p⟩:=x.kit I ru;have fin:∀tk,EP X pins σ Q (.bool b) { s with toks:=tk }:=fun tk=>⟨.bl b,H,I.tok tk,rfl,q⟩;rcases hc with⟨T,rfl,e⟩|⟨C,rfl,e⟩|⟨tp,cs,rfl,ht,hcs,e⟩
  · cases(show u'=Value.type T from ru')
    exact kia_one Z I.kIn p e hx fin
  · cases(show u'=Value.ref C from ru')
    exact kia_one Z I.kIn p e hx fin
  · cases(show u'=Value.ref tp from ru')
    obtain⟨_,its,rv,⟨o,h1,h2,n,h3⟩,_⟩:=(show ObjOk X.prog X.w H s.heap tp (.tup cs) from I.hok tp _ ht);rcases o with⟨oc,od,odt,osl⟩;cases(show oc=_ from h2);cases(show odt=_ from h3);rw[<- vals_vOf rv hcs] at e;exact PySem.W.kia_tup Z I.kIn p h1 e hx fin
end
end L2
namespace L2
open PySem PySem.Spec PyProof.Rows
section
variable {X:Cx}{pins:List (Addr×Obj)}{σ:St}{H:Hp}{s:Shared}{h':Heap}
end
open PySem.SeqAt
open PySem.AutoSeq1 (wpAny_loadPart')
open PySem.MeetsSeq PySem.MeetsSeq2 PySem.MeetsSeq3
section
variable {s:Shared}{E:Value->Shared->Prop}{A:Around}{prog:Program}{w:World}
end
section
variable {X:Cx}
end
end L2
namespace L2
open PySem PyProof PyProof.Rows
section
variable {X:Cx}{pins:List (Addr×Obj)}{σ:St}{H:Hp}{s:Shared}{d:Addr}{u u':HO}
theorem Inv.swap (I:Inv X pins σ H s)(hd:H d=some u)(nt:∀xs,u≠.tup xs)(nw:∀y,u≠.own y)(nb:∀ps,u≠.tbl ps)(nf:∀o z,X.H₀ d≠some (.frz o z))(new:ObjOk X.prog X.w (upd H d u') s.heap d u'):Inv X pins σ (upd H d u') s:=by
 have no:∀{b:Addr},H b=none->upd H d u' b=none:=fun {b} h=>by rw[upd_ne (fun e=>by rw[e,hd] at h;cases h)];exact h
 have tp:∀b xs,H b=some (.tup xs)->upd H d u' b=some (.tup xs):=fun b xs h=>by
  rw[upd_ne (fun e=>by rw[e,hd] at h;injection h with h;exact nt xs h)];exact h
 refine⟨I.ok,I.os,I.bare,⟨I.base.keep,I.base.slot,fun b o e n hx=>no (I.base.free b o e n hx),I.base.there,fun b xs e=>tp b xs (I.base.tups b xs e),fun b o z e=>?_,fun b ps e=>?_⟩,I.loc,I.cell,no I.free,fun x c e=>no (I.freeC x c e),fun p hp=>?_,fun a o e=>?_,I.len⟩
 ·rw[upd_ne (fun e'=>nf o z (by rw[<- e'];exact e))];exact I.base.frzs b o z e
 ·obtain⟨more,h⟩:=I.base.tbls b ps e;refine⟨more,?_⟩;rw[upd_ne (fun e'=>by rw[e',hd] at h;injection h with h;exact nb _ h)];exact h
 ·obtain⟨e,n,r⟩:=I.pin p hp;exact⟨e,no n,r⟩
 ·by_cases h:a=d
  ·subst h;rw[upd_same] at e;cases e;exact new
  ·rw[upd_ne h] at e;refine(I.hok a o e).stay (fun b v _ q=>q) (fun b q=>?_) tp;rw[upd_ne (fun e'=>by rw[e',hd] at q;injection q with q;exact nw _ q)];exact q
theorem Inv.notFrz {v}(I:Inv X pins σ H s)(hd:H d=some v)(n:∀o z,v≠.frz o z):∀o z,X.H₀ d≠some (.frz o z):=fun o z e=>by
 have:=I.base.frzs d o z e;rw[hd] at this;injection this with this;exact n o z this
theorem Inv.freeze {kvs}(I:Inv X pins σ H s)(hd:H d=some (.dK kvs)):∃o,s.heap.get? d=some o/\Inv X pins σ (upd H d (.frz o (.dK kvs))) s:=by
 have x:=I.hok d _ hd;obtain⟨_,_,_,_,o,_,_,e,_⟩:=id x;refine⟨o,e,I.swap hd (fun _ z=>nomatch z) (fun _ z=>nomatch z) (fun _ z=>nomatch z) (I.notFrz hd fun _ _ z=>nomatch z) ⟨e,?_⟩⟩;refine x.stay (fun b v _ q=>q) (fun b q=>?_) fun b xs q=>?_
 ·rw[upd_ne (ne_of q hd (fun z=>nomatch z))];exact q
 ·rw[upd_ne (ne_of q hd (fun z=>nomatch z))];exact q
theorem Inv.thaw {kvs o}(I:Inv X pins σ H s)(hd:H d=some (.frz o (.dK kvs)))(nf:∀o z,X.H₀ d≠some (.frz o z)):Inv X pins σ (upd H d (.dK kvs)) s:=by
 obtain⟨_,x⟩:=I.hok d _ hd;refine I.swap hd (fun _ z=>nomatch z) (fun _ z=>nomatch z) (fun _ z=>nomatch z) nf ?_;refine x.stay (fun b v _ q=>q) (fun b q=>?_) fun b xs q=>?_
 ·rw[upd_ne (ne_of q hd (fun z=>nomatch z))];exact q
 ·rw[upd_ne (ne_of q hd (fun z=>nomatch z))];exact q
theorem frz_at {P w}{h:Heap}{o:Obj}{es}{ep:Nat}{kvs}(ok:HOk P w H h)(hd:H d=some (.frz o (.dK kvs)))(ed:o.data=.dict es ep):(d==sysModules)=false/\∃vs,KV kvs vs/\h.DictAt (mixKind P w) d vs ep:=by
 obtain⟨e,_,hS,vs,rk,o',es',ep',e',c,ed',r⟩:=ok d _ hd;rw[e] at e';cases e';rw[ed] at ed';cases ed';exact⟨hS,vs,rk,o,es,e,c,ed,r⟩
end
theorem KV.get {kvs}{vs:List (Key×Value)}(r:KV kvs vs):∀{i:Nat} {k:Key} {x:V},kvs[i]?=some (k,x)->∃v,vs[i]?=some (k,v)/\RelV x v:=by
 induction r with
 | nil=>intro i k x h;cases h
 | @cons a b l m h t ih=>
  intro i k x e;cases i with
  | zero=>
   have e':some a=some (k,x):=e;cases e';obtain⟨h1,h2⟩:=h;obtain⟨b1,b2⟩:=b;cases h1;exact⟨b2,rfl,h2⟩
  | succ i=>exact ih (i:=i) e
theorem rel_key {k u}(h:keyIs k u=true):RelV (kV k) u:=by
 rcases keyIs_shape h with⟨i,t,rfl,rfl⟩|⟨x,t,rfl,rfl⟩
 ·exact⟨t,rfl⟩
 ·exact⟨t,rfl⟩
def Iti (d:Addr)(o:Obj)(kvs:List (Key×V)):It:=
 ⟨fun i H=>H d=some (.frz o (.dK kvs))/\i<kvs.length,fun i H v H'=>∃t k x,v=.ref t/\H t=none/\kvs[i]?=some (k,x)/\H'=upd H t (.tup [kV k,x]),fun i H=>H d=some (.frz o (.dK kvs))/\kvs.length<=i⟩
def Itv (d:Addr)(o:Obj)(kvs:List (Key×V)):It:=
 ⟨fun i H=>H d=some (.frz o (.dK kvs))/\i<kvs.length,fun i H v H'=>H'=H/\∃k,kvs[i]?=some (k,v),fun i H=>H d=some (.frz o (.dK kvs))/\kvs.length<=i⟩
theorem turn_items {P w K elts}{kk:Nat}{tpos d it}{o:Obj}{es}{ep:Nat}{kvs:List (Key×V)}(ed:o.data=.dict es ep) :
  Turn P w K (.Tuple elts kk tpos) (Iti d o kvs) [it] it (fun i h=>∃ok ov,IsItemIter h it d i kvs.length ep ok ov) where
 mem:=by simp
 obj:=fun i h st b hb=>by
  have e:b=it:=by simpa using hb
  subst e;obtain⟨ok,ov,e⟩:=st;exact⟨_,e,fun v z=>by have z':Data.fields _=Data.cell v:=z;cases z'⟩
 keep:=fun i h h' st k=>by
  obtain⟨ok,ov,e⟩:=st;exact⟨ok,ov,k it (by simp) _ e⟩
 item:=by
  intro X hP hw hK hc i pins s σ H E I hf st hg;subst hP hw hK;obtain⟨ok,ov,hit⟩:=st;obtain⟨hd,hi⟩:=hg;obtain⟨hS,vs,rk,hm⟩:=frz_at I.hok hd ed;have lv:kvs.length=vs.length:=Paired.length rk;rw[lv] at hit;obtain⟨k,x,ex⟩:∃k x,kvs[i]?=some (k,x):=⟨kvs[i].1,kvs[i].2,List.getElem?_eq_getElem hi⟩;obtain⟨v,ev,rv⟩:=KV.get rk ex
  refine wpAny_pyNext_items_item hit hm ev fun key h' hk ho hT sz kp=>⟨_,rfl,?_⟩;refine wpAny_letOwnedTupleGo_items (s:={ s with heap:=h' }) ho fun h2 hit2 sb=>?_;replace sb:Heap.SameBut it h' h2:=sb;have nT:s.heap.objs.size≠it:=Nat.ne_of_gt (Heap.lt_size hit);have hT2:=sb.extBut _ _ nT hT
  have J:Inv X pins σ (upd H s.heap.objs.size (.tup [kV k,x])) { s with heap:=h2,toks:=s.toks }:=by
   refine I.turnT (xs:=[kV k,x]) (us:=[key,v]) [it] hf (fun c o' hc' e=>?_) (Nat.le_refl _) (.cons (rel_key hk) (.cons rv .nil)) (by show 2<=sizeLine;decide) hT2;have nc:c≠it:=fun z=>hc' (by simp[z]);exact sb.extBut _ _ nc (kp c o' nc e)
  refine⟨.ref s.heap.objs.size,_,J,rfl,⟨_,k,x,rfl,I.hok.fresh (Nat.le_refl _),ex,rfl⟩,⟨_,_,by rw[lv];exact hit2⟩,fun b hb=>?_⟩;have eb:b=it:=by simpa using hb
  subst eb;rw[upd_ne (Ne.symm nT)];exact(hf b hb).1
 done:=by
  intro X hP hw hK hc i pins s σ H E I hf st hg;subst hP hw hK;obtain⟨ok,ov,hit⟩:=st;obtain⟨hd,hi⟩:=hg;obtain⟨hS,vs,rk,hm⟩:=frz_at I.hok hd ed;have lv:kvs.length=vs.length:=Paired.length rk;rw[lv] at hit hi;obtain⟨f0,f1,f2,f3,f4,f5⟩:=hf it (by simp)
  exact wpAny_pyNext_items_end (I.ok.hd hc) hit hm (List.getElem?_eq_none hi) fun h' eb=>⟨rfl,I.turned (t':=s.toks) (fun b o hb e=>eb b o hb e) f0 f1 f3 f4 f5⟩
 self:=fun A i s Q E st h=>by
  obtain⟨ok,ov,e⟩:=st;exact PySem.W.kcp_self e h
theorem turn_values {P w K tg d it}{o:Obj}{es}{ep:Nat}{kvs:List (Key×V)}(ed:o.data=.dict es ep) :
  Turn P w K tg (Itv d o kvs) [it] it (fun i h=>h.IsValIter it d i kvs.length ep) where
 mem:=by simp
 obj:=fun i h st b hb=>by
  have e:b=it:=by simpa using hb
  subst e;obtain⟨o,e,c,dd⟩:=st;exact⟨o,e,fun v z=>by rw[dd] at z;cases z⟩
 keep:=fun i h h' st k=>st.at fun o e=>k it (by simp) o e
 item:=by
  intro X hP hw hK hc i pins s σ H E I hf st hg;subst hP hw hK;obtain⟨hd,hi⟩:=hg;obtain⟨hS,vs,rk,hm⟩:=frz_at I.hok hd ed;have lv:kvs.length=vs.length:=Paired.length rk;rw[lv] at st;obtain⟨k,x,ex⟩:∃k x,kvs[i]?=some (k,x):=⟨kvs[i].1,kvs[i].2,List.getElem?_eq_getElem hi⟩;obtain⟨v,ev,rv⟩:=KV.get rk ex;obtain⟨f0,f1,f2,f3,f4,f5⟩:=hf it (by simp)
  refine wpAny_pyNext_values_item st hm ev fun h' st' sb=>?_;have I1:Inv X pins σ H { s with heap:=h' }:=I.turned (t':=s.toks) (fun b o hb e=>(sb.2 b hb).trans e) f0 f1 f3 f4 f5;obtain⟨o',e,c,dd⟩:=id st';exact⟨v,rfl,go_of (s:={ s with heap:=h' }) e c dd (by decide) ⟨x,H,I1,rv,⟨rfl,k,ex⟩,by rw[lv];exact st',fun b hb=>(hf b hb).1⟩⟩
 done:=by
  intro X hP hw hK hc i pins s σ H E I hf st hg;subst hP hw hK;obtain⟨hd,hi⟩:=hg;obtain⟨hS,vs,rk,hm⟩:=frz_at I.hok hd ed;have lv:kvs.length=vs.length:=Paired.length rk;rw[lv] at st hi;obtain⟨f0,f1,f2,f3,f4,f5⟩:=hf it (by simp);exact wpAny_pyNext_values_end (I.ok.hd hc) st hm (List.getElem?_eq_none hi) fun h' eb=>⟨rfl,I.turned (t':=s.toks) (fun b o hb e=>eb b o hb e) f0 f1 f3 f4 f5⟩
 self:=fun _ _ _ _ _ st h=>wpAny_pyIter_valiter st h
section
variable {X:Cx}{o:Expr}{to:TE}{apos cpos:Pos}
def iItems (to:TE):TI:=fun σ H R=>to σ H fun x H1=>∃d kvs,x=.ref d/\H1 d=some (.dK kvs)/\∀ob,R (Iti d ob kvs) (upd H1 d (.frz ob (.dK kvs)))
def iVals (to:TE):TI:=fun σ H R=>to σ H fun x H1=>∃d kvs,x=.ref d/\H1 d=some (.dK kvs)/\∀ob,R (Itv d ob kvs) (upd H1 d (.frz ob (.dK kvs)))
theorem pi_items {elts:List Expr}{kk:Nat}{tpos:Pos}(ho:PE X o to)(hbase:attributeBase o "items" X.env (eval o X.env)=eval o X.env:=by rfl)(hline:(apos.endLine==cpos.line)=true:=by rfl) :
  PI X (.Tuple elts kk tpos) (.Call (.Attribute o "items" apos) [] [] cpos) (iItems to):=by
 intro pins s σ H R I h;refine wpAny_Call_method0_late hbase hline (thn (ho pins s σ H _ I h) fun v s1 ⟨x,H1,I1,r1,q1⟩=>?_);obtain⟨d,kvs,rfl,hd,q⟩:=q1;cases r1;obtain⟨h1,h2⟩:=tyV_is (T:="dict") (x:=.ref d) I1 rfl (.inr (.inr (.inl ⟨rfl,.inl ⟨kvs,hd⟩⟩)))
 refine⟨"dict","dict.items",PySem.F.plainAttrs_dict,PySem.F.slot_dict_items,PySem.F.type_dict_items,h1,h2,Calls.callWith_builtin rfl (PySem.evalArgs_none ?_)⟩;obtain⟨ob,eo,I2⟩:=I1.freeze hd;obtain⟨hz,hS,vs,rk,m⟩:=dk_of I1.hok hd;have hT:=m.typeIs
 refine call_meetsIn PySem.F.slot_dict_items hT PySem.F.entry_dict_items (PySem.F.args_dict_items_1 _) (meets_dict_items (mixKind X.prog X.w) d hS) ⟨⟨vs,m⟩,?_⟩;obtain⟨ep,hm⟩:=m.dictAt;obtain⟨o',es,eo',c,ed,r⟩:=id hm;rw[eo] at eo';cases eo';refine wpAny_pyIter_items (v:=s1.heap.objs.size) (d:=d) (kvs:=vs) (ep:=ep) ⟨_,Heap.get?_push_size _ rfl,rfl,rfl⟩ (hm.push _) ?_
 have lv:kvs.length=vs.length:=Paired.length rk;have k2:∀b u,s1.heap.get? b=some u->((s1.heap.push { cls:=.type "dict_items",data:=.fields #[.ref d] }).push { cls:=.type "dict_itemiterator",data:=.fields #[.none,.bool false,.ref d,.int 0 0,.int vs.length 0,.int ep 0,.none,.none] }).get? b=some u:=fun b u e=>Heap.get?_push_of_some _ (Heap.get?_push_of_some _ e)
 refine⟨(s1.heap.push { cls:=.type "dict_items",data:=.fields #[.ref d] }).objs.size,[(s1.heap.push { cls:=.type "dict_items",data:=.fields #[.ref d] }).objs.size],_,_,_,rfl,I2.kept (t':=s1.toks) k2,turn_items ed,⟨.none,.none,?_⟩,fun b hb=>?_,q ob⟩
 ·rw[lv];exact Heap.get?_push_size _ rfl
 ·have e:b=(s1.heap.push { cls:=.type "dict_items",data:=.fields #[.ref d] }).objs.size:=by simpa using hb
  have le:s1.heap.objs.size<=b:=by rw[e,Heap.size_push];exact Nat.le_succ _
  exact I2.fpOk le (I2.hok.fresh le)
theorem pi_vals {tg:Expr}(ho:PE X o to)(hbase:attributeBase o "values" X.env (eval o X.env)=eval o X.env:=by rfl)(hline:(apos.endLine==cpos.line)=true:=by rfl) :
  PI X tg (.Call (.Attribute o "values" apos) [] [] cpos) (iVals to):=by
 intro pins s σ H R I h;refine wpAny_Call_method0_late hbase hline (thn (ho pins s σ H _ I h) fun v s1 ⟨x,H1,I1,r1,q1⟩=>?_);obtain⟨d,kvs,rfl,hd,q⟩:=q1;cases r1;obtain⟨h1,h2⟩:=tyV_is (T:="dict") (x:=.ref d) I1 rfl (.inr (.inr (.inl ⟨rfl,.inl ⟨kvs,hd⟩⟩)))
 refine⟨"dict","dict.values",PySem.F.plainAttrs_dict,PySem.F.slot_dict_values,PySem.F.type_dict_values,h1,h2,Calls.callWith_builtin rfl (PySem.evalArgs_none ?_)⟩;obtain⟨ob,eo,I2⟩:=I1.freeze hd;obtain⟨hz,hS,vs,rk,m⟩:=dk_of I1.hok hd;have hT:=m.typeIs
 refine call_meetsIn PySem.F.slot_dict_values hT PySem.F.entry_dict_values (PySem.F.args_dict_values_1 _) (meets_dict_values (mixKind X.prog X.w) d hS) ⟨⟨vs,m⟩,?_⟩;obtain⟨ep,hm⟩:=m.dictAt;obtain⟨o',es,eo',c,ed,r⟩:=id hm;rw[eo] at eo';cases eo';refine wpAny_pyIter_values (v:=s1.heap.objs.size) (d:=d) (kvs:=vs) (ep:=ep) ⟨_,Heap.get?_push_size _ rfl,rfl,rfl⟩ (hm.push _) ?_
 have lv:kvs.length=vs.length:=Paired.length rk;have k2:∀b u,s1.heap.get? b=some u->((s1.heap.push { cls:=.type "dict_values",data:=.fields #[.ref d] }).push { cls:=.type "dict_valueiterator",data:=.fields #[.ref d,.int 0 0,.int vs.length 0,.int ep 0] }).get? b=some u:=fun b u e=>Heap.get?_push_of_some _ (Heap.get?_push_of_some _ e)
 refine⟨(s1.heap.push { cls:=.type "dict_values",data:=.fields #[.ref d] }).objs.size,[(s1.heap.push { cls:=.type "dict_values",data:=.fields #[.ref d] }).objs.size],_,_,_,rfl,I2.kept (t':=s1.toks) k2,turn_values ed,?_,fun b hb=>?_,q ob⟩
 ·rw[lv];exact⟨_,Heap.get?_push_size _ rfl,rfl,rfl⟩
 ·have e:b=(s1.heap.push { cls:=.type "dict_values",data:=.fields #[.ref d] }).objs.size:=by simpa using hb
  have le:s1.heap.objs.size<=b:=by rw[e,Heap.size_push];exact Nat.le_succ _
  exact I2.fpOk le (I2.hok.fresh le)
def tThaw (t:TE):TE:=fun σ H Q=>∃d v,H d=some v/\(∀o z,v≠.frz o z)/\t σ H fun x H1=>∃o kvs,H1 d=some (.frz o (.dK kvs))/\Q x (upd H1 d (.dK kvs))
theorem pe_thaw {e t}(he:PE X e t):PE X e (tThaw t):=by
 intro pins s σ H Q I h;obtain⟨d,v,hd,nf,h⟩:=h;have n0:=I.notFrz hd nf;refine thn (he pins s σ H _ I h) fun u s1 ⟨x,H1,I1,r1,o,kvs,h1,q⟩=>⟨x,_,I1.thaw h1 n0,r1,q⟩
end
section
variable {X:Cx}{pins:List (Addr×Obj)}{σ:St}{H:Hp}{s:Shared}
theorem Inv.track {a o}(I:Inv X pins σ H s)(f:FpOk X pins H a)(h0:X.s₀.heap.objs.size<=a)(new:ObjOk X.prog X.w (upd H a o) s.heap a o):Inv X pins σ (upd H a o) s:=by
 obtain⟨f0,f1,_,_,f4,f5⟩:=f;have nb:∀{b:Addr} {u:HO},H b=some u->upd H a o b=some u:=fun {b u} h=>by rw[upd_ne (ne_of_none h f0)];exact h
 refine⟨I.ok,I.os,I.bare,⟨I.base.keep,I.base.slot,fun b ob e n hx=>?_,I.base.there,fun b xs e=>nb (I.base.tups b xs e),fun b ob z e=>nb (I.base.frzs b ob z e),fun b ps e=>?_⟩,I.loc,I.cell,?_,fun x c e=>?_,fun p hp=>?_,fun b u e=>?_,I.len⟩
 ·rw[upd_ne (Nat.ne_of_lt (Nat.lt_of_lt_of_le (Heap.lt_size e) h0))];exact I.base.free b ob e n hx
 ·obtain⟨more,h⟩:=I.base.tbls b ps e;exact⟨more,nb h⟩
 ·rw[upd_ne (Ne.symm f1)];exact I.free
 ·rw[upd_ne (f4 x c e)];exact I.freeC x c e
 ·obtain⟨e,n,r⟩:=I.pin p hp;exact⟨e,by rw[upd_ne (f5 p hp)];exact n,r⟩
 ·by_cases h:b=a
  ·subst h;rw[upd_same] at e;cases e;exact new
  ·rw[upd_ne h] at e;exact(I.hok b u e).stay (fun c v _ q=>q) (fun c q=>nb q) fun c xs q=>nb q
theorem Inv.tracks:∀(as:List Addr) (qs:List (List V)) {H:Hp},Inv X pins σ H s->as.length=qs.length->as.Pairwise (· < ·)->(∀a∈as,FpOk X pins H a/\X.s₀.heap.objs.size<=a) ->
  (∀(j:Nat) (a:Addr) (q:List V),as[j]?=some a->qs[j]?=some q->q.length<=sizeLine/\∃us:List Value,Vals q us/\s.heap.get? a=some { cls:=.type "tuple",data:=.seq us.toArray }) ->
  ∃H',Inv X pins σ H' s/\(∀b o,H b=some o->H' b=some o)/\∀(j:Nat) (a:Addr) (q:List V),as[j]?=some a->qs[j]?=some q->H' a=some (.tup q)
 | [],qs,H,I,_,_,_,_=>⟨H,I,fun _ _ z=>z,fun j a q e=>nomatch e⟩
 | a::as,[],H,I,l,_,_,_=>nomatch l
 | a::as,q::qs,H,I,l,pw,hf,ho=>by
  obtain⟨pa,pw'⟩:=List.pairwise_cons.mp pw;obtain⟨hz,us,rv,e⟩:=ho 0 a q rfl rfl;obtain⟨fa,h0⟩:=hf a (List.mem_cons_self ..);have I1:Inv X pins σ (upd H a (.tup q)) s:=I.track fa h0 ⟨hz,us,rv,⟨_,e,rfl,_,rfl⟩,fun o z=>by rw[e] at z;cases z;rfl⟩;have na:∀b o,H b=some o->upd H a (.tup q) b=some o:=fun b o z=>by rw[upd_ne (ne_of_none z fa.1)];exact z
  obtain⟨H',I',k',t'⟩:=Inv.tracks as qs I1 (Nat.succ.inj l) pw' (fun b hb=>by
   obtain⟨⟨g0,g⟩,gl⟩:=hf b (List.mem_cons_of_mem _ hb);have lt:=pa b hb
   exact⟨⟨by rw[upd_ne (Nat.ne_of_gt lt)];exact g0,g⟩,gl⟩) fun j b p e1 e2=>ho (j+1) b p e1 e2
  refine⟨H',I',fun b o z=>k' b o (na b o z),fun j b p e1 e2=>?_⟩;cases j with
  | zero=>
   have e1':some a=some b:=e1;have e2':some q=some p:=e2;cases e1';cases e2';exact k' _ _ upd_same
  | succ j=>exact t' j b p e1 e2
end
def ViewI (v d:Addr):HO:=.ext fun h=>h.IsItemsView v d
section
variable {X:Cx}{o:Expr}{to:TE}{apos cpos:Pos}
def tItems (to:TE):TE:=fun σ H Q=>to σ H fun x H1=>∃d kvs,x=.ref d/\H1 d=some (.dK kvs)/\∀v,H1 v=none->Q (.ref v) (upd H1 v (ViewI v d))
theorem pe_items (ho:PE X o to)(hbase:attributeBase o "items" X.env (eval o X.env)=eval o X.env:=by rfl)(hline:(apos.endLine==cpos.line)=true:=by rfl) :
  PE X (.Call (.Attribute o "items" apos) [] [] cpos) (tItems to):=by
 intro pins s σ H Q I h;refine wpAny_Call_method0_late hbase hline (thn (ho pins s σ H _ I h) fun v s1 ⟨x,H1,I1,r1,q1⟩=>?_);obtain⟨d,kvs,rfl,hd,q⟩:=q1;cases r1;obtain⟨h1,h2⟩:=tyV_is (T:="dict") (x:=.ref d) I1 rfl (.inr (.inr (.inl ⟨rfl,.inl ⟨kvs,hd⟩⟩)))
 refine⟨"dict","dict.items",PySem.F.plainAttrs_dict,PySem.F.slot_dict_items,PySem.F.type_dict_items,h1,h2,Calls.callWith_builtin rfl (PySem.evalArgs_none ?_)⟩;obtain⟨hz,hS,vs,rk,m⟩:=dk_of I1.hok hd;refine call_meetsIn PySem.F.slot_dict_items m.typeIs PySem.F.entry_dict_items (PySem.F.args_dict_items_1 _) (meets_dict_items (mixKind X.prog X.w) d hS) ⟨⟨vs,m⟩,?_⟩
 have g:(s1.heap.push { cls:=.type "dict_items",data:=.fields #[.ref d] }).get? s1.heap.objs.size=some { cls:=.type "dict_items",data:=.fields #[.ref d] }:=Heap.get?_push_size _ rfl;refine⟨.ref s1.heap.objs.size,_,I1.laid (a:=s1.heap.objs.size) (o:=ViewI s1.heap.objs.size d) (t':=s1.toks) (fun b u e=>Heap.get?_push_of_some _ e) (Nat.le_refl _) ?_,rfl,q _ (I1.hok.fresh (Nat.le_refl _))⟩
 exact⟨⟨_,g,rfl,rfl⟩,⟨_,g⟩,fun a b ⟨ob,e,c⟩ k=>⟨ob,k ob e,c⟩⟩
theorem vals_refs:∀(as:List Addr),Vals (as.map V.ref) (as.map Value.ref)
 | []=>.nil
 | _::as=>.cons rfl (vals_refs as)
theorem call_listI (hh:X.A.handled=none):CallR X (.type "list") (fun xs H Q=>∃v d kvs,xs=[.ref v]/\H v=some (ViewI v d)/\Rd H d (.dK kvs) /\
  ∀l (ts:List Addr) H',H l=none->(∀b o,H b=some o->H' b=some o)->H' l=some (.lst (ts.map V.ref))->ts.length=kvs.length->(∀(j:Nat) t k x,ts[j]?=some t->kvs[j]?=some (k,x)->H' t=some (.tup [kV k,x])/\H t=none)->Q (.ref l) H'):=by
 intro pins s σ H xs us Q I r h;obtain⟨v,d,kvs,rfl,hv,hd,q⟩:=h;obtain⟨u,rfl,ru⟩:=vals1 r;cases ru;obtain⟨iv,_,_⟩:=I.hok v _ hv;obtain⟨hz,hS,vs,rk,m⟩:=dk_rd I.hok hd;obtain⟨ep,hm⟩:=m.dictAt;have lv:kvs.length=vs.length:=Paired.length rk;refine PySem.W.kdx_call hh iv hm (by rw[<- lv];exact hz) fun h' tk acc c as kp gl la G ea=>?_;have I1:Inv X pins σ H { s with heap:=h',toks:=tk }:=I.kept kp
 have lo:X.s₀.heap.objs.size<=s.heap.objs.size:=I.sz;have f0:FpOk X pins H s.heap.objs.size:=I.fpOk (Nat.le_refl _) (I.hok.fresh (Nat.le_refl _))
 have I2:Inv X pins σ (upd H s.heap.objs.size (.lst (as.map V.ref))) { s with heap:=h',toks:=tk }:=by
  refine I1.track f0 lo ⟨by rw[List.length_map,la,<- lv];exact hz,acc.toList,c,?_,gl⟩;rw[ea];exact vals_refs as
 have fr:∀a∈as,H a=none:=fun a ha=>I.hok.fresh (Nat.le_of_lt (G.above a ha))
 obtain⟨H',I',k',t'⟩:=I2.tracks as (kvs.map fun p=>[kV p.1,p.2]) (by rw[List.length_map,la,lv]) G.rise (fun a ha=>by
  have lt:=G.above a ha;obtain⟨g0,g⟩:=I.fpOk (Nat.le_of_lt lt) (fr a ha)
  exact⟨⟨by rw[upd_ne (Nat.ne_of_gt lt)];exact g0,g⟩,Nat.le_trans lo (Nat.le_of_lt lt)⟩) fun j a p e1 e2=>by
   obtain⟨key,k,x,e3,hk,e4⟩:=G.pairs j a e1;rw[List.getElem?_map] at e2;obtain⟨⟨k',x'⟩,e5,rfl⟩:=Option.map_eq_some_iff.mp e2;obtain⟨v',e6,rv⟩:=KV.get rk e5;rw[e3] at e6;cases e6;exact⟨by show 2<=sizeLine;decide,[key,x],.cons (rel_key hk) (.cons rv .nil),e4⟩
 refine⟨.ref s.heap.objs.size,H',I',rfl,q _ as H' (I.hok.fresh (Nat.le_refl _)) (fun b o z=>k' b o (by rw[upd_ne (ne_of_none z f0.1)];exact z)) (k' _ _ upd_same) (by rw[la,lv]) fun j t k x e1 e2=>⟨t' j t _ e1 (by rw[List.getElem?_map,e2];rfl),fr t (List.mem_of_getElem? e1)⟩⟩
theorem call_minD (hh:X.A.handled=none):CallR X (.builtin "min") (fun xs H Q=>∃(a:Addr) (kvs:List (Key×V)) (ns:List Int),xs=[.ref a]/\Rd H a (.dK kvs)/\kvs.map (·.1)=ns.map Sum.inl/\ns≠[] /\
  ∀m:Int,m∈ns->(∀n∈ns,m<=n)->Q (.int m) H):=by
 intro pins s σ H xs us Q I r h;obtain⟨a,kvs,ns,rfl,hk,ek,hne,q⟩:=h;obtain⟨u,rfl,ru⟩:=vals1 r;cases ru;obtain⟨hz,hS,vs,rk,m⟩:=dk_rd I.hok hk;obtain⟨ep,hm⟩:=m.dictAt
 have e1:vs.map (·.1)=kvs.map (·.1):=by
  clear hz m hm q hk ek
  induction rk with
  | nil=>rfl
  | cons a b ih=>rw[List.map_cons,List.map_cons,ih,a.1]
 have lv:vs.length=ns.length:=by
  have:=congrArg List.length (e1.trans ek);simpa using this
 have lp:0<ns.length:=List.length_pos_iff.mpr hne;refine call_min_walk (wpAny_pyIter_dict hS hm ?_);have alt:=hm.lt_size;have hh1:X.A.in1.handled=none:=hh
 refine⟨s.heap.objs.size,_,_,vs.length,_,_,fun i j=>decide (ns.getD i 0<ns.getD j 0),rfl,Walks.dictKeys (knd:=mixKind X.prog X.w) hh1 s.heap.objs.size a (Nat.ne_of_lt alt) vs ep,⟨⟨_,Heap.get?_push_size _ rfl,rfl,rfl⟩,hm.push _⟩,fun b hb=>?_,by omega,?_,fun v h' tk hP kp=>?_⟩
 ·rw[Heap.size_push];rcases List.mem_cons.mp hb with e|hb
  ·rw[e];exact Nat.lt_succ_self _
  ·rw[List.mem_singleton.mp hb];exact Nat.lt_succ_of_lt alt
 ·refine CmpOf.ints_lt (fun i=>ns.getD i 0) fun i v hP=>?_;obtain⟨k,x,e2,e3⟩:=hP;have e4:(vs.map (·.1))[i]?=some k:=by rw[List.getElem?_map,e2];rfl
  rw[e1,ek,List.getElem?_map] at e4;obtain⟨n,en,rfl⟩:=Option.map_eq_some_iff.mp e4;rw[List.getD_eq_getElem?_getD,en];rw[mixKind_is] at e3;exact Value.isInt_shape (show Value.isInt n v=true from e3)
 ·obtain⟨b1,b2⟩:=argBest_lt (fun i=>ns.getD i 0) (vs.length - 1);obtain⟨k,x,e2,e3⟩:=hP;have e4:(vs.map (·.1))[argBest (fun i j=>decide (ns.getD i 0<ns.getD j 0)) (vs.length - 1)]?=some k:=by rw[List.getElem?_map,e2];rfl
  rw[e1,ek,List.getElem?_map] at e4;obtain⟨n,en,rfl⟩:=Option.map_eq_some_iff.mp e4;rw[mixKind_is] at e3;obtain⟨t,rfl⟩:=Value.isInt_shape (show Value.isInt n v=true from e3)
  have I1:Inv X pins σ H { s with heap:=h',toks:=tk }:=I.kept fun b o z=>kp b o (fun hb=>by
   have lt:=Heap.lt_size z;rw[List.mem_singleton.mp hb] at lt
   exact Nat.lt_irrefl _ lt) (Heap.get?_push_of_some _ z)
  refine⟨.int n,H,I1,⟨t,rfl⟩,q n (List.mem_of_getElem? en) fun n' hn'=>?_⟩;obtain⟨j,hj,rfl⟩:=List.getElem_of_mem hn';have:=b2 j (by omega);rw[List.getD_eq_getElem?_getD,List.getD_eq_getElem?_getD,en,List.getElem?_eq_getElem hj] at this;exact this
theorem call_sortL:CallR X (.builtin "sorted") (fun xs H Q=>∃(a:Addr) (ns:List Int),xs=[.ref a]/\SqL X.K H a (ns.map V.int)/\ns.length<64 /\
  ∀ns':List Int,ns'.Perm ns->ns'.Pairwise (· <= ·)->∀l,H l=none->Q (.ref l) (upd H l (.lst (ns'.map V.int)))):=by
 intro pins s σ H xs us Q I r h;obtain⟨a,ns,rfl,hq,hl,q⟩:=h;obtain⟨u,rfl,ru⟩:=vals1 r;cases ru;obtain⟨its,rv,pl,hz⟩:=I.list hq;have ll:=rv.length;rw[List.length_map] at ll
 have hI:IntsAre its ns:=ints_by ll.symm fun i u n a b=>by
  obtain⟨u',e,r'⟩:=rv.get (i:=i) (x:=.int n) (by rw[List.getElem?_map,b];rfl);rw[a] at e;cases e;exact r'
 refine sorted_ints pl.isList hI (by omega) fun out ns' p1 p2 p3=>?_;obtain⟨e,ge⟩:=sortedAll_at s.heap its out;have rel:Vals (ns'.map V.int) out.toList:=vals_ints p1
 refine⟨.ref (s.heap.objs.size+1),_,I.laid (a:=s.heap.objs.size+1) (o:=.lst (ns'.map V.int)) (t':=s.toks) (fun b o z=>sortedAll_old z) (Nat.le_succ _) ⟨?_,out.toList,e,rel,by simpa using ge⟩,rfl,q ns' p2 p3 _ (I.hok.fresh (Nat.le_succ _))⟩;have:=p2.length_eq;rw[List.length_map,show sizeLine=16777216 by decide];omega
end
open PySem.AutoSeq1 (wpAny_loadPart')
section
variable {prog:Program}{w:World}{A:Around}{s:Shared}{R:Result->Shared->Prop}{l:Addr}{items:Array Value}{n:Nat}{x:Value}{j:Nat}
theorem rem_from (hj:j<items.size)(hz:items.size<=sizeLine)(hl:s.heap.get? l=some { cls:=.type "list",dict:=none,data:=.seq items n,slots:=#[] })
  (he:∀(m:Nat) (hm:m<items.size),m<=j->SeqAt.EqAt A.in1 s items[m] x (decide (m=j)))
  (q:R (.ok (.ret .none)) { s with heap:=s.heap.update l (Obj.mapSeq fun xs=>xs.eraseIdxIfInBounds j) }) :
  ∀(k i:Nat),j - i=k->i<=j->codeAny (model prog w) A (.builtin "list.remove.loop" ⟨[.ref l,x,rawInt i],[]⟩) R s:=by
 intro k
 induction k with
 | zero=>
  intro i hk hi;have e:i=j:=by omega
  subst e;refine go_in PySem.MeetsSeq.entry_remove_loop PySem.MeetsSeq.plain_remove_loop ?_;unfold Builtin.«list.remove.loop»;obtain⟨hp,g,d,tk,os⟩:=s
  wp_walk using wpAny_loadPart' hl
  have ei:items[((i:Nat):Int).toNat]?=some items[i]:=by simp[hj]
  rw[ei];refine wpAny_bind (he i hj (Nat.le_refl _) _ _ _ _ ?_);rw[decide_eq_true rfl,if_pos rfl];refine wpAny_bind (show wpAny _ _ (updateSeq l fun xs=>xs.eraseIdxIfInBounds ((i:Nat):Int).toNat) _ _ _ from wpAny_updateSeq hl rfl ?_ hz (by unfold Array.eraseIdxIfInBounds;split;(simp only[Array.size_eraseIdx];omega);omega));exact wpAny_pure q
 | succ k ih=>
  intro i hk hi;have hlt:i<items.size:=by omega
  refine go_in PySem.MeetsSeq.entry_remove_loop PySem.MeetsSeq.plain_remove_loop ?_;unfold Builtin.«list.remove.loop»;obtain⟨hp,g,d,tk,os⟩:=s
  wp_walk using wpAny_loadPart' hl
  have ei:items[((i:Nat):Int).toNat]?=some items[i]:=by simp[hlt]
  rw[ei];refine wpAny_bind (he i hlt hi _ _ _ _ ?_);rw[decide_eq_false (show ¬i=j by omega)]
  wp_walk
  rw[show ((i:Int)+1)=((i+1:Nat):Int) by omega];exact⟨plainId_quiet PySem.MeetsSeq.plain_remove_loop _,ih (i+1) (by omega) (by omega)⟩
end
section
variable {X:Cx}
theorem eq_tups {A:Around}{s:Shared}{p q zs ys}{us ws:List Value}(ne:p≠q)(pl:s.heap.IsTuple p us.toArray)(pl':s.heap.IsTuple q ws.toArray)(r:Vals zs us)(r':Vals ys ws)(hu:A.units<cLine)(ok:∀(i:Nat) (a b:V),zs[i]?=some a->ys[i]?=some b->okP a b):SeqAt.EqAt A s (.ref p) (.ref q) (eqPs zs ys):=by
 have l1:=r.length;have l2:=r'.length
 have rc:SeqAt.RcAt A s (.ref p) (.ref q) _:=SeqAt.RcAt.tuples (e:=ans zs ys) pl pl' hu fun j h1 h2=>by
  have j1:j<zs.length:=by simp at h1;omega
  have j2:j<ys.length:=by simp at h2;omega
  obtain⟨u,eu,ru⟩:=r.get (List.getElem?_eq_getElem j1);obtain⟨w,ew,rw'⟩:=r'.get (List.getElem?_eq_getElem j2)
  have a1:us.toArray[j]=u:=by
   simp at h1;simpa[h1] using eu
  have a2:ws.toArray[j]=w:=by
   simp at h2;simpa[h2] using ew
  rw[a1,a2,show ans zs ys j=eqP zs[j] ys[j] by unfold ans;rw[List.getElem?_eq_getElem j1,List.getElem?_eq_getElem j2]];exact eqAt_P ru rw' (ok j _ _ (List.getElem?_eq_getElem j1) (List.getElem?_eq_getElem j2))
 refine SeqAt.EqAt.of_refs ne ?_;have eb:eqPs zs ys=((List.range (min us.toArray.size ws.toArray.size)).all (ans zs ys)&&us.toArray.size==ws.toArray.size):=?_
 ·rw[eb];exact rc
 ·by_cases hl:zs.length=ys.length
  ·unfold eqPs;rw[decide_eq_true hl,Bool.true_and,<- zip_ans zs ys hl,List.size_toArray,List.size_toArray,<- l1,<- l2,<- hl,Nat.min_self,beq_self_eq_true,Bool.and_true]
  ·unfold eqPs;rw[decide_eq_false hl,Bool.false_and,List.size_toArray,List.size_toArray,<- l1,<- l2,show (zs.length==ys.length)=false from beq_eq_false_iff_ne.mpr hl,Bool.and_false]
def rRemove (K:Frag):V->List V->Hp->VK->Prop:=fun v vs H Q=>∃l xs y j,v=.ref l/\vs=[y]/\H l=some (.lst xs)/\j<xs.length /\
 (∀(m:Nat) (z:V),m<=j->xs[m]?=some z->(okP z y/\eqP z y=decide (m=j))\/∃p q zs ys,z=.ref p/\y=.ref q/\p≠q/\SqT K H p zs/\SqT K H q ys/\(∀(i:Nat) (a b:V),zs[i]?=some a->ys[i]?=some b->okP a b)/\eqPs zs ys=decide (m=j)) /\
 Q .non (upd H l (.lst (xs.eraseIdx j)))
theorem mt_remove (hu:X.A.in1.units<cLine):MtM X "list.remove" (rRemove X.K):=by
 intro pins s σ H x vs v us Q I rx rv h;obtain⟨l,xs,y,j,rfl,rfl,hH,hj,he,q⟩:=h;cases rx;obtain⟨u,rfl,ru⟩:=vals1 rv;obtain⟨z,its,n,r,hl,e⟩:=I.lstM hH;have lt:xs.length=its.length:=r.length;have jl:j<its.toArray.size:=by rw[List.size_toArray];omega
 have hz:its.toArray.size<=sizeLine:=by rw[List.size_toArray];omega
 refine wpAny_call (codeAny_call_builtin PySem.F.slot_list_remove.plain PySem.F.entry_list_remove (PySem.F.slot_list_remove.check _ _ _ _ _ _ _ _ ⟨_,e,rfl⟩ (PySem.F.args_list_remove_2 _ _) ?_));unfold Builtin.«list.remove»
 wp_walk
 refine⟨plainId_quiet PySem.MeetsSeq.plain_remove_loop _,rem_from (j:=j) jl hz e (fun m hm hmj=>?_) ?_ j 0 (by omega) (Nat.zero_le _)⟩
 ·have mx:m<xs.length:=by rw[List.size_toArray] at hm;omega
  have e1:xs[m]?=some xs[m]:=List.getElem?_eq_getElem mx;obtain⟨w,ew,rw'⟩:=r.get e1
  have a1:its.toArray[m]=w:=by
   have:its[m]?=some w:=ew;rw[List.size_toArray] at hm;simpa[hm] using this
  rw[a1];rcases he m _ hmj e1 with⟨ok,eq⟩|⟨p,q',zs,ys,ez,ey,ne,hp,hq,ok,eq⟩
  ·rw[<- eq];exact eqAt_P rw' ru ok
  ·subst ey;rw[ez] at rw';cases rw';cases ru;rw[<- eq];obtain⟨us1,r1,pl1,hz1⟩:=I.tuple hp;obtain⟨us2,r2,pl2,hz2⟩:=I.tuple hq;exact eq_tups ne pl1 pl2 r1 r2 hu ok
 ·refine⟨.non,_,I.lset (its':=its.eraseIdx j) (t':=s.toks) hH e ?_ (r.eraseIdx j) ?_,rfl,q⟩
  ·show its.toArray.eraseIdxIfInBounds j=(its.eraseIdx j).toArray;rw[List.eraseIdxIfInBounds_toArray]
  ·have:=len_erase xs j;omega
end
section
variable {X:Cx}{st:Stmt}{t:TS}
def sThaw (t:TS):TS:=fun D σ H=>∃d v,H d=some v/\(∀o z,v≠.frz o z)/\t { D with nx:=fun σ' H'=>∃o kvs,H' d=some (.frz o (.dK kvs))/\D.nx σ' (upd H' d (.dK kvs)) } σ H
theorem ps_thaw (h:PS X st t):PS X st (sThaw t):=by
 intro pins s σ H D I q;obtain⟨d,v,hd,nf,q⟩:=q;have n0:=I.notFrz hd nf;refine thn (h pins s σ H _ I q) fun f s' r=>?_;cases f with
 | next=>
  obtain⟨σ',H',I',o,kvs,e,n⟩:=r;exact⟨σ',_,I'.thaw e n0,n⟩
 | brk=>exact r
 | cont=>exact r
 | ret u=>exact r
theorem tsth1 {te}{i:Nat}{D:Ends}{σ:St}{H:Hp}(h:tThaw te σ H fun x H1=>gName i x σ H1 D.nx):sThaw (tAsg te (gName i)) D σ H:=h
end
end L2
namespace L2
open PySem PySem.Spec PyProof PyProof.Rows
def tDSet (td ty tx:TE):TE:=fun σ H Q=>td σ H fun x H1=>∃a,x=.ref a/\IsD H1 a/\ty σ H1 fun y H2=>tx σ H2 fun z H3=>∃kvs k,H3 a=some (.dK kvs)/\y=kV k/\kvs.length<sizeLine /\
 (∀v,valV kvs k=some v->Q v H3)/\(valV kvs k=none->Q z (upd H3 a (.dK (putK kvs k z))))
section
variable {X:Cx}{o e f:Expr}{apos cpos:Pos}{td ty tx:TE}
theorem pe_dset (ho:PE X o td)(he:PE X e ty)(hf:PE X f tx)(m:M2 X o "setdefault" apos e f cpos):PE X (.Call (.Attribute o "setdefault" apos) [e,f] [] cpos) (tDSet td ty tx):=by
 intro pins s σ H Q I h;refine wpAny_Call_method m.base m.few m.line PySem.F.plainAttrs_dict PySem.F.slot_dict_setdefault PySem.F.type_dict_setdefault (thn (ho pins s σ H _ I h) fun u s1 ⟨x,H1,I1,rx,a,ex,d,q1⟩=>?_);cases ex;cases rx;obtain⟨t1,t2,_⟩:=isD_at I1 d;refine⟨t1,t2,?_⟩;rw[m.trees]
 refine Calls.callWith_builtin rfl (Calls.evalArgs_plain (Calls.spliced_cons (thn (he pins s1 σ H1 _ I1 q1) fun iv s2 ⟨y,H2,I2,ry,q2⟩=>Calls.spliced_cons (thn (hf pins s2 σ H2 _ I2 q2) fun fv s3 ⟨z,H3,I3,rz,kvs,k,ea,ey,hl,q3,q4⟩=>Calls.spliced_nil ?_))));cases ey;obtain⟨z0,hd,vs,rel,dd⟩:=dk_of I3.hok ea
 refine call_meetsIn PySem.F.slot_dict_setdefault dd.typeIs PySem.F.entry_dict_setdefault (PySem.F.args_dict_setdefault_3 _ _ _) (kt_meets_setdefault (mixKind X.prog X.w) a (kV_is ry) hd fv) ⟨vs,dd,by rw[<- rel.length];exact z0,fun v hv=>?_,fun hn h' dd' hs=>?_⟩
 ·cases l:valV kvs k with
  | none=>
   have r:=rel.val k;rw[l,hv] at r;exact r.elim
  | some v0=>
   have r:=rel.val k;rw[l,hv] at r;exact⟨v0,H3,I3.tok _,r,q3 v0 l⟩
 ·have l:valV kvs k=none:=by
   cases l:valV kvs k with
   | none=>rfl
   | some v0=>
    have r:=rel.val k;rw[l,hn] at r;exact r.elim
  have he:∃q,h'.get? a=some q:=let⟨q,_,_,hq,_⟩:=dd';⟨q,hq⟩;have ll:=length_putK kvs k z;exact⟨z,_,d_write I3 (by rw[ea];exact True.intro) hs he (dk_new (by omega) hd (rel.put k rz) dd'),rz,q4 l⟩
end
def Tps (H:Hp)(ts:List Addr)(ps:List (List V)):Prop:=ts.length=ps.length/\∀(j:Nat) t xs,ts[j]?=some t->ps[j]?=some xs->H t=some (.tup xs)
def rNeLT (K:Frag):R2:=fun x y H Q=>∃(p q:Addr) (ts us:List Addr) (ps:List (List V)),x=.ref p/\y=.ref q/\SqL K H p (ts.map V.ref)/\SqL K H q (us.map V.ref)/\Tps H ts ps/\Tps H us ps/\(∀xs∈ps,xs.all flatV=true)/\Q (.bl false) H
theorem op_neLT {X:Cx}(hu:X.A.units+1<cLine):OpR X (compareOp .NotEq) (rNeLT X.K):=by
 intro pins s σ H x y v u Q I rx ry h;obtain⟨p,q,ts,us,ps,rfl,rfl,hp,hq,ht,hv,hf,hQ⟩:=h;cases rx;cases ry;obtain⟨as,r,pl,hz⟩:=I.list hp;obtain⟨bs,r',pl',hz'⟩:=I.list hq;have l1:=r.length;have l2:=r'.length;rw[List.length_map] at l1 l2;have l3:=ht.1;have l4:=hv.1
 have key:=SeqAt.RcNeAt.lists (A:=X.A) (s:=s) (e:=fun _=>true) pl.isList pl'.isList (by simp;omega) (by omega) (fun j h1 h2=>?_) X.prog X.w X.xe
 ·refine key _ ⟨.bl _,H,I,rfl,?_⟩;have e0:(!(List.range as.toArray.size).all fun _=>true)=false:=by simp
  rw[e0];exact hQ
 ·have j1:j<ts.length:=by simp at h1;omega
  have j2:j<us.length:=by omega
  have j3:j<ps.length:=by omega
  obtain⟨a',ea,ra⟩:=r.get (i:=j) (x:=.ref ts[j]) (by rw[List.getElem?_map,List.getElem?_eq_getElem j1];rfl);obtain⟨b',eb,rb⟩:=r'.get (i:=j) (x:=.ref us[j]) (by rw[List.getElem?_map,List.getElem?_eq_getElem j2];rfl);cases ra;cases rb
  have a1:as.toArray[j]=.ref ts[j]:=by
   have z:=ea;simp at h1;simpa[h1] using z
  have a2:bs.toArray[j]=.ref us[j]:=by
   have z:=eb;simp at h2;simpa[h2] using z
  rw[a1,a2];have t1:=ht.2 j _ _ (List.getElem?_eq_getElem j1) (List.getElem?_eq_getElem j3);have t2:=hv.2 j _ _ (List.getElem?_eq_getElem j2) (List.getElem?_eq_getElem j3);by_cases e:ts[j]=us[j]
  ·rw[e];exact SeqAt.EqAt.same _
  ·obtain⟨xs1,w1,y1,_⟩:=I.tuple (SqT.of t1);obtain⟨xs2,w2,y2,_⟩:=I.tuple (SqT.of t2);have fl:=hf _ (List.getElem_mem j3);have m1:=w1.length;have m2:=w2.length;have rc:=SeqAt.RcAt.tuples (A:=X.A.in1) (s:=s) (e:=fun _=>true) y1 y2 (by show X.A.units+1<cLine;exact hu) fun i h3 h4=>?_
   ·have e1:((List.range (min xs1.toArray.size xs2.toArray.size)).all (fun _=>true)&&xs1.toArray.size==xs2.toArray.size)=true:=by
     rw[Bool.and_eq_true];exact⟨by simp,by simp;omega⟩
    rw[e1] at rc;exact SeqAt.EqAt.of_refs e rc
   ·have i1:i<(ps[j]).length:=by simp at h3;omega
    have ei:(ps[j])[i]?=some (ps[j])[i]:=List.getElem?_eq_getElem i1;obtain⟨c1,ec1,rc1⟩:=w1.get ei;obtain⟨c2,ec2,rc2⟩:=w2.get ei
    have b1:xs1.toArray[i]=c1:=by
     simp at h3;simpa[h3] using ec1
    have b2:xs2.toArray[i]=c2:=by
     simp at h4;simpa[h4] using ec2
    rw[b1,b2];have f1:=List.all_eq_true.mp fl _ (List.getElem_mem i1);have:=eqAt_V (A:=X.A.in1.in1) (s:=s) rc1 rc2 f1 f1
    rwa[eqV_self f1] at this
def bestIs (o:Option (Nat×Value)):Array Value:=match o with|none=>#[]|some (_,v)=>#[v,v]
theorem args_min_d (a v:Value):argsOk "min" ⟨[a],[(Str.ofString "default",v)]⟩:=by unfold argsOk;kernel_rfl
section
variable {P:Program}{w:World}{A:Around}{R:Result->Shared->Prop}{I S:Addr}{fp wr:List Addr}{n:Nat}{Pv:Nat->Value->Prop}{St:Nat->Heap->Prop}{bt:Nat->Nat->Bool}{x:Str}{d:Value}
def Best (bt:Nat->Nat->Bool)(Pv:Nat->Value->Prop)(j:Nat)(o:Option (Nat×Value)):Prop:=match o with
 | none=>j=0
 | some (i,v)=>0<j/\i=argBest bt (j - 1)/\Pv i v
theorem minD_loop (W:Walks P w A.in1 I fp wr n Pv St)(hc:CmpOf P w A.in1 .Lt Pv bt)(nS:S∉fp):∀(k j:Nat) (s:Shared) (o:Option (Nat×Value)) (c:Nat),n - j=k->j<=n->St j s.heap->Best bt Pv j o ->
  s.heap.get? S=some ⟨.type "list",none,.seq (bestIs o) c,#[]⟩ ->
  (∀v h' tk,(n=0/\v=d\/0<n/\Pv (argBest bt (n - 1)) v)->(∀b q,b∉wr->b≠S->s.heap.get? b=some q->h'.get? b=some q)->R (.ok (.ret v)) { s with heap:=h',toks:=tk }) ->
  codeAny (model P w) A (.builtin "min.loop" ⟨[.ref I,.none,.ref S],[(x,d)]⟩) R s:=by
 have nW:S∉wr:=fun z=>nS (W.sub _ z);have nm:(toString "min" ++ toString ".loop" : String) = "min.loop":=by decide
 intro k
 induction k with
 | zero=>
  intro j s o c hk hj st hb hS hR;have ej:j=n:=by omega
  subst ej
  refine codeAny_builtin F.entry_min_loop (by
   rw[Around.under_plainId F.plain_min_loop _];show wpAny _ A.in1 (seqItems? (.ref S) >>= _) _ _ s;refine wpAny_bind (wpAny_seqItems hS rfl (wpAny_bind (wpAny_tryCatch (W.done s _ _ st fun h' tk kp=>?_))));have hS':=kp S _ nW hS;cases o with
   | none=>exact wpAny_bind (wpAny_rule (wpAny_pure (hR d h' tk (.inl ⟨hb,rfl⟩) fun b q h1 _ e=>kp b q h1 e)))
   | some iv=>
    obtain⟨i,v⟩:=iv;obtain⟨h0,rfl,hv⟩:=hb;have hS2:h'.get? S=some ⟨.type "list",none,.seq #[v,v] c,#[]⟩:=hS';show wpAny _ A.in1 (updateSeq S (fun _=>#[]) >>= _) _ _ _;refine wpAny_bind ?_
    exact wpAny_updateSeq hS2 rfl (wpAny_bind (wpAny_letGo (wpAny_pure (hR v _ tk (.inr ⟨h0,hv⟩) fun b q h1 h2 e=>(Heap.get?_update_other _ _ (Ne.symm h2)).trans (kp b q h1 e))))))
 | succ k ih=>
  intro j s o c hk hj st hb hS hR;have lt:j<n:=by omega
  refine codeAny_builtin F.entry_min_loop (by
   rw[Around.under_plainId F.plain_min_loop _];show wpAny _ A.in1 (seqItems? (.ref S) >>= _) _ _ s;refine wpAny_bind (wpAny_seqItems hS rfl (wpAny_bind (wpAny_tryCatch (W.item j s _ _ lt st fun v h' tk hv st' kp=>?_))));have hS':=kp S _ nW hS
   have far:∀{g:Array Value->Array Value},∀b∈fp,∀q,h'.get? b=some q->(h'.update S (Obj.mapSeq g)).get? b=some q:=fun b hbf q e=>(Heap.get?_update_other _ _ (fun z:S=b=>nS (by rw[z];exact hbf))).trans e;cases o with
   | none=>
    have j0:j=0:=hb;subst j0;show wpAny _ A.in1 (updateSeq S (fun _=>#[v,v]) >>= _) _ _ _;refine wpAny_bind ?_;refine wpAny_updateSeq hS' rfl ?_;rw[nm]
    exact wpAny_pure ⟨plainId_quiet F.plain_min_loop _,ih 1 _ (some (0,v)) _ (by omega) lt (W.frame _ _ _ st' far) ⟨Nat.one_pos,rfl,hv⟩ (Heap.get?_update_self _ hS' rfl) fun v' h2 tk2 e2 k2=>hR v' h2 tk2 e2 fun b q h1 n2 e=>k2 b q h1 n2 ((Heap.get?_update_other _ _ (Ne.symm n2)).trans (kp b q h1 e))⟩
   | some iv=>
    obtain⟨i,vb⟩:=iv;obtain⟨h0,rfl,hvb⟩:=hb
    have eb:argBest bt (j+1 - 1)=if bt j (argBest bt (j - 1)) then j else argBest bt (j - 1):=by
     obtain⟨m,rfl⟩:∃m,j=m+1:=⟨j - 1,by omega⟩;rfl
    show wpAny _ A.in1 (tryCatch (holding [v,v] (richCompare .Lt v vb >>= _)) _ >>= _) _ _ _;refine wpAny_bind (wpAny_tryCatch (wpAny_holding (wpAny_bind (hc j (argBest bt (j - 1)) v vb _ _ _ hv hvb (wpAny_bind (wpAny_holding (wpAny_truthy_bool (wpAny_bind (wpAny_letGo (wpAny_pure ?_))))))))));cases ht:bt j (argBest bt (j - 1)) with
    | true=>
     rw[ht,if_pos rfl] at eb;have hS2:h'.get? S=some ⟨.type "list",none,.seq #[vb,vb] c,#[]⟩:=hS';simp only[if_true];refine wpAny_bind ?_;refine wpAny_updateSeq hS2 rfl (wpAny_bind (wpAny_letGo ?_));rw[nm]
     exact wpAny_pure ⟨plainId_quiet F.plain_min_loop _,ih (j+1) _ (some (j,v)) _ (by omega) lt (W.frame _ _ _ st' far) ⟨Nat.succ_pos _,eb.symm,hv⟩ (Heap.get?_update_self _ hS' rfl) fun v' h2 tk2 e2 k2=>hR v' h2 tk2 e2 fun b q h1 n2 e=>k2 b q h1 n2 ((Heap.get?_update_other _ _ (Ne.symm n2)).trans (kp b q h1 e))⟩
    | false=>
     rw[ht,if_neg Bool.false_ne_true] at eb;simp only[Bool.false_eq_true,if_false];refine wpAny_bind (wpAny_letGo ?_);rw[nm]
     exact wpAny_pure ⟨plainId_quiet F.plain_min_loop _,ih (j+1) _ (some (argBest bt (j - 1),vb)) c (by omega) lt st' ⟨Nat.succ_pos _,eb.symm,hvb⟩ hS' fun v' h2 tk2 e2 k2=>hR v' h2 tk2 e2 fun b q h1 n2 e=>k2 b q h1 n2 (kp b q h1 e)⟩)
end
def CallRK (X:Cx)(f:Value)(ks:List Str)(r:List V->List V->Hp->VK->Prop):Prop:=
 ∀(pins:List (Addr×Obj)) (s:Shared) (σ:St) (H:Hp) (xs zs:List V) (us ws:List Value) (Q:VK),Inv X pins σ H s->Vals xs us->Vals zs ws->r xs zs H Q->wpAny (model X.prog X.w) X.A (call f us (ks.zip ws)) (EP X pins σ Q) X.xe s
def tCBK (r:List V->List V->Hp->VK->Prop)(t tk:TA):TE:=fun σ H Q=>t σ H fun vs H1=>tk σ H1 fun zs H2=>r vs zs H2 Q
section
variable {X:Cx}{x:Str}{p pos:Pos}{e:Expr}{es:List Expr}{kws:List Keyword}{ks:List Str}{t tk:TA}{id:String}{r:List V->List V->Hp->VK->Prop}
theorem pe_callBK (hc:CallRK X (.builtin id) ks r)(hg:Gl X x)(hm:X.mg x=none)(hv:bootBuiltins x=some (.builtin id))(ha:PA X (e::es) t)(hkw:PK X kws tk)(hn:x ≠ "__name__":=by decide)(hdb:(x==("__debug__" : Str))=false:=by decide)
  (he:starEach (e::es) X.env=(false,eval e X.env)::starEach es X.env:=by rfl) (hpl:(backTo pos (starEach (e::es) X.env)).any (·.1)=false:=by rfl)
  (hall:(backToKw pos (keywordEach kws X.env)).all (·.1.isSome)=true:=by rfl) (hno:(backToKw pos (keywordEach kws X.env)).any (·.1.isNone)=false:=by rfl) (hks:(backToKw pos (keywordEach kws X.env)).filterMap (·.1)=ks:=by rfl) :
  PE X (.Call (.Name x p) (e::es) kws pos) (tCBK r t tk):=by
 intro pins s σ H Q I h;refine wpAny_Call_Name_kw (ld_blt I hg hm hv ?_ hn hdb);refine callWith_builtin_kwB hpl hno (evalArgs_kw2 hall (thn (ha pos pins s σ H _ I h) fun us s1 ⟨vs,H1,I1,r1,q1⟩=>thn (hkw pos pins s1 σ H1 _ I1 q1) fun ws s2 ⟨zs,H2,I2,r2,q2⟩=>?_) he);rw[hks];exact hc pins s2 σ H2 vs zs us ws Q I2 r1 r2 q2
theorem call_minDf (hh:X.A.handled=none):CallRK X (.builtin "min") ["default"] (fun xs zs H Q=>∃(a:Addr) (ns:List Int) (d:V),xs=[.ref a]/\zs=[d]/\SqL X.K H a (ns.map V.int) /\
  (ns=[]->Q d H)/\(∀m:Int,m∈ns->(∀n∈ns,m<=n)->Q (.int m) H)):=by
 intro pins s σ H xs zs us ws Q I r rz h;obtain⟨a,ns,d,rfl,rfl,hq,q0,q1⟩:=h;obtain⟨u,rfl,ru⟩:=vals1 r;obtain⟨dv,rfl,rd⟩:=vals1 rz;cases ru;obtain⟨its,rv,pl,hz⟩:=I.list hq;have ll:=rv.length;rw[List.length_map] at ll;have nm:(toString "min" ++ toString ".loop" : String) = "min.loop":=by decide
 have isL:=pl.isList;have alt:a<s.heap.objs.size:=by obtain⟨ol,hol,_⟩:=id isL;exact Heap.lt_size hol
 have hh1:X.A.in1.handled=none:=hh;refine kmk_tree PySem.F.kind_min PySem.F.plain_min PySem.F.entry_min (args_min_d _ _) ?_;show wpAny _ X.A.in1 (Builtin.Builtins.bindParams "min" ["key","default"] 0 ⟨[],[(Str.ofString "default",dv)]⟩ >>= _) _ _ s
 refine wpAny_bind (wpAny_of_eq (show Builtin.Builtins.bindParams "min" ["key","default"] 0 ⟨[],[(Str.ofString "default",dv)]⟩=pure [none,some dv] from rfl) (wpAny_bind (wpAny_pure (wpAny_bind (wpAny_pyIter_list isL (wpAny_bind (wpAny_newObj_type ?_)))))));rw[nm];have W:=Walks.list (prog:=X.prog) (w:=X.w) (A:=X.A.in1) hh1 s.heap.objs.size a (Nat.ne_of_lt alt) its.toArray
 have sz:its.toArray.size=ns.length:=by simp;omega
 have fr:∀b q,s.heap.get? b=some q->((s.heap.push { cls:=.type "list_iterator",data:=.fields #[.ref a,.int 0 0] }).push (seqObj "list" #[] 0)).get? b=some q:=fun b q e=>Heap.get?_push_of_some _ (Heap.get?_push_of_some _ e)
 have iv:∀i v,its.toArray[i]?=some v->∃t,v=Value.int (ns.getD i 0) t:=fun i v e=>by
  have hi:i<ns.length:=by
   rcases Nat.lt_or_ge i its.toArray.size with z|z
   ·omega
   ·rw[Array.getElem?_eq_none z] at e;cases e
  obtain⟨u',e',r'⟩:=rv.get (i:=i) (x:=.int ns[i]) (by rw[List.getElem?_map,List.getElem?_eq_getElem hi];rfl);have e2:its[i]?=some v:=by simpa using e
  rw[e'] at e2;cases e2;rw[List.getD_eq_getElem?_getD,List.getElem?_eq_getElem hi];exact r'
 refine wpAny_pure ⟨plainId_quiet PySem.F.plain_min_loop _,minD_loop W (CmpOf.ints_lt (fun i=>ns.getD i 0) iv) (S:=(s.heap.push { cls:=.type "list_iterator",data:=.fields #[.ref a,.int 0 0] }).objs.size) ?_ _ 0 _ none 0 rfl (Nat.zero_le _) ⟨⟨_,Heap.get?_push_of_some _ (Heap.get?_push_size _ rfl),rfl,rfl⟩,?_⟩ rfl (Heap.get?_push_size _ rfl) fun v h' tk hv kp=>?_⟩
 ·rw[Heap.size_push];intro hm;rcases List.mem_cons.mp hm with e|hm
  ·exact absurd e (Nat.ne_of_gt (Nat.lt_succ_self _))
  ·exact absurd (List.mem_singleton.mp hm) (Nat.ne_of_gt (Nat.lt_succ_of_lt alt))
 ·exact isL.at fun o e=>fr _ _ e
 ·have I1:Inv X pins σ H { s with heap:=h',toks:=tk }:=I.kept fun b o z=>kp b o (fun hb=>by
   have lt:=Heap.lt_size z;rw[List.mem_singleton.mp hb] at lt
   exact Nat.lt_irrefl _ lt) (fun e=>by
    have lt:=Heap.lt_size z;rw[e,Heap.size_push] at lt
    exact Nat.lt_irrefl _ (Nat.lt_of_succ_lt lt)) (fr _ _ z)
  rcases hv with⟨h0,rfl⟩|⟨h0,hv⟩
  ·exact⟨d,H,I1,rd,q0 (List.length_eq_zero_iff.mp (by omega))⟩
  ·rw[sz] at h0 hv;obtain⟨b1,b2⟩:=argBest_lt (fun i=>ns.getD i 0) (ns.length - 1);obtain⟨t,rfl⟩:=iv _ _ hv;refine⟨.int _,H,I1,⟨t,rfl⟩,q1 _ ?_ fun n' hn'=>?_⟩
   ·have lt:argBest (fun i j=>decide (ns.getD i 0<ns.getD j 0)) (ns.length - 1)<ns.length:=by omega
    rw[List.getD_eq_getElem?_getD,List.getElem?_eq_getElem lt];exact List.getElem_mem lt
   ·obtain⟨j,hj,rfl⟩:=List.getElem_of_mem hn';have:=b2 j (by omega);rw[List.getD_eq_getElem?_getD (i:=j),List.getElem?_eq_getElem hj] at this;exact this
end
structure Chg (h h' H H':Hp):Prop where
 sm:Same h' H'
 fr:∀b o,H b=some o->h b=none->H' b=some o
 nw:∀b,h' b=none\/h b≠none\/H b=none
def Dis (h g:Hp):Prop:=∀b,h b=none\/g b=none
theorem Dis.symm {h g:Hp}(d:Dis h g):Dis g h:=fun b=>(d b).symm
theorem sg {H H':Hp}{a o}(S:Same H H')(e:H a=some o):H' a=some o:=S _ _ e
theorem un_f {H:Hp}{p a o x}(f:H p=none)(e:H a=some x):upd H p o a=some x:=by rw[upd_ne (ne_of_none e f)];exact e
theorem Chg.refl {h H:Hp}(s:Same h H):Chg h h H H:=⟨s,fun _ _ e _=>e,fun b=>by
 cases h b with
 | none=>exact .inl rfl
 | some o=>exact .inr (.inl (fun z=>nomatch z))⟩
theorem Chg.same {h H H':Hp}(s:Same h H)(S:Same H H'):Chg h h H H':=⟨s.trans S,fun _ _ e _=>S _ _ e,(Chg.refl s).nw⟩
theorem Chg.trans {h h1 h2 H H1 H2:Hp}(a:Chg h h1 H H1)(b:Chg h1 h2 H1 H2):Chg h h2 H H2:=by
 have back:∀c o,H c=some o->h c=none->h1 c=none:=fun c o e n=>by
  rcases a.nw c with z|z|z
  ·exact z
  ·exact absurd n z
  ·rw[e] at z;cases z
 refine⟨b.sm,fun c o e n=>b.fr c o (a.fr c o e n) (back c o e n),fun c=>?_⟩;rcases b.nw c with z|z|z
 ·exact .inl z
 ·rcases a.nw c with y|y|y
  ·exact absurd y z
  ·exact .inr (.inl y)
  ·exact .inr (.inr y)
 ·cases e:H c with
  | none=>exact .inr (.inr rfl)
  | some o=>
   refine .inr (.inl fun n=>?_);rw[a.fr c o e n] at z;cases z
theorem Chg.and {h h1 H H1 H2:Hp}(a:Chg h h1 H H1)(S:Same H1 H2):Chg h h1 H H2:=a.trans (.same a.sm S)
theorem same_upd {h H:Hp}(s:Same h H)(a:Addr)(o:HO):Same (upd h a o) (upd H a o):=fun b x e=>by
 unfold upd at e ⊢;by_cases c:b=a
 ·rw[if_pos c] at e ⊢;exact e
 ·rw[if_neg c] at e ⊢;exact s _ _ e
theorem Chg.add {h H:Hp}{l o}(s:Same h H)(f:H l=none):Chg h (upd h l o) H (upd H l o):=⟨same_upd s l o,fun b x e _=>un_f f e,fun b=>by
 by_cases c:b=l
 ·rw[c];exact .inr (.inr f)
 ·rw[upd_ne c];exact(Chg.refl s).nw b⟩
theorem Chg.mut {h H:Hp}{a o x}(s:Same h H)(e:h a=some x):Chg h (upd h a o) H (upd H a o):=⟨same_upd s a o,fun b y z n=>by
  rw[upd_ne (fun c=>by rw[c,e] at n;cases n)];exact z,fun b=>by
 by_cases c:b=a
 ·rw[c,e];exact .inr (.inl fun z=>nomatch z)
 ·rw[upd_ne c];exact(Chg.refl s).nw b⟩
theorem Chg.keep {h h' H H' g:Hp}(c:Chg h h' H H')(d:Dis h g)(s:Same g H):Same g H':=fun b o e=>c.fr b o (s _ _ e) ((d b).resolve_right fun z=>by rw[e] at z;cases z)
theorem Chg.dis {h h' H H' g:Hp}(c:Chg h h' H H')(d:Dis h g)(s:Same g H):Dis h' g:=fun b=>by
 rcases c.nw b with z|z|z
 ·exact .inl z
 ·exact .inr ((d b).resolve_left z)
 ·exact .inr (s.free z)
theorem Chg.get {h h' H H':Hp}{b o}(c:Chg h h' H H')(n:h b=none)(e:H b=some o):H' b=some o:=c.fr b o e n
theorem Chg.out {h h' H H':Hp}{b o}(c:Chg h h' H H')(n:h b=none)(e:H b=some o):h' b=none:=by
 rcases c.nw b with z|z|z
 ·exact z
 ·exact absurd n z
 ·rw[e] at z;cases z
def rsH (h H':Hp):Hp:=fun b=>if (h b).isSome then H' b else none
theorem rs_at {h H':Hp}{a o}(e:h a=some o):rsH h H' a=H' a:=by unfold rsH;rw[e];rfl
theorem Chg.rs {h H H':Hp}(f:∀b o,H b=some o->h b=none->H' b=some o):Chg h (rsH h H') H H':=⟨fun b o e=>by
  unfold rsH at e;cases c:h b with
  | none=>rw[c] at e;cases e
  | some x=>rw[c] at e;exact e,f,fun b=>by
 unfold rsH;cases c:h b with
 | none=>exact .inl rfl
 | some x=>exact .inr (.inl fun z=>nomatch z)⟩
section
variable {K:Frag}{σ:St}{H:Hp}{Q:VK}{n bk ct:St->Hp->Prop}{rt:VK}{D:Ends}{ta tb tc te:TE}{t u:TS}{tt tu:TT}{g:TG}{gs:TGs}{i j:Nat}{v w':V}{vs:List V}{f:Str}{r r':R2}
theorem s_set (h:te σ H fun x H1=>n (σ.set i (some x)) H1):tAsg te (gName i) ⟨n,rt,bk,ct⟩ σ H:=h
theorem s_asg (h:te σ H fun x H1=>g x σ H1 n):tAsg te g ⟨n,rt,bk,ct⟩ σ H:=h
theorem s_ret (h:te σ H rt):tRet te ⟨n,rt,bk,ct⟩ σ H:=h
theorem s_retN (h:rt .non H):tRetN ⟨n,rt,bk,ct⟩ σ H:=h
theorem s_drop (h:te σ H fun _ H1=>n σ H1):tDrop te ⟨n,rt,bk,ct⟩ σ H:=h
theorem s_if (h:tt σ H fun b H1=>if b=true then t D σ H1 else u D σ H1):tIfS tt t u D σ H:=h
theorem s_next (h:n σ H):tNext ⟨n,rt,bk,ct⟩ σ H:=h
def KFldS (K:Frag)(f:Str)(y:V)(n:St->Hp->Prop)(σ:St)(x:V)(H:Hp):Prop:=∃a C dx fs,x=.ref a/\H a=some (.ins C dx fs)/\Cls K C/\NoAttr K C f/\fs.length<1000/\n σ (upd H a (.ins C dx (putF f y fs)))
theorem s_fld (h:tb σ H fun y H1=>ta σ H1 fun x H2=>KFldS K f y n σ x H2):sFld K ta tb f ⟨n,rt,bk,ct⟩ σ H:=h
theorem k_flds {a C dx}{fs:List (Str×V)}{y}(h:H a=some (.ins C dx fs))(c:Cls K C)(no:NoAttr K C f)(l:fs.length<1000)(q:n σ (upd H a (.ins C dx (putF f y fs)))):KFldS K f y n σ (.ref a) H:=⟨a,C,dx,fs,rfl,h,c,no,l,q⟩
def KDPut (v:V)(n:St->Hp->Prop)(σ:St)(x y:V)(H:Hp):Prop:=∃a H',x=.ref a/\DPut H a y v H'/\n σ H'
theorem s_dput (h:tc σ H fun v H1=>ta σ H1 fun x H2=>tb σ H2 fun y H3=>KDPut v n σ x y H3):sDPut ta tb tc ⟨n,rt,bk,ct⟩ σ H:=h
theorem k_dputK {a}{kvs:List (Key×V)}{k}(h:H a=some (.dK kvs))(l:kvs.length<sizeLine)(q:n σ (upd H a (.dK (putK kvs k v)))):KDPut v n σ (.ref a) (kV k) H:=⟨a,_,rfl,DPut.k h l,q⟩
def KPar (i j:Nat)(n:St->Hp->Prop)(σ:St)(vs:List V)(H:Hp):Prop:=∃v w,vs=[v,w]/\n ((σ.set i (some v)).set j (some w)) H
theorem s_par {ta}(h:ta σ H fun vs H1=>KPar i j n σ vs H1):tPar i j ta ⟨n,rt,bk,ct⟩ σ H:=h
theorem k_par (h:n ((σ.set i (some v)).set j (some w')) H):KPar i j n σ [v,w'] H:=⟨v,w',rfl,h⟩
theorem g_name {N:St->Hp->Prop}(h:N (σ.set i (some v)) H):gName i v σ H N:=h
theorem g_tup {N:St->Hp->Prop}{a}{xs:List V}{k:Nat}(e:H a=some (.tup xs))(l:xs.length=k)(h:gs xs σ H N):gTup K k gs (.ref a) σ H N:=⟨a,xs,rfl,SqT.of e,l,h⟩
theorem g_cons {N:St->Hp->Prop}{xs}(h:g v σ H fun σ' H'=>gs xs σ' H' N):gCons g gs (v::xs) σ H N:=⟨v,xs,rfl,h⟩
theorem g_sub {N:St->Hp->Prop}{ts:TSet}(h:ta σ H fun o H1=>tb σ H1 fun i H2=>ts o i v H2 fun H3=>N σ H3):gSub ta tb ts v σ H N:=h
theorem q_setL {N:Hp->Prop}{a}{xs:List V}{k:Int}{j:Nat}(h:H a=some (.lst xs))(e:ixN xs.length k=some j)(q:N (upd H a (.lst (xs.set j v)))):rSetL (.ref a) (.int k) v H N:=⟨a,xs,k,j,rfl,rfl,h,e,q⟩
theorem g_nil {N:St->Hp->Prop}(h:N σ H):gNil [] σ H N:=⟨rfl,h⟩
def QB (Q:Bool->Hp->Prop)(x:V)(H:Hp):Prop:=∃k,x=.bl k/\Q k H
theorem qb {Q:Bool->Hp->Prop}{k}(h:Q k H):QB Q (.bl k) H:=⟨k,rfl,h⟩
theorem r_test {Q:Bool->Hp->Prop}(h:te σ H (QB Q)):tTest te σ H Q:=h
theorem r_tB {Q:Bool->Hp->Prop}(h:te σ H (QB Q)):tB te σ H Q:=h
theorem r_andV (h:ta σ H (QB fun c H1=>if c=true then tb σ H1 Q else Q (.bl false) H1)):tAndV ta tb σ H Q:=h
theorem r_notV (h:ta σ H (QB fun c H1=>Q (.bl (!c)) H1)):tNotV ta σ H Q:=h
theorem r_and {Q:Bool->Hp->Prop}(h:tt σ H fun c H1=>if c=true then tu σ H1 Q else Q false H1):tAnd tt tu σ H Q:=h
theorem r_or {Q:Bool->Hp->Prop}(h:tt σ H fun c H1=>if c=true then Q true H1 else tu σ H1 Q):tOr tt tu σ H Q:=h
theorem r_not {Q:Bool->Hp->Prop}(h:tt σ H fun c H1=>Q (!c) H1):tNot tt σ H Q:=h
theorem r_ifx (h:tt σ H fun c H1=>if c=true then ta σ H1 Q else tb σ H1 Q):tIf tt ta tb σ H Q:=h
theorem r_var (e:σ[i]?=some (some v))(h:Q v H):tVar i σ H Q:=⟨v,e,h⟩
theorem r_c (h:Q v H):tC v σ H Q:=h
theorem r_op (h:ta σ H fun x H1=>tb σ H1 fun y H2=>r x y H2 Q):tOp r ta tb σ H Q:=h
theorem r_un {ru:V->Hp->VK->Prop}(h:ta σ H fun x H1=>ru x H1 Q):tUn ru ta σ H Q:=h
theorem q_i0 {g:Int->Int->V}{a b:Int}(h:Q (g a b) H):rI0 g (.int a) (.int b) H Q:=⟨a,b,rfl,rfl,h⟩
theorem q_i {C:Int->Int->Prop}{g:Int->Int->V}{a b:Int}(c:C a b)(h:Q (g a b) H):rI C g (.int a) (.int b) H Q:=⟨a,b,rfl,rfl,c,h⟩
theorem q_u {g:Int->V}{a:Int}(h:Q (g a) H):rU g (.int a) H Q:=⟨a,rfl,h⟩
theorem q_eq {x y}(c:scal x y=true)(h:Q (.bl (decide (x=y))) H):rEq x y H Q:=⟨c,h⟩
theorem q_ne {x y}(c:scal x y=true)(h:Q (.bl (!decide (x=y))) H):rNe x y H Q:=⟨c,h⟩
def KChain (r':R2)(tc:TE)(σ:St)(y:V)(Q:VK)(z:V)(H:Hp):Prop:=∃k,z=.bl k/\(if k=true then tc σ H fun w' H4=>r' y w' H4 Q else Q (.bl false) H)
theorem r_chain (h:ta σ H fun x H1=>tb σ H1 fun y H2=>r x y H2 (KChain r' tc σ y Q)):tChain r r' ta tb tc σ H Q:=h
theorem k_chain {y k}(h:if k=true then tc σ H fun w' H4=>r' y w' H4 Q else Q (.bl false) H):KChain r' tc σ y Q (.bl k) H:=⟨k,rfl,h⟩
def KFld (K:Frag)(f:Str)(Q:VK)(x:V)(H:Hp):Prop:=∃a C dx fs v,x=.ref a/\H a=some (.ins C dx fs)/\Cls K C/\NoAttr K C f/\fs.lookup f=some v/\Q v H
theorem r_fld (h:ta σ H (KFld K f Q)):tFld K ta f σ H Q:=h
theorem k_fld {a C dx}{fs:List (Str×V)}(h:H a=some (.ins C dx fs))(c:Cls K C)(no:NoAttr K C f)(l:fs.lookup f=some v)(q:Q v H):KFld K f Q (.ref a) H:=⟨a,C,dx,fs,v,rfl,h,c,no,l,q⟩
def KDGet (x y:V)(Q:VK)(H:Hp):Prop:=∃a v,x=.ref a/\DGet H a y (some v)/\Q v H
theorem r_dget (h:ta σ H fun x H1=>tb σ H1 fun y H2=>KDGet x y Q H2):tDGet ta tb σ H Q:=h
theorem k_dgetK {a kvs k}(h:H a=some (.dK kvs))(e:valV kvs k=some v)(q:Q v H):KDGet (.ref a) (kV k) Q H:=⟨a,v,rfl,e▸DGet.k (k:=k) h,q⟩
def KLst (xs:List V)(Q:VK)(H:Hp):Prop:=xs.length<=sizeLine/\∀p,H p=none->Q (.ref p) (upd H p (.lst xs))
theorem r_lst {t}(h:t σ H fun xs H1=>KLst xs Q H1):tLst t σ H Q:=h
def KTup (xs:List V)(Q:VK)(H:Hp):Prop:=xs.length<=sizeLine/\∀p,H p=none->Q (.ref p) (upd H p (.tup xs))
theorem r_tup {t}(h:t σ H fun xs H1=>KTup xs Q H1):tTup t σ H Q:=h
theorem r_cons {t}{Q:List V->Hp->Prop}(h:ta σ H fun x H1=>t σ H1 fun xs H2=>Q (x::xs) H2):tCons ta t σ H Q:=h
theorem r_nil {Q:List V->Hp->Prop}(h:Q [] H):tNil σ H Q:=h
theorem r_call {sp dvs E t}(h:t σ H fun vs H1=>sp (vs++dvs) H1 Q E):tCall sp dvs E t σ H Q:=h
def KMeth (C:Addr)(m:Str)(sp:Sp)(dvs:List V)(E:XK)(t:TA)(σ:St)(Q:VK)(x:V)(H:Hp):Prop:=∃a dx fs,x=.ref a/\H a=some (.ins C dx fs)/\fs.lookup m=none/\t σ H fun vs H2=>sp (x::(vs++dvs)) H2 Q E
theorem r_meth {C m sp dvs E t}(h:ta σ H (KMeth C m sp dvs E t σ Q)):tMeth C m sp dvs E ta t σ H Q:=h
theorem k_meth {C a dx m sp dvs E t}{fs:List (Str×V)}(h:H a=some (.ins C dx fs))(l:fs.lookup m=none)(q:t σ H fun vs H2=>sp (.ref a::(vs++dvs)) H2 Q E):KMeth C m sp dvs E t σ Q (.ref a) H:=⟨a,dx,fs,rfl,h,l,q⟩
def KMake (C:Addr)(sp:Sp)(dvs:List V)(E:XK)(Q:VK)(vs:List V)(H:Hp):Prop:=∀x dx,H x=none->H dx=none->dx≠x->sp (.ref x::(vs++dvs)) (upd (upd H dx (.own x)) x (.ins C dx [])) (fun v H2=>v=.non/\Q (.ref x) H2) E
theorem r_make {C sp dvs E t}(h:t σ H fun vs H1=>KMake C sp dvs E Q vs H1):tMake C sp dvs E t σ H Q:=h
theorem r_cb {rr:List V->Hp->VK->Prop}{t}(h:t σ H fun vs H1=>rr vs H1 Q):tCB rr t σ H Q:=h
theorem q_ixL {a xs}{k:Int}(h:H a=some (.lst xs))(e:atI xs k=some v)(q:Q v H):rIxL K (.ref a) (.int k) H Q:=⟨a,xs,k,v,rfl,rfl,SqL.of h,e,q⟩
theorem q_ixT {a xs}{k:Int}(h:H a=some (.tup xs))(e:atI xs k=some v)(q:Q v H):rIxT K (.ref a) (.int k) H Q:=⟨a,xs,k,v,rfl,rfl,SqT.of h,e,q⟩
def KAtT (K:Frag)(T:String)(rr:V->List V->Hp->VK->Prop)(t:TA)(σ:St)(Q:VK)(x:V)(H:Hp):Prop:=tyV K T x H/\t σ H fun xs H2=>rr x xs H2 Q
theorem r_bm {T}{rr:V->List V->Hp->VK->Prop}{t}(h:ta σ H (KAtT K T rr t σ Q)):tBM K T rr ta t σ H Q:=h
theorem k_bmL {a xs}{rr:V->List V->Hp->VK->Prop}{t}(h:H a=some (.lst xs))(q:t σ H fun ys H2=>rr (.ref a) ys H2 Q):KAtT K "list" rr t σ Q (.ref a) H:=⟨.inl ⟨rfl,_,SqL.of h⟩,q⟩
theorem q_append {a}{xs:List V}{y}(h:H a=some (.lst xs))(l:xs.length<sizeLine)(q:Q .non (upd H a (.lst (xs++[y])))):rAppend (.ref a) [y] H Q:=⟨a,xs,y,rfl,rfl,h,l,q⟩
theorem q_cat {a b}{xs ys:List V}(h1:H a=some (.lst xs))(h2:H b=some (.lst ys))(l:xs.length+ys.length<=sizeLine)(q:∀p,H p=none->Q (.ref p) (upd H p (.lst (xs++ys)))):rCat (.ref a) (.ref b) H Q:=⟨a,b,xs,ys,rfl,rfl,h1,h2,l,q⟩
end
end L2
namespace L2
open PySem
def RowAt (tp:Bool)(H:Hp)(a:Addr)(xs:List V):Prop:=H a=some (if tp then .tup xs else .lst xs)
theorem RowAt.sq {K tp}{H:Hp}{a xs}(h:RowAt tp H a xs):SqB K tp H a xs:=by
 cases tp with
 | true=>exact SqT.of h
 | false=>exact SqL.of h
theorem itb_go {K tp}{H:Hp}{a xs}{i:Nat}{x}(h:RowAt tp H a xs)(e:xs[i]?=some x):(ItB K tp a).go i H:=by
 cases tp with
 | true=>exact⟨xs,x,SqT.of h,e⟩
 | false=>exact⟨xs,x,SqL.of h,e⟩
theorem itb_yld {K tp}{H H':Hp}{a xs}{i:Nat}{v}(h:RowAt tp H a xs)(y:(ItB K tp a).yld i H v H'):H'=H/\xs[i]?=some v:=by
 cases tp with
 | true=>exact⟨y.1,y.2 xs (SqT.of h)⟩
 | false=>exact⟨y.1,y.2 xs (SqL.of h)⟩
theorem itb_stop {K tp}{H:Hp}{a}{xs:List V}{i:Nat}(h:RowAt tp H a xs)(e:xs.length<=i):(ItB K tp a).stop i H:=by
 cases tp with
 | true=>exact⟨xs,SqT.of h,e⟩
 | false=>exact⟨xs,SqL.of h,e⟩
theorem row_len {K tp}{H:Hp}{a xs}(h:RowAt tp H a xs):SqL K H a xs\/SqT K H a xs:=by
 cases tp with
 | true=>exact .inr (SqT.of h)
 | false=>exact .inl (SqL.of h)
theorem row_ix {K tp}{H:Hp}{a xs}{i:Int}{v Q}(h:RowAt tp H a xs)(e:atI xs i=some v)(q:Q v H):rIx K (.ref a) (.int i) H Q:=by
 cases tp with
 | true=>exact .inr (.inl ⟨_,_,_,_,rfl,rfl,SqT.of h,e,q⟩)
 | false=>exact .inl ⟨_,_,_,_,rfl,rfl,SqL.of h,e,q⟩
theorem sameD {H1 H2:Hp}{D o}(s:Same H1 H2)(d:H1 D=none):Same H1 (upd H2 D o):=fun b u q=>by rw[upd_ne (ne_of_none q d)];exact s b u q
theorem iteE {b c}{A B:Prop}(e:b=c)(h:if c=true then A else B):if b=true then A else B:=by subst e;exact h
theorem big1000:(2001:Nat)<=sizeLine:=by decide
theorem comp_pure {J:It}{js:List Nat}{tc:TT}{te:TE}{σ:St}{H1:Hp}{Q:VK}(xs:List V)(p:V->Bool)(g:V->V)
  (hJ:∀i H2,Same H1 H2->(i<xs.length->J.go i H2)/\(∀v H3,J.yld i H2 v H3->i<xs.length->H3=H2/\xs[i]?=some v)/\(xs.length<=i->J.stop i H2))
  (hc:∀x∈xs,∀H2 (R:Bool->Hp->Prop),Same H1 H2->(∀H3,Same H2 H3->R (p x) H3)->tc (blkSt js σ (some x)) H2 R)
  (he:∀x∈xs,p x=true->∀H2 (R:VK),Same H1 H2->(∀H3,Same H2 H3->R (g x) H3)->te (blkSt js σ (some x)) H2 R)
  (hz:xs.length<=2000) (q:∀d H2,H1 d=none->Same H1 H2->H2 d=some (.lst ((xs.filter p).map g))->Q (.ref d) H2) (D:Addr) (hD:H1 D=none) :
  ∃W:Nat->Nat->Hp->Prop,(∃m,W 0 m (upd H1 D (.lst [])))/\∀i m H2,W i m H2 ->
   (J.stop i H2/\Q (.ref D) H2)\/(J.go i H2/\∀v H3,J.yld i H2 v H3->tc (blkSt js σ (some v)) H3 fun b H4=>
    if b=true then te (blkSt js σ (some v)) H4 fun y H5=>∃ys,H5 D=some (.lst ys)/\ys.length<sizeLine/\∃m',m'<m/\W (i+1) m' (upd H5 D (.lst (ys++[y])))
    else ∃m',m'<m/\W (i+1) m' H4):=by
 refine⟨fun i m H2=>i+m=xs.length/\Same H1 H2/\H2 D=some (.lst (((xs.take i).filter p).map g)),⟨xs.length,by omega,sameD (Same.refl _) hD,by simp[upd_same]⟩,?_⟩;rintro i m H2 ⟨hm,S2,e2⟩;by_cases hi:i<xs.length
 ·obtain⟨j1,j2,j3⟩:=hJ i H2 S2;refine .inr ⟨j1 hi,fun v H3 yl=>?_⟩;obtain⟨rfl,ev⟩:=j2 v H3 yl hi;have hv:v∈xs:=List.mem_of_getElem? ev
  have tk:xs.take (i+1)=xs.take i++[v]:=by
   rw[List.take_add_one,ev];rfl
  have len:(((xs.take i).filter p).map g).length<=2000:=by
   rw[List.length_map];exact Nat.le_trans (List.length_filter_le _ _) (by rw[List.length_take];omega)
  refine hc v hv H3 _ S2 fun H4 S4=>?_;cases hp:p v with
  | false=>exact iteF ⟨m - 1,by omega,by omega,S2.trans S4,by rw[tk,List.filter_append];simp[hp,S4 _ _ e2]⟩
  | true=>
   refine iteT (he v hv hp H4 _ (S2.trans S4) fun H5 S5=>⟨_,S5 _ _ (S4 _ _ e2),by have:=big1000;omega,m - 1,by omega,by omega,sameD ((S2.trans S4).trans S5) hD,?_⟩);rw[upd_same,tk,List.filter_append];simp[hp]
 ·refine .inl ⟨(hJ i H2 S2).2.2 (by omega),q D H2 hD S2 ?_⟩;rw[e2,List.take_of_length_le (by omega)]
theorem tcb1 {r:List V->Hp->VK->Prop}{ta}{σ:St}{H:Hp}{Q}(h:ta σ H fun x H1=>r [x] H1 Q):tCB r (tCons ta tNil) σ H Q:=h
theorem tand1 {ta tb}{σ:St}{H:Hp}{Q}(h:ta σ H fun x H1=>∃c,x=.bl c/\if c=true then tb σ H1 Q else Q (.bl false) H1):tAndV ta tb σ H Q:=h
theorem tret1 {te}{D:Ends}{σ:St}{H:Hp}(h:te σ H D.rt):tRet te D σ H:=h
theorem comp_f {J:It}{js:List Nat}{wi:TI}{tc:TT}{te:TE}{σ:St}{H H1:Hp}{Q:VK}(xs:List V)(p:V->Bool)(g:V->V)(hw:∀R:It->Hp->Prop,R J H1->wi σ H R)
  (hJ:∀i H2,Same H1 H2->(i<xs.length->J.go i H2)/\(∀v H3,J.yld i H2 v H3->i<xs.length->H3=H2/\xs[i]?=some v)/\(xs.length<=i->J.stop i H2))
  (hc:∀x∈xs,∀H2 (R:Bool->Hp->Prop),Same H1 H2->(∀H3,Same H2 H3->R (p x) H3)->tc (blkSt js σ (some x)) H2 R)
  (he:∀x∈xs,p x=true->∀H2 (R:VK),Same H1 H2->(∀H3,Same H2 H3->R (g x) H3)->te (blkSt js σ (some x)) H2 R)
  (hz:xs.length<=2000) (q:∀d H2,H1 d=none->Same H1 H2->H2 d=some (.lst ((xs.filter p).map g))->Q (.ref d) H2):tComp js wi tc te σ H Q:=
 hw _ fun D hD=>comp_pure xs p g hJ hc he hz q D hD
theorem it_row {K tp}{H1:Hp}{a}{xs:List V}(h:RowAt tp H1 a xs):∀i H2,Same H1 H2 ->
  (i<xs.length->(ItB K tp a).go i H2)/\(∀v H3,(ItB K tp a).yld i H2 v H3->i<xs.length->H3=H2/\xs[i]?=some v)/\(xs.length<=i->(ItB K tp a).stop i H2):=fun i H2 S=>by
 have h2:RowAt tp H2 a xs:=S _ _ h;refine⟨fun hi=>?_,fun v H3 y _=>itb_yld h2 y,fun hi=>itb_stop h2 hi⟩;exact itb_go h2 (x:=xs[i]) (by simp[hi])
theorem it_rng {lo:Int}{n:Nat}{H1:Hp}:∀i H2,Same H1 H2->(i<(upTo lo n).length->(Itr lo n).go i H2)/\(∀v H3,(Itr lo n).yld i H2 v H3->i<(upTo lo n).length->H3=H2/\(upTo lo n)[i]?=some v)/\((upTo lo n).length<=i->(Itr lo n).stop i H2):=fun i H2 S=>by
 have l:(upTo lo n).length=n:=by simp[L2.upTo]
 rw[l];refine⟨fun hi=>hi,fun v H3 y hi=>?_,fun hi=>hi⟩;obtain⟨rfl,rfl⟩:=y;exact⟨rfl,by simp[L2.upTo,hi]⟩
theorem kb_back {H H1:Hp}{p l}(k:KB p H H1)(h:H1 l=none)(n:l≠p):H l=none:=by
 cases c:H l with
 | none=>rfl
 | some o=>rw[k l o c n] at h;cases h
theorem tseq1 {t u}{D:Ends}{σ:St}{H:Hp}(h:t { D with nx:=fun σ' H'=>u D σ' H' } σ H):tSeq t u D σ H:=h
theorem seq2 {t u:TS}{D:Ends}{σ:St}{H:Hp}(R:St->Hp->Prop)(mk:∀N:St->Hp->Prop,(∀σ' H',R σ' H'->N σ' H')->t { D with nx:=N } σ H)(q:∀σ' H',R σ' H'->u D σ' H'):tSeq t u D σ H:=tseq1 (mk _ q)
theorem kbF {H H1:Hp}{p q o}(k:KB p H H1)(h:H q=none):KB p H (upd H1 q o):=fun b u z n=>by rw[upd_ne (ne_of_none z h)];exact k b u z n
theorem comp2_pure {K}{J:It}{js:List Nat}{tc:TT}{te:TE}{σ:St}{H1:Hp}{Q:VK}(ps:List (Int×Int))(p:Int×Int->Bool)(g:Int×Int->V)
  (hJ:∀i H2,Same H1 H2->(i<ps.length->J.go i H2)/\(∀v H3 x,J.yld i H2 v H3->ps[i]?=some x->∃t,v=.ref t/\Same H2 H3/\H3 t=some (.tup [.int x.1,.int x.2]))/\(ps.length<=i->J.stop i H2))
  (hc:∀x∈ps,∀H2 (R:Bool->Hp->Prop),Same H1 H2->(∀H3,Same H2 H3->R (p x) H3)->tc (blkSt2 js σ (some (.int x.1)) (some (.int x.2))) H2 R)
  (he:∀x∈ps,p x=true->∀H2 (R:VK),Same H1 H2->(∀H3,Same H2 H3->R (g x) H3)->te (blkSt2 js σ (some (.int x.1)) (some (.int x.2))) H2 R)
  (hz:ps.length<=2000) (q:∀d H2,H1 d=none->Same H1 H2->H2 d=some (.lst ((ps.filter p).map g))->Q (.ref d) H2) (D:Addr) (hD:H1 D=none) :
  ∃W:Nat->Nat->Hp->Prop,(∃m,W 0 m (upd H1 D (.lst [])))/\∀i m H2,W i m H2 ->
   (J.stop i H2/\Q (.ref D) H2)\/(J.go i H2/\∀v H3,J.yld i H2 v H3->∃t y y',v=.ref t/\SqT K H3 t [y,y']/\tc (blkSt2 js σ (some y) (some y')) H3 fun b H4=>
    if b=true then te (blkSt2 js σ (some y) (some y')) H4 fun y H5=>∃ys,H5 D=some (.lst ys)/\ys.length<sizeLine/\∃m',m'<m/\W (i+1) m' (upd H5 D (.lst (ys++[y])))
    else ∃m',m'<m/\W (i+1) m' H4):=by
 refine⟨fun i m H2=>i+m=ps.length/\Same H1 H2/\H2 D=some (.lst (((ps.take i).filter p).map g)),⟨ps.length,by omega,sameD (Same.refl _) hD,by simp[upd_same]⟩,?_⟩;rintro i m H2 ⟨hm,S2,e2⟩;by_cases hi:i<ps.length
 ·obtain⟨j1,j2,j3⟩:=hJ i H2 S2;have ex:ps[i]?=some ps[i]:=List.getElem?_eq_getElem hi;generalize ps[i]=x at ex;refine .inr ⟨j1 hi,fun v H3 yl=>?_⟩;obtain⟨t,rfl,S3,et⟩:=j2 v H3 x yl ex;have hx:x∈ps:=List.mem_of_getElem? ex;have tk:ps.take (i+1)=ps.take i++[x]:=by rw[List.take_add_one,ex];rfl
  have len:(((ps.take i).filter p).map g).length<=2000:=by
   rw[List.length_map];exact Nat.le_trans (List.length_filter_le _ _) (by rw[List.length_take];omega)
  refine⟨t,_,_,rfl,SqT.of et,hc x hx H3 _ (S2.trans S3) fun H4 S4=>?_⟩;have S34:=S3.trans S4;cases hp:p x with
  | false=>exact iteF ⟨m - 1,by omega,by omega,S2.trans S34,by rw[tk,List.filter_append];simp[hp,S34 _ _ e2]⟩
  | true=>
   refine iteT (he x hx hp H4 _ (S2.trans S34) fun H5 S5=>⟨_,S5 _ _ (S34 _ _ e2),by have:=big1000;omega,m - 1,by omega,by omega,sameD ((S2.trans S34).trans S5) hD,?_⟩);rw[upd_same,tk,List.filter_append];simp[hp]
 ·refine .inl ⟨(hJ i H2 S2).2.2 (by omega),q D H2 hD S2 ?_⟩;rw[e2,List.take_of_length_le (by omega)]
def Tups (H:Hp)(ts:List Addr)(ps:List (Int×Int)):Prop:=ts.length=ps.length/\∀(j:Nat) (t:Addr) (x:Int×Int),ts[j]?=some t->ps[j]?=some x->H t=some (.tup [.int x.1,.int x.2])
theorem Tups.keep {H H':Hp}{ts ps}(h:Tups H ts ps)(S:∀b xs,H b=some (.tup xs)->H' b=some (.tup xs)):Tups H' ts ps:=⟨h.1,fun j t x a b=>S _ _ (h.2 j t x a b)⟩
theorem it_prs {K}{H1:Hp}{l}{ts:List Addr}{ps:List (Int×Int)}(hl:H1 l=some (.lst (ts.map V.ref)))(h:Tups H1 ts ps):∀i H2,Same H1 H2 ->
  (i<ps.length->(Itl K l).go i H2)/\(∀v H3 x,(Itl K l).yld i H2 v H3->ps[i]?=some x->∃t,v=.ref t/\Same H2 H3/\H3 t=some (.tup [.int x.1,.int x.2]))/\(ps.length<=i->(Itl K l).stop i H2):=fun i H2 S=>by
 have h2:SqL K H2 l (ts.map V.ref):=SqL.of (S _ _ hl);have le:=h.1;refine⟨fun hi=>⟨_,.ref ts[i],h2,by rw[List.getElem?_map,List.getElem?_eq_getElem (by omega)];rfl⟩,fun v H3 x yl ex=>?_,fun hi=>⟨_,h2,by rw[List.length_map];omega⟩⟩;obtain⟨rfl,y2⟩:=yl;have ev:=y2 _ h2;rw[List.getElem?_map] at ev;obtain⟨t,et,rfl⟩:=Option.map_eq_some_iff.mp ev;exact⟨t,rfl,Same.refl _,S _ _ (h.2 i t x et ex)⟩
def kL (ps:List (Int×Int)):List (Key×V):=ps.map fun p=>(Sum.inl p.1,V.int p.2)
def kT (ns:List Int):List (Key×V):=ns.map fun n=>(Sum.inl n,V.bl true)
theorem kL_at {ps}{i:Nat}{x:Int×Int}(h:ps[i]?=some x):(kL ps)[i]?=some (Sum.inl x.1,V.int x.2):=by unfold kL;rw[List.getElem?_map,h];rfl
theorem kL_len (ps:List (Int×Int)):(kL ps).length=ps.length:=by unfold kL;rw[List.length_map]
theorem kT_len (ns:List Int):(kT ns).length=ns.length:=by unfold kT;rw[List.length_map]
theorem it_its {H1:Hp}{d o}{ps:List (Int×Int)}(hd:H1 d=some (.frz o (.dK (kL ps)))):∀i H2,Same H1 H2 ->
  (i<ps.length->(Iti d o (kL ps)).go i H2)/\(∀v H3 x,(Iti d o (kL ps)).yld i H2 v H3->ps[i]?=some x->∃t,v=.ref t/\Same H2 H3/\H3 t=some (.tup [.int x.1,.int x.2]))/\(ps.length<=i->(Iti d o (kL ps)).stop i H2):=fun i H2 S=>by
 refine⟨fun hi=>⟨S _ _ hd,by rw[kL_len];exact hi⟩,fun v H3 x yl ex=>?_,fun hi=>⟨S _ _ hd,by rw[kL_len];exact hi⟩⟩;obtain⟨t,k,y,rfl,ft,e,rfl⟩:=yl;rw[kL_at ex] at e;cases e;exact⟨t,rfl,Same.upd ft,upd_same⟩
theorem it_vals {H1:Hp}{d o}{ps:List (Int×Int)}(hd:H1 d=some (.frz o (.dK (kL ps)))):∀i H2,Same H1 H2 ->
  (i<(ps.map fun p=>V.int p.2).length->(Itv d o (kL ps)).go i H2)/\(∀v H3,(Itv d o (kL ps)).yld i H2 v H3->i<(ps.map fun p=>V.int p.2).length->H3=H2/\(ps.map fun p=>V.int p.2)[i]?=some v)/\((ps.map fun p=>V.int p.2).length<=i->(Itv d o (kL ps)).stop i H2):=fun i H2 S=>by
 rw[List.length_map];refine⟨fun hi=>⟨S _ _ hd,by rw[kL_len];exact hi⟩,fun v H3 yl hi=>?_,fun hi=>⟨S _ _ hd,by rw[kL_len];exact hi⟩⟩;obtain⟨rfl,k,e⟩:=yl;rw[kL_at (List.getElem?_eq_getElem hi)] at e;cases e;exact⟨rfl,by rw[List.getElem?_map,List.getElem?_eq_getElem hi];rfl⟩
theorem comp_vals {js:List Nat}{te to:TE}{σ:St}{H:Hp}{Q:VK}{d}{ps:List (Int×Int)}(hto:∀R:VK,R (.ref d) H->to σ H R)(hd:H d=some (.dK (kL ps)))(hz:ps.length<=1000)(g:Int->V)
  (he:∀x∈ps,∀H2 (R:VK),KB d H H2->(∀H3,Same H2 H3->R (g x.2) H3)->te (blkSt js σ (some (.int x.2))) H2 R)
  (q:∀l H',H l=none->Same H H'->H' l=some (.lst (ps.map fun x=>g x.2))->Q (.ref l) H'):tThaw (tComp js (iVals to) (fun _ H Q=>Q true H) te) σ H Q:=by
 refine⟨d,_,hd,(fun _ _ z=>nomatch z),hto _ ⟨d,kL ps,rfl,hd,fun ob D hD=>?_⟩⟩;have kb:∀{H2:Hp},Same (upd H d (.frz ob (.dK (kL ps)))) H2->KB d H H2:=fun S b o z n=>S _ _ (by rw[upd_ne n];exact z)
 refine comp_pure (js:=js) (tc:=fun _ H Q=>Q true H) (te:=te) (σ:=σ) (Q:=fun x H1=>∃o kvs,H1 d=some (.frz o (.dK kvs))/\Q x (upd H1 d (.dK kvs))) (ps.map fun p=>V.int p.2) (fun _=>true) (fun v=>match v with|.int z=>g z|v=>v) (it_vals upd_same) ?_ ?_ (by rw[List.length_map];omega) ?_ D hD
 ·exact fun v hv H2 R' S2 r=>r H2 (Same.refl _)
 ·intro v hv _ H2 R' S2 r;obtain⟨c,hc,rfl⟩:=List.mem_map.mp hv;exact he c hc H2 R' (kb S2) r
 ·intro l H2 fl S2 e2;have e3:=S2 _ _ (upd_same (H:=H) (a:=d) (o:=.frz ob (.dK (kL ps))));refine⟨ob,kL ps,e3,q l _ ?_ (fun b o z=>?_) ?_⟩
  ·cases c:H l with
   | none=>rfl
   | some o=>
    by_cases hb:l=d
    ·subst hb;rw[upd_same] at fl;cases fl
    ·rw[upd_ne hb,c] at fl;cases fl
  ·by_cases hb:b=d
   ·subst hb;rw[hd] at z;cases z;exact upd_same
   ·rw[upd_ne hb];exact kb S2 b o z hb
  ·rw[upd_ne (ne_of e2 e3 (fun z=>nomatch z)),e2,List.filter_eq_self.mpr (fun _ _=>rfl),List.map_map];rfl
theorem comp_items {K}{js:List Nat}{tc:TT}{te to:TE}{σ:St}{H:Hp}{Q:VK}{d}{ps:List (Int×Int)}(hto:∀R:VK,R (.ref d) H->to σ H R)(hd:H d=some (.dK (kL ps)))(hz:ps.length<=1000)(p:Int×Int->Bool)(g:Int×Int->V)
  (hc:∀x∈ps,∀H2 (R:Bool->Hp->Prop),KB d H H2->(∀H3,Same H2 H3->R (p x) H3)->tc (blkSt2 js σ (some (.int x.1)) (some (.int x.2))) H2 R)
  (he:∀x∈ps,p x=true->∀H2 (R:VK),KB d H H2->(∀H3,Same H2 H3->R (g x) H3)->te (blkSt2 js σ (some (.int x.1)) (some (.int x.2))) H2 R)
  (q:∀l H',H l=none->Same H H'->H' l=some (.lst ((ps.filter p).map g))->Q (.ref l) H'):tThaw (tComp2 K js (iItems to) tc te) σ H Q:=by
 refine⟨d,_,hd,(fun _ _ z=>nomatch z),hto _ ⟨d,kL ps,rfl,hd,fun ob D hD=>?_⟩⟩;have kb:∀{H2:Hp},Same (upd H d (.frz ob (.dK (kL ps)))) H2->KB d H H2:=fun S b o z n=>S _ _ (by rw[upd_ne n];exact z)
 refine comp2_pure (K:=K) (js:=js) (tc:=tc) (te:=te) (σ:=σ) (Q:=fun x H1=>∃o kvs,H1 d=some (.frz o (.dK kvs))/\Q x (upd H1 d (.dK kvs))) ps p g (it_its upd_same) (fun x hx H2 R S2 r=>hc x hx H2 R (kb S2) r) (fun x hx hp H2 R S2 r=>he x hx hp H2 R (kb S2) r) (by omega) ?_ D hD;intro l H2 fl S2 e2;have e3:=S2 _ _ (upd_same (H:=H) (a:=d) (o:=.frz ob (.dK (kL ps))))
 refine⟨ob,kL ps,e3,q l _ ?_ (fun b o z=>?_) ?_⟩
 ·cases c:H l with
  | none=>rfl
  | some o=>
   by_cases hb:l=d
   ·subst hb;rw[upd_same] at fl;cases fl
   ·rw[upd_ne hb,c] at fl;cases fl
 ·by_cases hb:b=d
  ·subst hb;rw[hd] at z;cases z;exact upd_same
  ·rw[upd_ne hb];exact kb S2 b o z hb
 ·rw[upd_ne (ne_of e2 e3 (fun z=>nomatch z)),e2]
theorem comp_list {K}{js:List Nat}{tc:TT}{te to:TE}{σ:St}{H:Hp}{Q:VK}{l}{ts:List Addr}{ps:List (Int×Int)}(hto:∀R:VK,R (.ref l) H->to σ H R)(hl:H l=some (.lst (ts.map V.ref)))(ht:Tups H ts ps)(hz:ps.length<=1000)(p:Int×Int->Bool)(g:Int×Int->V)
  (hc:∀x∈ps,∀H2 (R:Bool->Hp->Prop),Same H H2->(∀H3,Same H2 H3->R (p x) H3)->tc (blkSt2 js σ (some (.int x.1)) (some (.int x.2))) H2 R)
  (he:∀x∈ps,p x=true->∀H2 (R:VK),Same H H2->(∀H3,Same H2 H3->R (g x) H3)->te (blkSt2 js σ (some (.int x.1)) (some (.int x.2))) H2 R)
  (q:∀d H',H d=none->Same H H'->H' d=some (.lst ((ps.filter p).map g))->Q (.ref d) H'):tComp2 K js (iList K to) tc te σ H Q:=
 hto _ ⟨l,rfl,⟨_,SqL.of hl⟩,fun D hD=>comp2_pure (K:=K) (js:=js) (tc:=tc) (te:=te) (σ:=σ) (Q:=Q) ps p g (it_prs hl ht) hc he (by omega) q D hD⟩
theorem bt_sorted:bootBuiltins "sorted" = some (.builtin "sorted"):=by decide +kernel
theorem kT_val (ns:List Int)(p:Int):(valV (kT ns) (Sum.inl p)).isSome=decide (p∈ns):=by
 induction ns with
 | nil=>rfl
 | cons n ns ih=>
  by_cases e:n=p
  ·subst e;rw[show kT (n::ns)=(Sum.inl n,V.bl true)::kT ns from rfl,valV_pos rfl,decide_eq_true (List.mem_cons_self ..)];rfl
  ·rw[show kT (n::ns)=(Sum.inl n,V.bl true)::kT ns from rfl,valV_neg (fun z=>e (Sum.inl.inj z)),ih];exact decide_eq_decide.mpr ⟨fun h=>List.mem_cons_of_mem _ h,fun h=>(List.mem_cons.mp h).resolve_left fun z=>e z.symm⟩
theorem kL_val (ps:List (Int×Int))(p:Int):(valV (kL ps) (Sum.inl p)).isSome=decide (p∈ps.map (·.1)):=by
 induction ps with
 | nil=>rfl
 | cons n ns ih=>
  by_cases e:n.1=p
  ·subst e;rw[show kL (n::ns)=(Sum.inl n.1,V.int n.2)::kL ns from rfl,valV_pos rfl,decide_eq_true (by simp)];rfl
  ·rw[show kL (n::ns)=(Sum.inl n.1,V.int n.2)::kL ns from rfl,valV_neg (fun z=>e (Sum.inl.inj z)),ih];exact decide_eq_decide.mpr ⟨fun h=>List.mem_cons_of_mem _ h,fun h=>(List.mem_cons.mp h).resolve_left fun z=>e z.symm⟩
theorem kT_some {ns}{p:Int}(h:p∈ns):∃v,valV (kT ns) (Sum.inl p)=some v:=by
 have:=kT_val ns p;rw[decide_eq_true h] at this;exact Option.isSome_iff_exists.mp this
theorem kL_some {ps:List (Int×Int)}{p:Int}(h:p∈ps.map (·.1)):∃v,valV (kL ps) (Sum.inl p)=some v:=by
 have:=kL_val ps p;rw[decide_eq_true h] at this;exact Option.isSome_iff_exists.mp this
theorem kT_none {ns}{p:Int}(h:p∉ns):valV (kT ns) (Sum.inl p)=none:=by
 have:=kT_val ns p;rw[decide_eq_false h] at this;cases c:valV (kT ns) (Sum.inl p) with
 | none=>rfl
 | some v=>rw[c] at this;cases this
theorem kL_none {ps:List (Int×Int)}{p:Int}(h:p∉ps.map (·.1)):valV (kL ps) (Sum.inl p)=none:=by
 have:=kL_val ps p;rw[decide_eq_false h] at this;cases c:valV (kL ps) (Sum.inl p) with
 | none=>rfl
 | some v=>rw[c] at this;cases this
theorem kT_put {ns}{p:Int}(h:p∉ns):putK (kT ns) (Sum.inl p) (V.bl true)=kT (ns++[p]):=by
 rw[putK_new _ (kT_none h)];unfold kT;rw[List.map_append];rfl
theorem kL_put {ps:List (Int×Int)}{p l:Int}(h:p∉ps.map (·.1)):putK (kL ps) (Sum.inl p) (V.int l)=kL (ps++[(p,l)]):=by
 rw[putK_new _ (kL_none h)];unfold kL;rw[List.map_append];rfl
theorem kT_drop (ns:List Int)(p:Int):dropK (kT ns) (Sum.inl p)=kT (ns.filter fun n=>decide (n≠p)):=by
 unfold dropK kT;rw[List.filter_map];congr 1;refine List.filter_congr fun n _=>decide_eq_decide.mpr ⟨fun h z=>h (congrArg Sum.inl z),fun h z=>h (Sum.inl.inj z)⟩
theorem kL_drop (ps:List (Int×Int))(p:Int):dropK (kL ps) (Sum.inl p)=kL (ps.filter fun x=>decide (x.1≠p)):=by
 unfold dropK kL;rw[List.filter_map];congr 1;refine List.filter_congr fun n _=>decide_eq_decide.mpr ⟨fun h z=>h (congrArg Sum.inl z),fun h z=>h (Sum.inl.inj z)⟩
theorem kT_keys (ns:List Int):(kT ns).map (·.1)=ns.map Sum.inl:=by unfold kT;rw[List.map_map];rfl
def MtOk (P:Program)(w:World)(K:Frag)(mg:Str->Option Value)(base:Heap)(CX:CXT)(C:Addr)(nm:Str)(ps:List Str)(k:Nat)(sp:Sp):Prop:=
 ∃f fd,Meth K C nm f/\Binds K fd ps []/\FnOk P w K mg base CX k f fd ps sp
structure RS where
 lap:Int
 us:List Int
 ks:List (Int×Int)
 fs:List Int
 cs:List (Int×Int)
def RS.places (S:RS):List Int:=S.us++S.ks.map (·.1)++S.fs
def pastL (cs:List (Int×Int))(l:Int):Bool:=cs.all fun c=>decide (l<c.2)
def RS.rel (S:RS):RS:={ S with ks:=S.ks.filter (fun k=>!pastL S.cs k.2),fs:=S.fs++(S.ks.filter fun k=>pastL S.cs k.2).map (·.1) }
def RS.gone (S:RS)(p:Int):RS:={ S with us:=S.us.filter (fun n=>decide (n≠p)),ks:=S.ks++[(p,S.lap)],lap:=S.lap+1 }
def RS.left (S:RS)(n:Int):RS:={ S with cs:=S.cs.filter fun c=>decide (c.1≠n) }
def RS.come (S:RS)(n:Int):RS:={ S with cs:=S.cs++[(n,S.lap)] }
def RS.take (S:RS)(p:Int):RS:={ S with us:=S.us++[p],fs:=S.fs.filter fun n=>decide (n≠p) }
structure RS.Ok (S:RS):Prop where
 nd:S.places.Nodup
 rg:∀p∈S.places,0<=p/\p<(S.places.length:Nat)
 cn:(S.cs.map (·.1)).Nodup
 cr:∀c∈S.cs,0<=c.1/\c.1<=1000000
theorem perm_filter {α:Type}(f:α->Bool):∀l:List α,(l.filter f++l.filter fun x=>!f x).Perm l
 | []=>.refl _
 | x::l=>by
  have ih:=perm_filter f l;cases c:f x with
  | true=>rw[List.filter_cons_of_pos c,List.filter_cons_of_neg (by rw[c];decide)];exact ih.cons x
  | false=>
   rw[List.filter_cons_of_neg (by rw[c];decide),List.filter_cons_of_pos (by rw[c];rfl)];exact List.perm_middle.trans (ih.cons x)
theorem filter_out {p:Int}:∀{l:List Int},l.Nodup->p∈l->(p::l.filter fun n=>decide (n≠p)).Perm l
 | x::l,nd,h=>by
  obtain⟨n1,n2⟩:=List.nodup_cons.mp nd;by_cases e:x=p
  ·subst e;have fs:l.filter (fun n=>decide (n≠x))=l:=List.filter_eq_self.mpr fun y hy=>decide_eq_true (show y≠x from fun z=>n1 (by rw[<- z];exact hy));rw[List.filter_cons_of_neg (by simp),fs]
  ·rw[List.filter_cons_of_pos (by simpa using e)];have hm:p∈l:=(List.mem_cons.mp h).resolve_left fun z=>e z.symm;exact(List.Perm.swap ..).trans ((filter_out n2 hm).cons x)
theorem RS.Ok.of {S S':RS}(o:S.Ok)(p:S'.places.Perm S.places)(c:S'.cs=S.cs):S'.Ok:=⟨p.nodup_iff.mpr o.nd,fun q hq=>by rw[p.length_eq];exact o.rg q (p.mem_iff.mp hq),by rw[c];exact o.cn,by rw[c];exact o.cr⟩
theorem RS.rel_perm (S:RS):S.rel.places.Perm S.places:=by
 unfold RS.places RS.rel;dsimp only
 have h1:((S.ks.filter fun k=>pastL S.cs k.2).map (·.1)++(S.ks.filter fun k=>!pastL S.cs k.2).map (·.1)).Perm (S.ks.map (·.1)):=by
  rw[<- List.map_append];exact(perm_filter (fun k:Int×Int=>pastL S.cs k.2) S.ks).map _
 have h2:((S.ks.filter fun k=>!pastL S.cs k.2).map (·.1)++(S.fs++(S.ks.filter fun k=>pastL S.cs k.2).map (·.1))).Perm (S.ks.map (·.1)++S.fs):=by
  rw[<- List.append_assoc];refine List.perm_append_comm.trans ?_;rw[<- List.append_assoc];exact h1.append_right _
 rw[List.append_assoc,List.append_assoc];exact h2.append_left _
theorem RS.Ok.rel {S:RS}(o:S.Ok):S.rel.Ok:=o.of S.rel_perm rfl
theorem RS.gone_perm {S:RS}(o:S.Ok){p:Int}(h:p∈S.us):(S.gone p).places.Perm S.places:=by
 have nu:S.us.Nodup:=by
  have:=o.nd;unfold RS.places at this;rw[List.append_assoc] at this;exact(List.nodup_append.mp this).1
 have f:=filter_out nu h;unfold RS.places RS.gone;dsimp only;rw[List.map_append];show ((S.us.filter fun n=>decide (n≠p))++(S.ks.map (·.1)++[p])++S.fs).Perm _;refine List.Perm.append_right _ ?_;rw[<- List.append_assoc];refine List.perm_append_comm.trans ?_;show (p::((S.us.filter fun n=>decide (n≠p))++S.ks.map (·.1))).Perm _;exact f.append_right _
theorem RS.Ok.gone {S:RS}(o:S.Ok){p:Int}(h:p∈S.us):(S.gone p).Ok:=o.of (RS.gone_perm o h) rfl
theorem RS.Ok.left {S:RS}(o:S.Ok)(n:Int):(S.left n).Ok:=⟨o.nd,o.rg,o.cn.sublist (List.Sublist.map _ List.filter_sublist),fun c hc=>o.cr c (List.mem_filter.mp hc).1⟩
theorem RS.Ok.come {S:RS}(o:S.Ok){n:Int}(h0:0<=n)(h1:n<=1000000)(hn:n∉S.cs.map (·.1)):(S.come n).Ok:=by
 refine⟨o.nd,o.rg,?_,fun c hc=>?_⟩
 ·show ((S.cs++[(n,S.lap)]).map (·.1)).Nodup;rw[List.map_append,List.nodup_append];exact⟨o.cn,by simp,fun a ha b hb e=>hn (by have e2:b=n:=List.mem_singleton.mp hb;rw[<- e2,<- e];exact ha)⟩
 ·rcases List.mem_append.mp hc with h|h
  ·exact o.cr c h
  ·rw[List.mem_singleton.mp h];exact⟨h0,h1⟩
theorem RS.Ok.fsn {S:RS}(o:S.Ok):S.fs.Nodup:=(List.nodup_append.mp o.nd).2.1
theorem RS.Ok.take {S:RS}(o:S.Ok){p:Int}(h:p∈S.fs):(S.take p).Ok:=by
 refine o.of ?_ rfl;have f:=filter_out o.fsn h;unfold RS.places RS.take;dsimp only
 have:(S.us++[p]++S.ks.map (·.1)++(S.fs.filter fun n=>decide (n≠p))).Perm (S.us++S.ks.map (·.1)++(p::S.fs.filter fun n=>decide (n≠p))):=by
  rw[List.append_assoc,List.append_assoc,List.append_assoc];refine List.Perm.append_left _ ?_;show (p::(S.ks.map (·.1)++_)).Perm _;exact(List.perm_middle (a:=p)).symm
 exact this.trans (f.append_left _)
theorem RS.Ok.new {S:RS}(o:S.Ok)(h:S.fs=[]):(S.take (S.places.length:Nat)).Ok:=by
 have ep:(S.take (S.places.length:Nat)).places.Perm (((S.places.length:Nat):Int)::S.places):=by
  unfold RS.places RS.take;dsimp only;rw[h,List.filter_nil,List.append_nil,List.append_nil,List.append_assoc];exact List.perm_middle
 refine⟨ep.nodup_iff.mpr (List.nodup_cons.mpr ⟨fun hm=>?_,o.nd⟩),fun q hq=>?_,o.cn,o.cr⟩
 ·have:=(o.rg _ hm).2;omega
 ·rw[ep.length_eq,List.length_cons];rcases List.mem_cons.mp (ep.mem_iff.mp hq) with e|e
  ·rw[e];omega
  ·have:=o.rg q e;omega
def Keep (l:List Addr)(H H':Hp):Prop:=∀b o,H b=some o->b∉l->H' b=some o
theorem Keep.refl {l}{H:Hp}:Keep l H H:=fun _ _ h _=>h
theorem Keep.trans {l}{H H1 H2:Hp}(a:Keep l H H1)(b:Keep l H1 H2):Keep l H H2:=fun c o h n=>b c o (a c o h n) n
theorem Keep.mono {l m}{H H':Hp}(a:Keep l H H')(h:∀x∈l,x∈m):Keep m H H':=fun c o e n=>a c o e fun z=>n (h c z)
theorem Same.keep {l}{H H':Hp}(a:Same H H'):Keep l H H':=fun b o h _=>a b o h
theorem Keep.upd {l}{H H':Hp}{q o}(a:Keep l H H')(h:q∈l):Keep l H (L2.upd H' q o):=fun b u e n=>by rw[upd_ne (fun(z:b=q)=>n (by rw[z];exact h))];exact a b u e n
theorem Keep.updN {l}{H H':Hp}{q o}(a:Keep l H H')(h:H' q=none):Keep l H (L2.upd H' q o):=fun b u e n=>by rw[upd_ne (ne_of_none (a b u e n) h)];exact a b u e n
structure IsR (C x dx du dk df dc:Addr)(H:Hp)(S:RS):Prop where
 x:H x=some (.ins C dx [("in_use",.ref du),("kept_laps",.ref dk),("free_ones",.ref df),("call_laps",.ref dc),("lap_now",.int S.lap)])
 u:H du=some (.dK (kT S.us))
 k:H dk=some (.dK (kL S.ks))
 f:H df=some (.dK (kT S.fs))
 c:H dc=some (.dK (kL S.cs))
 nd:[du,dk,df,dc].Nodup
theorem IsR.same {C x dx du dk df dc}{H H':Hp}{S:RS}(r:IsR C x dx du dk df dc H S)(s:Same H H'):IsR C x dx du dk df dc H' S:=⟨s _ _ r.x,s _ _ r.u,s _ _ r.k,s _ _ r.f,s _ _ r.c,r.nd⟩
def RS.moved (S:RS):List Int:=(S.ks.filter fun k=>pastL S.cs k.2).map (·.1)
theorem RS.Ok.ksn {S:RS}(o:S.Ok):(S.ks.map (·.1)).Nodup:=by
 have:=o.nd;unfold RS.places at this;rw[List.append_assoc] at this;exact(List.nodup_append.mp (List.nodup_append.mp this).2.1).1
theorem RS.Ok.kf {S:RS}(o:S.Ok){p:Int}(h:p∈S.ks.map (·.1)):p∉S.fs:=fun hf=>by
 have:=(List.nodup_append.mp o.nd).2.2 p (List.mem_append_right _ h) p hf;exact this rfl
theorem RS.Ok.uk {S:RS}(o:S.Ok){p:Int}(h:p∈S.us):p∉S.ks.map (·.1):=fun hk=>by
 have:=o.nd;unfold RS.places at this;rw[List.append_assoc] at this;exact(List.nodup_append.mp this).2.2 p h p (List.mem_append_left _ hk) rfl
theorem RS.Ok.uf {S:RS}(o:S.Ok){p:Int}(h:p∈S.us):p∉S.fs:=fun hk=>by
 have:=o.nd;unfold RS.places at this;rw[List.append_assoc] at this;exact(List.nodup_append.mp this).2.2 p h p (List.mem_append_right _ hk) rfl
theorem RS.moved_sub (S:RS){p:Int}(h:p∈S.moved):p∈S.ks.map (·.1):=by
 unfold RS.moved at h;obtain⟨k,hk,rfl⟩:=List.mem_map.mp h;exact List.mem_map.mpr ⟨k,(List.mem_filter.mp hk).1,rfl⟩
theorem RS.Ok.mvn {S:RS}(o:S.Ok):S.moved.Nodup:=o.ksn.sublist (List.Sublist.map _ List.filter_sublist)
theorem fst_inj {ks:List (Int×Int)}(nd:(ks.map (·.1)).Nodup){a b:Int×Int}(ha:a∈ks)(hb:b∈ks)(e:a.1=b.1):a=b:=by
 induction ks with
 | nil=>cases ha
 | cons x xs ih=>
  rw[List.map_cons] at nd;obtain⟨n1,n2⟩:=List.nodup_cons.mp nd;rcases List.mem_cons.mp ha with rfl|ha'
  ·rcases List.mem_cons.mp hb with rfl|hb'
   ·rfl
   ·exact absurd (List.mem_map.mpr ⟨b,hb',e.symm⟩) n1
  ·rcases List.mem_cons.mp hb with rfl|hb'
   ·exact absurd (List.mem_map.mpr ⟨a,ha',e⟩) n1
   ·exact ih n2 ha' hb'
theorem RS.Ok.stay {S:RS}(o:S.Ok):(S.ks.filter fun k=>decide (k.1∉S.moved))=S.ks.filter fun k=>!pastL S.cs k.2:=by
 refine List.filter_congr fun k hk=>?_;cases c:pastL S.cs k.2 with
 | true=>
  have:k.1∈S.moved:=List.mem_map.mpr ⟨k,List.mem_filter.mpr ⟨hk,c⟩,rfl⟩;rw[decide_eq_false (fun z=>z this)];rfl
 | false=>
  rw[decide_eq_true]
  ·rfl
  ·intro hm;obtain⟨k',hk',e⟩:=List.mem_map.mp hm;obtain⟨h1,h2⟩:=List.mem_filter.mp hk';rw[fst_inj o.ksn h1 hk e,c] at h2;cases h2
theorem filter_take {ks:List (Int×Int)}{ms:List Int}{i:Nat}{m:Int}(h:ms[i]?=some m):((ks.filter fun k=>decide (k.1∉ms.take i)).filter fun k=>decide (k.1≠m))=ks.filter fun k=>decide (k.1∉ms.take (i+1)):=by
 rw[List.filter_filter];refine List.filter_congr fun k _=>?_;rw[List.take_add_one,h];by_cases h1:k.1=m
 ·have hm:k.1∈ms.take i++[m]:=List.mem_append_right _ (List.mem_singleton.mpr h1);rw[decide_eq_false (fun z=>z h1),Bool.false_and];exact(decide_eq_false fun z=>z hm).symm
 ·rw[decide_eq_true (show k.1≠m from h1),Bool.true_and];refine decide_eq_decide.mpr ⟨fun z hm=>?_,fun z hm=>z (List.mem_append_left _ hm)⟩;rcases List.mem_append.mp hm with q|q
  ·exact z q
  ·exact h1 (List.mem_singleton.mp q)
theorem not_take {ms:List Int}(nd:ms.Nodup){i:Nat}{m:Int}(h:ms[i]?=some m):m∉ms.take i:=fun hm=>by
 obtain⟨hi,e⟩:=List.getElem?_eq_some_iff.mp h;obtain⟨j,hj,ej⟩:=List.getElem_of_mem hm;rw[List.length_take] at hj;rw[List.getElem_take] at ej;have:=(List.getElem_inj nd).mp (ej.trans e.symm);omega
theorem putK_set {kvs:List (Key×V)}{k v}:∀{j:Nat},(kvs.map (·.1)).Nodup->(kvs.map (·.1))[j]?=some k->putK kvs k v=kvs.set j (k,v):=by
 intro j nd h
 have any:(kvs.any fun kv=>decide (kv.1=k))=true:=by
  rw[List.any_eq_true];obtain⟨x,hx,e⟩:=List.mem_map.mp (List.mem_of_getElem? h);exact⟨x,hx,decide_eq_true e⟩
 unfold putK;rw[if_pos any];clear any
 induction kvs generalizing j with
 | nil=>cases h
 | cons x xs ih=>
  rw[List.map_cons] at nd h;obtain⟨n1,n2⟩:=List.nodup_cons.mp nd;cases j with
  | zero=>
   have e:x.1=k:=Option.some.inj h;rw[List.map_cons,if_pos e,List.set_cons_zero,e];congr 1;have:∀y∈xs,(if y.1=k then (y.1,v) else y)=y:=fun y hy=>if_neg fun z=>n1 (List.mem_map.mpr ⟨y,hy,by rw[z,e]⟩);exact(List.map_congr_left this).trans (List.map_id' xs)
  | succ j=>
   have h':(xs.map (·.1))[j]?=some k:=h;have ne:¬x.1=k:=fun z=>n1 (by rw[z];exact List.mem_of_getElem? h');rw[List.map_cons,if_neg ne,List.set_cons_succ,ih n2 h']
theorem valV_get {kvs:List (Key×V)}{k v}:∀{j:Nat},(kvs.map (·.1)).Nodup->kvs[j]?=some (k,v)->valV kvs k=some v:=by
 induction kvs with
 | nil=>intro j _ h;cases h
 | cons x xs ih=>
  intro j nd h;rw[List.map_cons] at nd;obtain⟨n1,n2⟩:=List.nodup_cons.mp nd;cases j with
  | zero=>
   have e:x=(k,v):=Option.some.inj h;subst e;exact valV_pos rfl
  | succ j=>
   have h':xs[j]?=some (k,v):=h;rw[valV_neg (fun z=>n1 (List.mem_map.mpr ⟨(k,v),List.mem_of_getElem? h',z.symm⟩))];exact ih n2 h'
theorem Tups.mem {H:Hp}{ts ps}(h:Tups H ts ps){t}(ht:t∈ts):∃x∈ps,H t=some (.tup [.int x.1,.int x.2]):=by
 obtain⟨j,hj,rfl⟩:=List.getElem_of_mem ht;have hp:j<ps.length:=by rw[<- h.1];exact hj
 exact⟨ps[j],List.getElem_mem hp,h.2 j _ _ (List.getElem?_eq_getElem hj) (List.getElem?_eq_getElem hp)⟩
theorem Tups.snoc {H:Hp}{ts ps t}{x:Int×Int}(h:Tups H ts ps)(e:H t=some (.tup [.int x.1,.int x.2])):Tups H (ts++[t]) (ps++[x]):=by
 refine⟨by rw[List.length_append,List.length_append,h.1];rfl,fun j u y a b=>?_⟩;by_cases hj:j<ts.length
 ·rw[List.getElem?_append_left hj] at a;rw[List.getElem?_append_left (by rw[<- h.1];exact hj)] at b;exact h.2 j u y a b
 ·rw[List.getElem?_append_right (by omega)] at a;rw[List.getElem?_append_right (by rw[<- h.1];omega),<- h.1] at b;cases c:j - ts.length with
  | zero=>
   rw[c] at a b;cases Option.some.inj a;cases Option.some.inj b;exact e
  | succ n=>rw[c] at a;cases a
end L2
namespace L2
open PySem PySem.Spec PyProof PyProof.Rows
def KMethP (CP:Addr->Prop)(m:Str)(sp:Sp)(dvs:List V)(E:XK)(Q:VK)(x:V)(H:Hp):Prop:=∃a C dx fs,x=.ref a/\CP C/\H a=some (.ins C dx fs)/\fs.lookup m=none/\sp (x::([]++dvs)) H Q E
def tMethP (CP:Addr->Prop)(m:Str)(sp:Sp)(dvs:List V)(E:XK)(ta:TE):TE:=fun σ H Q=>ta σ H (KMethP CP m sp dvs E Q)
section
variable {X:Cx}{CX:CXT}{k:Nat}{f C:Addr}{fd:FuncData}{ps:List Str}{ds:List Value}{dvs:List V}{sp:Sp}{E:XK}{m:Str}{pos apos:Pos}{o:Expr}{ta:TE}{CP:Addr->Prop}
theorem pe_methP0 {pl:Sem Bool}(he:PE X o ta)(hm:∀C,CP C->Cls X.K C/\Meth X.K C m f)(F:FnOk X.prog X.w X.K X.mg X.base CX k f fd ps sp)(hr:Room k X.A)(hb:Binds X.K fd ps ds)(hd:Vals dvs ds)(hx:Passes CX X E)
  (ht:eval (.Call (.Attribute o m apos) [] [] pos) X.env=(do
   let ov <- eval o X.env
   standAt apos.atName
   let(f,first) <- holding [ov] (getMethod ov m pl)
   callWith pos f first (backTo pos (starEach [] X.env)) (backToKw pos (keywordEach [] X.env))):=by rfl) :
  PE X (.Call (.Attribute o m apos) [] [] pos) (tMethP CP m sp dvs E ta):=by
 intro pins s σ H Q I h;refine PySem.W.methodCall_KW (pl:=pl) (thn (he pins s σ H _ I h) fun u s1 ⟨x,H1,I1,rx,a,C,dx,fs,ex,hC,ea,l,q⟩=>?_) ht;cases ex;cases rx;exact getmeth_ok I1 ea (hm C hC).1 (hm C hC).2 l (PySem.W.callWith_K0 (first:=[.ref a]) I1.kIn (hm C hC).2.kp (run_fn (us:=[.ref a]) (vs:=[.ref a]) F hr hb hd hx I1 (.cons rfl .nil) q))
end
section
variable {σ:St}{H:Hp}{Q:VK}{ta:TE}{CP:Addr->Prop}{m:Str}{sp:Sp}{dvs:List V}{E:XK}
theorem r_methP (h:ta σ H (KMethP CP m sp dvs E Q)):tMethP CP m sp dvs E ta σ H Q:=h
theorem k_methP {a C dx}{fs:List (Str×V)}(h:H a=some (.ins C dx fs))(c:CP C)(l:fs.lookup m=none)(q:sp (.ref a::([]++dvs)) H Q E):KMethP CP m sp dvs E Q (.ref a) H:=⟨a,C,dx,fs,rfl,c,h,l,q⟩
end
theorem iteNF {A B:Prop}(h:B):if (!true)=true then A else B:=iteF h
theorem iteNT {A B:Prop}(h:A):if (!false)=true then A else B:=iteT h
theorem Keep.free {l}{H H':Hp}{d}(k:Keep l H H')(h:H' d=none)(n:d∉l):H d=none:=by
 cases c:H d with
 | none=>rfl
 | some o=>rw[k d o c n] at h;cases h
theorem bt_dict:bootBuiltins "dict" = some (.type "dict"):=by decide +kernel
theorem new_ins {H:Hp}{y dy b o o1 o2}(f1:H y=none)(f2:H dy=none)(e:H b=some o):upd (upd H dy o1) y o2 b=some o:=by
 rw[upd_ne (ne_of_none e f1)];exact un_f f2 e
def oV:Option Int->V|none=>.non|some i=>.int i
end L2
namespace L2
open PySem
theorem Chg.addS {h H H1:Hp}{y o}(s:Same h H)(S:Same H H1)(f:H y=none)(e:H1 y=some o):Chg h (upd h y o) H H1:=⟨fun b x z=>by
  by_cases c:b=y
  ·rw[c,upd_same] at z;rw[c,e];exact z
  ·rw[upd_ne c] at z;exact S _ _ (s _ _ z),fun b x z _=>S _ _ z,fun b=>by
 by_cases c:b=y
 ·rw[c];exact .inr (.inr f)
 ·rw[upd_ne c];exact(Chg.refl s).nw b⟩
theorem Chg.ext {h h1 H H':Hp}{y o}(c:Chg h h1 H H')(f:H y=none)(e:H' y=some o):Chg h (upd h1 y o) H H':=⟨fun b x z=>by
  by_cases d:b=y
  ·rw[d,upd_same] at z;rw[d,e];exact z
  ·rw[upd_ne d] at z;exact c.sm _ _ z,c.fr,fun b=>by
 by_cases d:b=y
 ·rw[d];exact .inr (.inr f)
 ·rw[upd_ne d];exact c.nw b⟩
theorem iteD {p:Prop}[Decidable p]{A B:Prop}(c:p)(h:A):if decide p=true then A else B:=by rw[decide_eq_true c];exact iteT h
theorem iteX {p:Prop}[Decidable p]{A B:Prop}(c:¬p)(h:B):if decide p=true then A else B:=by rw[decide_eq_false c];exact iteF h
theorem iteNX {p:Prop}[Decidable p]{A B:Prop}(c:¬p)(h:A):if (!decide p)=true then A else B:=by rw[decide_eq_false c];exact iteT h
def KDAug (tv:TE)(rd:V->V->Hp->VK->Prop)(n:St->Hp->Prop)(σ:St)(x y:V)(H:Hp):Prop:=∃a v,x=.ref a/\DGet H a y (some v)/\tv σ H fun y2 H3=>rd v y2 H3 fun z H4=>∃H5,DPut H4 a y z H5/\n σ H5
theorem s_daug {td ty tv}{rd:V->V->Hp->VK->Prop}{n bk ct:St->Hp->Prop}{rt}{σ:St}{H:Hp}(h:td σ H fun x H1=>ty σ H1 fun y H2=>KDAug tv rd n σ x y H2):sDAug td ty tv rd ⟨n,rt,bk,ct⟩ σ H:=h
theorem k_daug {n:St->Hp->Prop}{σ:St}{H:Hp}{a}{kvs:List (Key×V)}{k}{i j:Int}(h:H a=some (.dK kvs))(e:valV kvs k=some (.int i))(l:kvs.length<sizeLine)(q:n σ (upd H a (.dK (putK kvs k (.int (i+j)))))):KDAug (tC (.int j)) rAdd n σ (.ref a) (kV k) H:=
 ⟨a,.int i,rfl,e▸DGet.k (k:=k) h,i,j,rfl,rfl,_,DPut.k h l,q⟩
def KDSet (a:Addr)(y z:V)(Q:VK)(H:Hp):Prop:=∃kvs k,H a=some (.dK kvs)/\y=kV k/\kvs.length<sizeLine/\(∀v,valV kvs k=some v->Q v H)/\(valV kvs k=none->Q z (upd H a (.dK (putK kvs k z))))
def KDS (ty tx:TE)(σ:St)(Q:VK)(x:V)(H:Hp):Prop:=∃a,x=.ref a/\IsD H a/\ty σ H fun y H2=>tx σ H2 fun z H3=>KDSet a y z Q H3
theorem r_dset {td ty tx}{σ:St}{H:Hp}{Q}(h:td σ H (KDS ty tx σ Q)):tDSet td ty tx σ H Q:=h
theorem k_ds {ty tx}{σ:St}{H:Hp}{Q a kvs}(h:H a=some (.dK kvs))(q:ty σ H fun y H2=>tx σ H2 fun z H3=>KDSet a y z Q H3):KDS ty tx σ Q (.ref a) H:=⟨a,rfl,.inl ⟨_,.inl h⟩,q⟩
theorem k_dset {H:Hp}{Q:VK}{a z}{kvs:List (Key×V)}{k}(h:H a=some (.dK kvs))(l:kvs.length<sizeLine)(q1:∀v,valV kvs k=some v->Q v H)(q2:valV kvs k=none->Q z (upd H a (.dK (putK kvs k z)))):KDSet a (kV k) z Q H:=⟨kvs,k,h,rfl,l,q1,q2⟩
def rsL (l:List Addr)(H:Hp):Hp:=fun b=>if b∈l then H b else none
theorem rsL_at {l}{H:Hp}{b}(h:b∈l):rsL l H b=H b:=if_pos h
theorem rsL_same {l}{H:Hp}:Same (rsL l H) H:=fun b o e=>by
 unfold rsL at e;by_cases c:b∈l
 ·rw[if_pos c] at e;exact e
 ·rw[if_neg c] at e;cases e
theorem rsL_in {l}{H:Hp}{b}(h:rsL l H b≠none):b∈l:=by
 unfold rsL at h;by_cases c:b∈l
 ·exact c
 ·rw[if_neg c] at h;exact absurd rfl h
theorem fr_keep {h H H':Hp}{l}(k:Keep l H H')(i:∀a∈l,h a≠none):∀b o,H b=some o->h b=none->H' b=some o:=fun b o e n=>k b o e fun z=>i b z n
theorem IsR.out {h:Hp}{C r dr du dk df dc d}{S:RS}{o}(i:IsR C r dr du dk df dc h S)(n:d∉[r,du,dk,df,dc]):IsR C r dr du dk df dc (upd h d o) S:=by
 simp only[List.mem_cons,List.not_mem_nil,or_false,not_or] at n;obtain⟨n0,n1,n2,n3,n4⟩:=n;exact⟨by rw[upd_ne (Ne.symm n0)];exact i.x,by rw[upd_ne (Ne.symm n1)];exact i.u,by rw[upd_ne (Ne.symm n2)];exact i.k,by rw[upd_ne (Ne.symm n3)];exact i.f,by rw[upd_ne (Ne.symm n4)];exact i.c,i.nd⟩
def pK {α:Type}(xs:List α)(f:α->V):List (Key×V):=xs.mapIdx fun i x=>(Sum.inl (i:Int),f x)
section
variable {α:Type}{xs:List α}{f:α->V}
theorem pK_len:(pK xs f).length=xs.length:=by unfold pK;rw[List.length_mapIdx]
theorem pK_at {j:Nat}:(pK xs f)[j]?=(xs[j]?).map fun x=>(Sum.inl (j:Int),f x):=by unfold pK;rw[List.getElem?_mapIdx]
theorem pK_key {j:Nat}:((pK xs f).map (·.1))[j]?=(xs[j]?).map fun _=>Sum.inl (j:Int):=by rw[List.getElem?_map,pK_at,Option.map_map];rfl
theorem pK_nd:((pK xs f).map (·.1)).Nodup:=by
 show List.Pairwise (· ≠ ·) _;rw[List.pairwise_iff_getElem];intro i j hi hj hij z;have a1:((pK xs f).map (·.1))[i]?=((pK xs f).map (·.1))[j]?:=by rw[List.getElem?_eq_getElem hi,List.getElem?_eq_getElem hj,z]
 rw[List.length_map,pK_len] at hi hj;rw[pK_key,pK_key,List.getElem?_eq_getElem hi,List.getElem?_eq_getElem hj] at a1;have:=Sum.inl.inj (Option.some.inj a1);omega
theorem pK_val {j:Nat}{x:α}(h:xs[j]?=some x):valV (pK xs f) (Sum.inl (j:Int))=some (f x):=valV_get (j:=j) pK_nd (by rw[pK_at,h];rfl)
theorem pK_set {j:Nat}{x:α}(h:j<xs.length):putK (pK xs f) (Sum.inl (j:Int)) (f x)=pK (xs.set j x) f:=by
 rw[putK_set (j:=j) pK_nd (by rw[pK_key,List.getElem?_eq_getElem h];rfl)];refine List.ext_getElem? fun i=>?_;rw[pK_at,List.getElem?_set,List.getElem?_set,pK_len,pK_at];by_cases c:j=i
 ·subst c;rw[if_pos rfl,if_pos rfl,if_pos h,if_pos h];rfl
 ·rw[if_neg c,if_neg c]
theorem pK_no {j:Nat}(h:xs.length<=j):valV (pK xs f) (Sum.inl (j:Int))=none:=by
 cases c:valV (pK xs f) (Sum.inl (j:Int)) with
 | none=>rfl
 | some v=>
  obtain⟨i,hi,e⟩:=List.getElem_of_mem (valV_in c);have hi':=hi;rw[List.length_map,pK_len] at hi';have z:((pK xs f).map (·.1))[i]?=some (Sum.inl (j:Int)):=by rw[List.getElem?_eq_getElem hi,e]
  rw[pK_key,List.getElem?_eq_getElem hi'] at z;have:=Sum.inl.inj (Option.some.inj z);omega
theorem pK_new {x:α}:putK (pK xs f) (Sum.inl (xs.length:Int)) (f x)=pK (xs++[x]) f:=by
 rw[putK_new _ (pK_no (Nat.le_refl _))];unfold pK;rw[List.mapIdx_append];simp
theorem pK_congr {xs ys:List α}(h:∀j:Nat,(xs[j]?).map f=(ys[j]?).map f):pK xs f=pK ys f:=by
 refine List.ext_getElem? fun i=>?_;have:=h i;rw[pK_at,pK_at];cases a:xs[i]? with
 | none=>cases b:ys[i]? with
  | none=>rfl
  | some y=>rw[a,b] at this;cases this
 | some x=>cases b:ys[i]? with
  | none=>rw[a,b] at this;cases this
  | some y=>
   rw[a,b] at this;show some (_,f x)=some (_,f y);rw[Option.some.inj this]
end
def ForQ (J:It)(g:TG)(tb:TS)(D:Ends)(σ:St)(H:Hp):Prop:=tFor (fun _ H R=>R J H) g tb D σ H
def KIL (K:Frag)(R:It->Hp->Prop)(x:V)(H:Hp):Prop:=∃a,x=.ref a/\(∃xs,SqL K H a xs)/\R (Itl K a) H
def KR1 (R:It->Hp->Prop)(vs:List V)(H:Hp):Prop:=∃j:Int,vs=[.int j]/\-(2 ^ 62)<=j/\j<2 ^ 62/\R (Itr 0 j.toNat) H
def KR2 (R:It->Hp->Prop)(vs:List V)(H:Hp):Prop:=∃i j:Int,vs=[.int i,.int j]/\(-(2 ^ 62)<=i/\i<2 ^ 62/\-(2 ^ 62)<=j/\j<2 ^ 62)/\R (Itr i (j - i).toNat) H
section
variable {K:Frag}{σ:St}{H:Hp}{wi:TI}{g:TG}{tb:TS}{D:Ends}{tl:TE}{ta:TA}{R:It->Hp->Prop}{n bk ct:St->Hp->Prop}{rt:VK}
theorem s_for (h:wi σ H fun J H1=>ForQ J g tb D σ H1):tFor wi g tb D σ H:=h
theorem r_il (h:tl σ H (KIL K R)):iList K tl σ H R:=h
theorem k_il {a xs}(h:H a=some (.lst xs))(q:R (Itl K a) H):KIL K R (.ref a) H:=⟨a,rfl,⟨xs,SqL.of h⟩,q⟩
theorem r_rng1 (h:ta σ H (KR1 R)):iRng1 ta σ H R:=h
theorem r_rng2 (h:ta σ H (KR2 R)):iRng2 ta σ H R:=h
theorem k_rng1 {j:Int}(h0:0<=j)(h1:j<=1000000)(q:R (Itr 0 j.toNat) H):KR1 R [.int j] H:=⟨j,rfl,by omega,by omega,q⟩
theorem k_rng2 {i j:Int}(h0:0<=i)(h1:i<=1000000)(h2:0<=j)(h3:j<=1000000)(q:R (Itr i (j - i).toNat) H):KR2 R [.int i,.int j] H:=⟨i,j,rfl,⟨by omega,by omega,by omega,by omega⟩,q⟩
theorem q_forL {a}{xs:List V}(Pv:Nat->St->Hp->Prop)(h0:Pv 0 σ H)(hl:∀i σ H,i<=xs.length->Pv i σ H->H a=some (.lst xs))
  (hs:∀i x σ H,xs[i]?=some x->Pv i σ H->g x σ H fun σ2 H2=>tb ⟨Pv (i+1),rt,n,Pv (i+1)⟩ σ2 H2) (hd:∀σ H,Pv xs.length σ H->n σ H):ForQ (Itl K a) g tb ⟨n,rt,bk,ct⟩ σ H:=
 for_list (K:=K) (D:=⟨n,rt,bk,ct⟩) Pv h0 (fun i σ H a b=>SqL.of (hl i σ H a b)) hs hd
theorem q_forR {lo:Int}{m:Nat}(Pv:Nat->St->Hp->Prop)(h0:Pv 0 σ H)
  (hs:∀i σ H,i<m->Pv i σ H->g (.int (lo+i)) σ H fun σ2 H2=>tb ⟨Pv (i+1),rt,n,Pv (i+1)⟩ σ2 H2) (hd:∀σ H,Pv m σ H->n σ H):ForQ (Itr lo m) g tb ⟨n,rt,bk,ct⟩ σ H:=
 for_range (D:=⟨n,rt,bk,ct⟩) Pv h0 hs hd
theorem s_join {t u:TS}(R:St->Hp->Prop)(mk:∀N:St->Hp->Prop,(∀σ' H',R σ' H'->N σ' H')->t ⟨N,rt,bk,ct⟩ σ H)(q:∀σ' H',R σ' H'->u ⟨n,rt,bk,ct⟩ σ' H'):tSeq t u ⟨n,rt,bk,ct⟩ σ H:=mk _ q
end
theorem k_dgetS {Q}{H:Hp}{a v kvs s}(h:H a=some (.dK kvs))(e:valV kvs (Sum.inr s)=some v)(q:Q v H):KDGet (.ref a) (.str s) Q H:=k_dgetK (k:=Sum.inr s) h e q
theorem k_dputS {n:St->Hp->Prop}{σ:St}{H:Hp}{a v}{kvs kvs':List (Key×V)}{s}(h:H a=some (.dK kvs))(l:kvs.length<sizeLine)(e:putK kvs (Sum.inr s) v=kvs')(q:n σ (upd H a (.dK kvs'))):KDPut v n σ (.ref a) (.str s) H:=k_dputK (k:=Sum.inr s) h l (e▸q)
theorem r_pcons {tk tv}{r:List (TE×TE)}{σ:St}{H:Hp}{Q:List (V×V)->Hp->Prop}(h:tk σ H fun x H1=>tv σ H1 fun y H2=>tPairs r σ H2 fun ps H3=>Q ((x,y)::ps) H3):tPairs ((tk,tv)::r) σ H Q:=h
theorem r_pnil {σ:St}{H:Hp}{Q:List (V×V)->Hp->Prop}(h:Q [] H):tPairs [] σ H Q:=h
theorem r_cbk {rr:List V->List V->Hp->VK->Prop}{t tk}{σ:St}{H:Hp}{Q}(h:t σ H fun vs H1=>tk σ H1 fun zs H2=>rr vs zs H2 Q):tCBK rr t tk σ H Q:=h
theorem inV_ints {p:Int}{ns:List Int}:inV (.int p) (ns.map V.int)=decide (p∈ns):=by
 unfold inV;rw[Bool.eq_iff_iff,List.any_eq_true,decide_eq_true_iff];constructor
 ·rintro⟨v,hv,e⟩;obtain⟨z,hz,rfl⟩:=List.mem_map.mp hv;have:z=p:=by simpa[eqV] using e
  exact this▸hz
 ·intro h;exact⟨.int p,List.mem_map.mpr ⟨p,h,rfl⟩,by simp[eqV]⟩
theorem all_flat {ns:List Int}:(ns.map V.int).all flatV=true:=by
 rw[List.all_eq_true];intro v hv;obtain⟨z,_,rfl⟩:=List.mem_map.mp hv;rfl
def uH (g k:Hp):Hp:=fun b=>match g b with|some o=>some o|none=>k b
section
variable {g g' k k' H H':Hp}{b:Addr}{o:HO}
theorem uH_l (e:g b=some o):uH g k b=some o:=by unfold uH;rw[e]
theorem uH_r (n:g b=none):uH g k b=k b:=by unfold uH;rw[n]
theorem uH_none:uH g k b=none ↔ g b=none/\k b=none:=by
 unfold uH;cases g b with
 | none=>exact⟨fun h=>⟨rfl,h⟩,fun h=>h.2⟩
 | some o=>exact⟨(fun h=>nomatch h),fun h=>nomatch h.1⟩
theorem uH_sl:Same g (uH g k):=fun b o e=>uH_l e
theorem uH_sr (d:Dis g k):Same k (uH g k):=fun b o e=>by rw[uH_r ((d b).resolve_right fun z=>by rw[e] at z;cases z)];exact e
theorem uH_same (a:Same g H)(c:Same k H):Same (uH g k) H:=fun b o e=>by
 cases q:g b with
 | some x=>rw[uH_l q] at e;exact a _ _ (q.trans e)
 | none=>rw[uH_r q] at e;exact c _ _ e
theorem Chg.uL (d:Dis g k)(sk:Same k H)(c:Chg g g' H H'):Chg (uH g k) (uH g' k) H H':=⟨uH_same c.sm (c.keep d sk),fun b o e n=>c.fr b o e (uH_none.mp n).1,fun b=>by
 rcases c.nw b with z|z|z
 ·cases q:k b with
  | none=>exact .inl (uH_none.mpr ⟨z,q⟩)
  | some o=>exact .inr (.inl fun w=>by rw[(uH_none.mp w).2] at q;cases q)
 ·exact .inr (.inl fun w=>z (uH_none.mp w).1)
 ·exact .inr (.inr z)⟩
theorem Chg.uR (d:Dis g k)(sg:Same g H)(c:Chg k k' H H'):Chg (uH g k) (uH g k') H H':=⟨uH_same (c.keep d.symm sg) c.sm,fun b o e n=>c.fr b o e (uH_none.mp n).2,fun b=>by
 rcases c.nw b with z|z|z
 ·cases q:g b with
  | none=>exact .inl (uH_none.mpr ⟨q,z⟩)
  | some o=>exact .inr (.inl fun w=>by rw[(uH_none.mp w).1] at q;cases q)
 ·exact .inr (.inl fun w=>z (uH_none.mp w).2)
 ·exact .inr (.inr z)⟩
end
theorem KB.get {H H':Hp}{p b o}(k:KB p H H')(e:H b=some o)(n:b≠p):H' b=some o:=k _ _ e n
theorem KB.same {h H H':Hp}{p}(k:KB p H H')(s:Same h H)(n:h p=none):Same h H':=fun b o e=>k b o (s _ _ e) fun z=>by rw[z,n] at e;cases e
end L2
namespace L2
open PySem PySem.Spec PyProof.Rows
section
variable {P:Program}{w:World}{K:Frag}{mg:Str->Option Value}{base:Heap}{x cn nm q:Str}{st:Stmt}{N ps:List Str}{k:Nat}{sp:Sp}{C:Addr}
def OkDG (b:Bool)(P:Program)(w:World)(K:Frag)(mg:Str->Option Value)(base:Heap)(x:Str)(st:Stmt)(ps:List Str)(k:Nat)(sp:Sp):Prop:=
 ∃f fd,Dn K mg x x st ps f fd/\FnOkG b P w K mg base CX0 k f fd ps sp
abbrev OkD:=OkDG true
def DD (K:Frag)(mg:Str->Option Value)(x:Str)(st:Stmt)(ps:List Str):Prop:=∃f fd,Dn K mg x x st ps f fd
def MM (K:Frag)(mg:Str->Option Value)(cn nm q:Str)(st:Stmt)(ps:List Str):Prop:=∃C f fd,mg cn=some (.ref C)/\Meth K C nm f/\Fun K nm q st f fd/\Binds K fd ps []
abbrev Bod (b:Bool)(P:Program)(w:World)(K:Frag)(mg:Str->Option Value)(base:Heap)(N ps:List Str)(q:Str)(st:Stmt)(k:Nat)(sp:Sp):Prop:=
 ∀{f:Addr} {cdv:Value} {A:Around} {outer:List Env} {s:Shared} {vs:List V} {E:XK},FnScope N ps (defScope st)->∀(H:Hp) (Q:VK),RoomG b k (A.deeper (envOfC q (defScope st) s.heap.objs.size f cdv))->sp vs H Q E ->
  ∃t,PSs (cxOfG b CX0 P w K mg base N q (defScope st) f cdv A outer s H E).nox (defBody st) t/\t { nx:=fun _ H'=>Q .non H',rt:=Q } (start N vs) H
theorem DD.ok {b:Bool}(M:DD K mg x st ps)(h:Bod b P w K mg base N ps x st k sp)
  (S:FnScope N ps (defScope st):=by exact⟨rfl,rfl,rfl,by decide +kernel,rfl,by decide +kernel,by decide +kernel⟩) (len:∀vs H Q E,sp vs H Q E->vs.length=ps.length:=by (intro _ _ _ _ h;first|(cases h;subst_vars;rfl)|repeat (first|(obtain⟨h1,_⟩:=h;subst h1;rfl)|obtain⟨_,h⟩:=h))):OkDG b P w K mg base x st ps (k+1) sp:=
 let⟨f,fd,D⟩:=M;⟨f,fd,D,D.fn.ok S len fun _ _ _ _ H _ Q _=>h S H Q⟩
def nOf (sc:Scope):List Str:=(sc.names.filter fun y=>y.2==.local||y.2==.cell).map (·.1)
theorem DD.go {b:Bool}(M:DD K mg x st ps)(h:Bod b P w K mg base (nOf (defScope st)) ps x st k sp)(S:FnScope (nOf (defScope st)) ps (defScope st):=by exact⟨rfl,rfl,rfl,by decide +kernel,rfl,by decide +kernel,by decide +kernel⟩)(len:∀vs H Q E,sp vs H Q E->vs.length=ps.length:=by (intro _ _ _ _ h;first|(cases h;subst_vars;rfl)|repeat (first|(obtain⟨h1,_⟩:=h;subst h1;rfl)|obtain⟨_,h⟩:=h))):OkDG b P w K mg base x st ps (k+1) sp:=M.ok h S len
theorem mg_eq {a b:Addr}(h:mg x=some (.ref a))(h':mg x=some (.ref b)):a=b:=Value.ref.inj (Option.some.inj (h.symm.trans h'))
theorem MM.ok (M:MM K mg cn nm q st ps)(hm:mg cn=some (.ref C))(h:Bod true P w K mg base N ps q st k sp)
  (S:FnScope N ps (defScope st):=by exact⟨rfl,rfl,rfl,by decide +kernel,rfl,by decide +kernel,by decide +kernel⟩) (len:∀vs H Q E,sp vs H Q E->vs.length=ps.length:=by (intro _ _ _ _ h;first|(cases h;subst_vars;rfl)|repeat (first|(obtain⟨h1,_⟩:=h;subst h1;rfl)|obtain⟨_,h⟩:=h))):MtOk P w K mg base CX0 C nm ps (k+1) sp:=by
 obtain⟨_,f,fd,m0,m,n,b⟩:=M;cases mg_eq hm m0;exact⟨f,fd,m,b,n.ok S len fun _ _ _ _ H _ Q _=>h S H Q⟩
theorem MM.go (M:MM K mg cn nm q st ps)(hm:mg cn=some (.ref C))(h:Bod true P w K mg base (nOf (defScope st)) ps q st k sp)(S:FnScope (nOf (defScope st)) ps (defScope st):=by exact⟨rfl,rfl,rfl,by decide +kernel,rfl,by decide +kernel,by decide +kernel⟩)(len:∀vs H Q E,sp vs H Q E->vs.length=ps.length:=by (intro _ _ _ _ h;first|(cases h;subst_vars;rfl)|repeat (first|(obtain⟨h1,_⟩:=h;subst h1;rfl)|obtain⟨_,h⟩:=h))):MtOk P w K mg base CX0 C nm ps (k+1) sp:=M.ok hm h S len
end
section
variable {X:Cx}{k k0:Nat}{C:Addr}{ps:List Str}{sp:Sp}{x m:Str}{st:Stmt}{p pos apos:Pos}{e o:Expr}{es:List Expr}{ta:TE}{t:TA}
theorem pe_d {b:Bool}(F:OkDG b X.prog X.w X.K X.mg X.base x st ps k sp)(hr:RoomG b k0 X.A)(ha:PA X (e::es) t)(hg:Gl X x:=by rfl)(hk:k<=k0:=by decide)
  (hdb:(x==("__debug__" : Str))=false:=by decide) (he:starEach (e::es) X.env=(false,eval e X.env)::starEach es X.env:=by rfl) (hpl:(backTo pos (starEach es X.env)).any (·.1)=false:=by rfl) :
  PE X (.Call (.Name x p) (e::es) [] pos) (tCall sp [] E0 t):=by
 obtain⟨f,fd,D,G⟩:=F;exact pe_call G (hr.mono hk) hg D.m D.fn.kp D.b .nil pass0 ha hdb he hpl
theorem pe_m {pl:Sem Bool}(he:PE X o ta)(c:Cls X.K C)(F:MtOk X.prog X.w X.K X.mg X.base CX0 C m ps k sp)(hr:Room k0 X.A)(ha:PA X (e::es) t)(hk:k<=k0:=by decide)
  (hst:starEach (e::es) X.env=(false,eval e X.env)::starEach es X.env:=by rfl) (hpl:(backTo pos (starEach es X.env)).any (·.1)=false:=by rfl)
  (ht:eval (.Call (.Attribute o m apos) (e::es) [] pos) X.env=(do
   let ov <- eval o X.env
   standAt apos.atName
   let(f,first) <- holding [ov] (getMethod ov m pl)
   callWith pos f first (backTo pos (starEach (e::es) X.env)) (backToKw pos (keywordEach [] X.env))):=by rfl) :
  PE X (.Call (.Attribute o m apos) (e::es) [] pos) (tMeth C m sp [] E0 ta t):=by
 obtain⟨f,fd,M,B,G⟩:=F;exact pe_meth he c M G (hr.mono hk) B .nil pass0 ha hst hpl ht
theorem pe_m0 {pl:Sem Bool}(he:PE X o ta)(c:Cls X.K C)(F:MtOk X.prog X.w X.K X.mg X.base CX0 C m ps k sp)(hr:Room k0 X.A)(hk:k<=k0:=by decide)
  (ht:eval (.Call (.Attribute o m apos) [] [] pos) X.env=(do
   let ov <- eval o X.env
   standAt apos.atName
   let(f,first) <- holding [ov] (getMethod ov m pl)
   callWith pos f first (backTo pos (starEach [] X.env)) (backToKw pos (keywordEach [] X.env))):=by rfl) :
  PE X (.Call (.Attribute o m apos) [] [] pos) (tMeth C m sp [] E0 ta tNil):=by
 obtain⟨f,fd,M,B,G⟩:=F;exact pe_meth0 he c M G (hr.mono hk) B .nil pass0 ht
theorem pe_gs {y:Str}{j:Nat}{ps':Pos}(hr:Room k0 X.A)(he:PE X o ta):PE X (.Subscript o (.Constant (.str y) j ps') pos) (tDGet ta (tC (.str y))):=pe_dget (hu_of hr) he pe_str (fun _ _=>rfl)
theorem ps_v {s':Scope}{te:TE}{pos':Pos}(S:FnScope X.N ps s')(i:Nat)(he:PE X e te)(hi:X.N[i]?=some x:=by rfl)(hx:Loc X.env.scope x:=by exact Or.inl rfl)(hs:swapsWith e (some (.Name x pos')) pos.line X.env=pure false:=by rfl)
  (hf:X.fn x=true\/X.env.scope.names.lookup x=some .local:=by first|exact .inl rfl|exact .inr rfl|assumption):PS X (.Assign [.Name x pos'] e pos) (tAsg te (gName i)):=ps_set S.nd hi hx he hs hf
theorem pg_v {s':Scope}(S:FnScope X.N ps s')(i:Nat)(hi:X.N[i]?=some x:=by rfl)(hx:Loc X.env.scope x:=by exact Or.inl rfl)(hf:X.fn x=true\/X.env.scope.names.lookup x=some .local:=by first|exact .inl rfl|exact .inr rfl|assumption):PG X (.Name x pos) (gName i):=pg_name S.nd hi hx hf
end
section
variable {t u:TS}{n bk ct N N':St->Hp->Prop}{rt:VK}{σ:St}{H:Hp}
theorem s_seqG (h:∀N,N=u ⟨n,rt,bk,ct⟩->t ⟨N,rt,bk,ct⟩ σ H):tSeq t u ⟨n,rt,bk,ct⟩ σ H:=h _ rfl
theorem s_ifG {tt:TT}{D:Ends}(h:∀T U,T=t D->U=u D->tt σ H fun b H1=>if b=true then T σ H1 else U σ H1):tIfS tt t u D σ H:=h _ _ rfl rfl
theorem s_open (e:N=N')(h:N' σ H):N σ H:=e▸h
end
theorem sz {n:Nat}(h:Nat.ble n 100=true:=by rfl):n<=sizeLine:=Nat.le_trans (Nat.le_of_ble_eq_true h) (by decide)
theorem nth {α β:Type}{xs:List α}{ys:List β}{j:Nat}{y:β}(l:xs.length=ys.length)(h:ys[j]?=some y):∃x,xs[j]?=some x:=⟨_,List.getElem?_eq_getElem (by rw[l];exact(List.getElem?_eq_some_iff.mp h).1)⟩
theorem newL {xs:List V}{Q:VK}{H:Hp}(h:∀l H',H l=none->Same H H'->H' l=some (.lst xs)->Q (.ref l) H')(hz:Nat.ble xs.length 100=true:=by rfl):KLst xs Q H:=⟨sz hz,fun l f=>h l _ f (Same.upd f) upd_same⟩
theorem newT {xs:List V}{Q:VK}{H:Hp}(h:∀l H',H l=none->Same H H'->H' l=some (.tup xs)->Q (.ref l) H')(hz:Nat.ble xs.length 100=true:=by rfl):KTup xs Q H:=⟨sz hz,fun l f=>h l _ f (Same.upd f) upd_same⟩
section
variable {X:Cx}{e e2 e3:Expr}{t1 t2 t3:TE}{op:CmpOp}{r:R2}{pos:Pos}
theorem pa1 (a:PE X e t1)(h:isStar e=false:=by rfl):PA X [e] (tCons t1 tNil):=pa_c a pa_nil h
theorem pa2 (a:PE X e t1)(b:PE X e2 t2)(h:isStar e=false:=by rfl)(h2:isStar e2=false:=by rfl):PA X [e,e2] (tCons t1 (tCons t2 tNil)):=pa_c a (pa1 b h2) h
theorem pa3 (a:PE X e t1)(b:PE X e2 t2)(c:PE X e3 t3)(h:isStar e=false:=by rfl)(h2:isStar e2=false:=by rfl)(h3:isStar e3=false:=by rfl):PA X [e,e2,e3] (tCons t1 (tCons t2 (tCons t3 tNil))):=pa_c a (pa2 b c h2 h3) h
theorem pa4 {e4:Expr}{t4:TE}(a:PE X e t1)(b:PE X e2 t2)(c:PE X e3 t3)(d:PE X e4 t4)(h:isStar e=false:=by rfl)(h2:isStar e2=false:=by rfl)(h3:isStar e3=false:=by rfl)(h4:isStar e4=false:=by rfl):PA X [e,e2,e3,e4] (tCons t1 (tCons t2 (tCons t3 (tCons t4 tNil)))):=pa_c a (pa3 b c d h2 h3 h4) h
theorem pa5 {e4 e5:Expr}{t4 t5:TE}(a:PE X e t1)(b:PE X e2 t2)(c:PE X e3 t3)(d:PE X e4 t4)(f:PE X e5 t5)(h:isStar e=false:=by rfl)(h2:isStar e2=false:=by rfl)(h3:isStar e3=false:=by rfl)(h4:isStar e4=false:=by rfl)(h5:isStar e5=false:=by rfl):PA X [e,e2,e3,e4,e5] (tCons t1 (tCons t2 (tCons t3 (tCons t4 (tCons t5 tNil))))):=pa_c a (pa4 b c d f h2 h3 h4 h5) h
theorem pc (o:OpR X (compareOp op) r)(a:PE X e t1)(b:PE X e2 t2)(h:behindInMarks op e2=false:=by exact nomark _):PT X (.Compare e [op] [e2] pos) (tTest (tOp r t1 t2)):=pt_cmpR o a b h
theorem pix (h:IxR X r)(a:PE X e t1)(b:PE X e2 t2)(hs:PlainIx e2:=by exact fun _ _=>rfl):PE X (.Subscript e e2 pos) (tOp r t1 t2):=pe_ix h a b hs
end
theorem Fun_okX {P:Program}{w:World}{K:Frag}{mg:Str->Option Value}{base:Heap}{x qual:Str}{st:Stmt}{f:Addr}{fd:FuncData}{N ps:List Str}{k:Nat}{sp:Sp}(F:Fun K x qual st f fd)(S:FnScope N ps (defScope st))(len:∀vs H Q E,sp vs H Q E->vs.length=ps.length)
  (hbody:∀(cdv:Value) (A:Around) (outer:List Env) (s:Shared) (H:Hp) (vs:List V) (Q:VK) (E:XK),Room k (A.deeper (envOfC qual (defScope st) s.heap.objs.size f cdv))->sp vs H Q E ->
   ∃t,PSs (cxOf (CXo P w) P w K mg base N qual (defScope st) f cdv A outer s H E) (defBody st) t/\t { nx:=fun _ H'=>Q .non H',rt:=Q } (start N vs) H):FnOk P w K mg base (CXo P w) (k+1) f fd ps sp:=by
 obtain⟨oc,od,kV,doc,pm,an,cdv,ct,osl,rfl,lk,hcd⟩:=F.ex;exact fn_of lk hcd S len fun A outer s H vs Q E hr hsp=>hbody cdv A outer s H vs Q E hr hsp
section
variable {P:Program}{w:World}{K:Frag}{mg:Str->Option Value}{base:Heap}{x cn nm q:Str}{st:Stmt}{N ps:List Str}{k:Nat}{sp:Sp}{C:Addr}
def OkX (P:Program)(w:World)(K:Frag)(mg:Str->Option Value)(base:Heap)(x:Str)(st:Stmt)(ps:List Str)(k:Nat)(sp:Sp):Prop:=
 ∃f fd,Dn K mg x x st ps f fd/\FnOk P w K mg base (CXo P w) k f fd ps sp
abbrev BodX (P:Program)(w:World)(K:Frag)(mg:Str->Option Value)(base:Heap)(N ps:List Str)(q:Str)(st:Stmt)(k:Nat)(sp:Sp):Prop:=
 ∀{f:Addr} {cdv:Value} {A:Around} {outer:List Env} {s:Shared} {vs:List V},FnScope N ps (defScope st)->∀(H:Hp) (Q:VK) (E:XK),Room k (A.deeper (envOfC q (defScope st) s.heap.objs.size f cdv))->sp vs H Q E ->
  ∃t,PSs (cxOf (CXo P w) P w K mg base N q (defScope st) f cdv A outer s H E) (defBody st) t/\t { nx:=fun _ H'=>Q .non H',rt:=Q } (start N vs) H
theorem DD.okX (M:DD K mg x st ps)(h:BodX P w K mg base N ps x st k sp)
  (S:FnScope N ps (defScope st):=by exact⟨rfl,rfl,rfl,by decide +kernel,rfl,by decide +kernel,by decide +kernel⟩) (len:∀vs H Q E,sp vs H Q E->vs.length=ps.length:=by (intro _ _ _ _ h;first|(cases h;subst_vars;rfl)|repeat (first|(obtain⟨h1,_⟩:=h;subst h1;rfl)|obtain⟨_,h⟩:=h))):OkX P w K mg base x st ps (k+1) sp:=
 let⟨f,fd,D⟩:=M;⟨f,fd,D,Fun_okX D.fn S len fun _ _ _ _ H _ Q E=>h S H Q E⟩
theorem MM.okX (M:MM K mg cn nm q st ps)(hm:mg cn=some (.ref C))(h:BodX P w K mg base N ps q st k sp)
  (S:FnScope N ps (defScope st):=by exact⟨rfl,rfl,rfl,by decide +kernel,rfl,by decide +kernel,by decide +kernel⟩) (len:∀vs H Q E,sp vs H Q E->vs.length=ps.length:=by (intro _ _ _ _ h;first|(cases h;subst_vars;rfl)|repeat (first|(obtain⟨h1,_⟩:=h;subst h1;rfl)|obtain⟨_,h⟩:=h))):MtOk P w K mg base (CXo P w) C nm ps (k+1) sp:=by
 obtain⟨_,f,fd,m0,m,n,b⟩:=M;cases mg_eq hm m0;exact⟨f,fd,m,b,Fun_okX n S len fun _ _ _ _ H _ Q E=>h S H Q E⟩
theorem DD.gox (M:DD K mg x st ps)(h:BodX P w K mg base (nOf (defScope st)) ps x st k sp)(S:FnScope (nOf (defScope st)) ps (defScope st):=by exact⟨rfl,rfl,rfl,by decide +kernel,rfl,by decide +kernel,by decide +kernel⟩)(len:∀vs H Q E,sp vs H Q E->vs.length=ps.length:=by (intro _ _ _ _ h;first|(cases h;subst_vars;rfl)|repeat (first|(obtain⟨h1,_⟩:=h;subst h1;rfl)|obtain⟨_,h⟩:=h))):OkX P w K mg base x st ps (k+1) sp:=M.okX h S len
theorem MM.gox (M:MM K mg cn nm q st ps)(hm:mg cn=some (.ref C))(h:BodX P w K mg base (nOf (defScope st)) ps q st k sp)(S:FnScope (nOf (defScope st)) ps (defScope st):=by exact⟨rfl,rfl,rfl,by decide +kernel,rfl,by decide +kernel,by decide +kernel⟩)(len:∀vs H Q E,sp vs H Q E->vs.length=ps.length:=by (intro _ _ _ _ h;first|(cases h;subst_vars;rfl)|repeat (first|(obtain⟨h1,_⟩:=h;subst h1;rfl)|obtain⟨_,h⟩:=h))):MtOk P w K mg base (CXo P w) C nm ps (k+1) sp:=M.okX hm h S len
end
section
variable {X:Cx}{E:XK}{k k0:Nat}{C:Addr}{ps:List Str}{sp:Sp}{x m:Str}{st:Stmt}{p pos apos:Pos}{e o:Expr}{es:List Expr}{ta:TE}{t:TA}
theorem pe_dX (F:OkX X.prog X.w X.K X.mg X.base x st ps k sp)(ou:Outs X E)(hr:Room k0 X.A)(ha:PA X (e::es) t)(hg:Gl X x:=by rfl)(hk:k<=k0:=by decide)
  (hdb:(x==("__debug__" : Str))=false:=by decide) (he:starEach (e::es) X.env=(false,eval e X.env)::starEach es X.env:=by rfl) (hpl:(backTo pos (starEach es X.env)).any (·.1)=false:=by rfl) :
  PE X (.Call (.Name x p) (e::es) [] pos) (tCall sp [] (goOn E) t):=by
 obtain⟨f,fd,D,G⟩:=F;exact pe_call G (hr.mono hk) hg D.m D.fn.kp D.b .nil ou.pass ha hdb he hpl
theorem pe_mX {pl:Sem Bool}(he:PE X o ta)(c:Cls X.K C)(F:MtOk X.prog X.w X.K X.mg X.base (CXo X.prog X.w) C m ps k sp)(ou:Outs X E)(hr:Room k0 X.A)(ha:PA X (e::es) t)(hk:k<=k0:=by decide)
  (hst:starEach (e::es) X.env=(false,eval e X.env)::starEach es X.env:=by rfl) (hpl:(backTo pos (starEach es X.env)).any (·.1)=false:=by rfl)
  (ht:eval (.Call (.Attribute o m apos) (e::es) [] pos) X.env=(do
   let ov <- eval o X.env
   standAt apos.atName
   let(f,first) <- holding [ov] (getMethod ov m pl)
   callWith pos f first (backTo pos (starEach (e::es) X.env)) (backToKw pos (keywordEach [] X.env))):=by rfl) :
  PE X (.Call (.Attribute o m apos) (e::es) [] pos) (tMeth C m sp [] (goOn E) ta t):=by
 obtain⟨f,fd,M,B,G⟩:=F;exact pe_meth he c M G (hr.mono hk) B .nil ou.pass ha hst hpl ht
end
theorem pe_dP {X:Cx}{E:XK}{k k0:Nat}{ps:List Str}{sp:Sp}{x:Str}{st:Stmt}{p pos:Pos}{e:Expr}{es:List Expr}{t:TA}(F:OkX X.prog X.w X.K X.mg X.base x st ps k sp)(hp:Passes (CXo X.prog X.w) X E)(hr:Room k0 X.A)(ha:PA X (e::es) t)(hg:Gl X x:=by rfl)(hk:k<=k0:=by decide)
  (hdb:(x==("__debug__" : Str))=false:=by decide) (he:starEach (e::es) X.env=(false,eval e X.env)::starEach es X.env:=by rfl) (hpl:(backTo pos (starEach es X.env)).any (·.1)=false:=by rfl) :
  PE X (.Call (.Name x p) (e::es) [] pos) (tCall sp [] E t):=by
 obtain⟨f,fd,D,G⟩:=F;exact pe_call G (hr.mono hk) hg D.m D.fn.kp D.b .nil hp ha hdb he hpl
theorem RoomG.held {b:Bool}{k:Nat}{A:Around}{v:Option Value}(r:RoomG b k A):RoomG false k (A.mark v):=⟨(fun z=>nomatch z),r.dp,r.un,r.gd⟩
end L2
namespace L2
open PySem PyProof PyProof.Rows
section
variable {prog:Program}{w:World}{A:Around}{E:Value->Shared->Prop}{s:Shared}{l:Addr}{its:Array Value}{n:Nat}
end
section
variable {prog:Program}{w:World}{A:Around}{KK:Type}[DecidableEq KK]{knd:KeyKind prog w KK}{R:Result->Shared->Prop}
end
section
variable {prog:Program}{w:World}{A:Around}{E:Value->Shared->Prop}{s:Shared}{KK:Type}[DecidableEq KK]{knd:KeyKind prog w KK}{l:Addr}{its:Array Value}{n:Nat}
end
section
variable {X:Cx}
end
end L2
namespace L2
open PySem PySem.Spec PyProof PyProof.Rows
def ItZ (K:Frag)(a b:Addr):It:=
 ⟨fun i H=>∃xs ys x y,SqL K H a xs/\SqL K H b ys/\xs[i]?=some x/\ys[i]?=some y,fun i H v H'=>∃t x y,v=.ref t/\H t=none/\(∀xs ys,SqL K H a xs->SqL K H b ys->xs[i]?=some x/\ys[i]?=some y)/\H'=upd H t (.tup [x,y]),
  fun i H=>∃xs ys,SqL K H a xs/\SqL K H b ys/\xs.length=i⟩
theorem Inv.listAt {X:Cx}{pins}{σ:St}{H:Hp}{s:Shared}{a xs}(I:Inv X pins σ H s)(h:SqL X.K H a xs):∃us:List Value,Vals xs us/\s.heap.IsList a us.toArray:=by
 obtain⟨us,r,⟨o,n,e1,e2,_,e4⟩,_⟩:=I.list h;exact⟨us,r,o,e1,e2,n,e4⟩
theorem turn_zipL {P w K elts}{kk:Nat}{tpos}(a b z TI TO i1 i2:Addr)(Z:ZipApart z TI TO i1 i2 a b) :
  Turn P w K (.Tuple elts kk tpos) (ItZ K a b) [z,TI,TO,i1,i2] z (fun i h=>IsZip h z TI TO .none/\IsPair h TI (.ref i1) (.ref i2)/\(∃u v,IsPair h TO u v)/\h.IsListIter i1 a i/\h.IsListIter i2 b i) where
 mem:=by simp
 obj:=fun i h ⟨gz,gI,⟨u,v,gO⟩,⟨o1,e1,_,d1⟩,⟨o2,e2,_,d2⟩⟩ c hc=>by
  simp only[List.mem_cons,List.not_mem_nil,or_false] at hc;rcases hc with rfl|rfl|rfl|rfl|rfl
  ·exact⟨_,gz,fun v z=>by have z':Data.fields _=Data.cell v:=z;cases z'⟩
  ·exact⟨_,gI,fun v z=>by have z':Data.seq _ _=Data.cell v:=z;cases z'⟩
  ·exact⟨_,gO,fun v z=>by have z':Data.seq _ _=Data.cell v:=z;cases z'⟩
  ·exact⟨_,e1,fun v z=>by rw[d1] at z;cases z⟩
  ·exact⟨_,e2,fun v z=>by rw[d2] at z;cases z⟩
 keep:=fun i h h' ⟨gz,gI,⟨u,v,gO⟩,⟨o1,e1,d1⟩,⟨o2,e2,d2⟩⟩ k=>⟨k z (by simp) _ gz,k TI (by simp) _ gI,⟨u,v,k TO (by simp) _ gO⟩,⟨o1,k i1 (by simp) _ e1,d1⟩,o2,k i2 (by simp) _ e2,d2⟩
 item:=by
  intro X hP hw hK hc i pins s σ H E I hf st hg;subst hP hw hK;obtain⟨gz,gI,⟨u,v,gO⟩,h1,h2⟩:=st;obtain⟨xs,ys,x,y,qx,qy,ex,ey⟩:=hg;obtain⟨us,rx,px⟩:=I.listAt qx;obtain⟨vs,ry,py⟩:=I.listAt qy;obtain⟨u1,hu1,ru1⟩:=rx.get ex;obtain⟨u2,hu2,ru2⟩:=ry.get ey;refine wpAny_pyNext_zip_item Z gz gI gO h1 h2 px py (x:=u1) (y:=u2) (by simpa using hu1) (by simpa using hu2) fun h' zo gO' t1 t2 hT sz kp=>⟨_,rfl,?_⟩
  refine wpAny_letOwnedTupleGo_zip (s:={ s with heap:=h' }) zo fun h3 gz3 sb=>?_;replace sb:Heap.SameBut z h' h3:=sb;have old:∀{c:Addr} {o:Obj},s.heap.get? c=some o->c≠s.heap.objs.size:=fun e=>Nat.ne_of_lt (Heap.lt_size e);have hT3:=sb.extBut _ _ (Ne.symm (old gz)) hT
  have J:Inv X pins σ (upd H s.heap.objs.size (.tup [x,y])) { s with heap:=h3,toks:=s.toks }:=by
   refine I.turnT (xs:=[x,y]) (us:=[u1,u2]) [z,TI,TO,i1,i2] hf (fun c o hc e=>?_) (Nat.le_refl _) (.cons ru1 (.cons ru2 .nil)) (by show 2<=sizeLine;decide) hT3;simp only[List.mem_cons,List.not_mem_nil,or_false,not_or] at hc;exact sb.extBut _ _ hc.1 (kp c o hc.1 hc.2.2.1 hc.2.2.2.1 hc.2.2.2.2 e)
  obtain⟨p1,q1,r1⟩:=t1;obtain⟨p2,q2,r2⟩:=t2;refine⟨.ref s.heap.objs.size,_,J,rfl,⟨_,x,y,rfl,I.hok.fresh (Nat.le_refl _),fun xs' ys' qx' qy'=>?_,rfl⟩,⟨gz3,sb.extBut _ _ Z.TIz (kp _ _ Z.TIz Z.TITO Z.TIi1 Z.TIi2 gI),⟨_,_,sb.extBut _ _ Z.TOz gO'⟩,⟨p1,sb.extBut _ _ Z.i1z q1,r1⟩,p2,sb.extBut _ _ Z.i2z q2,r2⟩,fun c hc=>?_⟩
  ·rw[I.list_inj qx' qx,I.list_inj qy' qy];exact⟨ex,ey⟩
  ·have ne:c≠s.heap.objs.size:=by
    obtain⟨o1,e1,_⟩:=h1;obtain⟨o2,e2,_⟩:=h2;simp only[List.mem_cons,List.not_mem_nil,or_false] at hc;rcases hc with rfl|rfl|rfl|rfl|rfl
    ·exact old gz
    ·exact old gI
    ·exact old gO
    ·exact old e1
    ·exact old e2
   rw[upd_ne ne];exact(hf c hc).1
 done:=by
  intro X hP hw hK hc i pins s σ H E I hf st hg;subst hP hw hK;obtain⟨gz,gI,⟨u,v,gO⟩,h1,h2⟩:=st;obtain⟨xs,ys,qx,qy,en⟩:=hg;obtain⟨us,rx,px⟩:=I.listAt qx;obtain⟨vs,ry,py⟩:=I.listAt qy;have hh:X.A.in1.handled=none:=I.ok.hd hc;refine wpAny_pyNext_zip_end hh Z gz gI gO h1 h2 px py (.inl (Array.getElem?_eq_none (by rw[List.size_toArray,<- rx.length];omega))) fun h' kp=>⟨rfl,?_⟩
  refine I.turnN (t':=s.toks) [z,TI,TO,i1,i2] hf fun c o hc e=>?_;simp only[List.mem_cons,List.not_mem_nil,or_false,not_or] at hc;exact kp c o hc.1 hc.2.2.1 hc.2.2.2.1 hc.2.2.2.2 e
 self:=fun _ _ _ _ _ st h=>wpAny_pyIter_zip st.1 h
section
variable {X:Cx}
def iZipL (K:Frag)(ta:TA):TI:=fun σ H R=>ta σ H fun vs H1=>∃a b,vs=[.ref a,.ref b]/\(∃xs,SqL K H1 a xs)/\(∃ys,SqL K H1 b ys)/\R (ItZ K a b) H1
theorem pi_zipL {elts:List Expr}{kk:Nat}{tpos p pos:Pos}{l l' ta}(hg:Gl X "zip")(hm:X.mg "zip" = none)(hv:bootBuiltins "zip" = some (.type "zip"))(ha:PA X [l,l'] ta)(sa:isStar l=false:=by rfl)(sb:isStar l'=false:=by rfl) :
  PI X (.Tuple elts kk tpos) (.Call (.Name "zip" p) [l,l'] [] pos) (iZipL X.K ta):=by
 intro pins s σ H R I h;refine Call_ (ld_blt I hg hm hv (PyProof.Rows.callWith_type1 (thn (ha pos pins s σ H _ I h) fun us s1 ⟨vs,H1,I1,r1,q1⟩=>?_) (star_cons sa) (by rw[star_cons sb];rfl)));obtain⟨a,b,rfl,⟨xs,qx⟩,⟨ys,qy⟩,q⟩:=q1;obtain⟨u1,u2,rfl,e1,e2⟩:=vals2 r1;cases e1;cases e2;obtain⟨us,rx,px⟩:=I1.listAt qx;obtain⟨ws,ry,py⟩:=I1.listAt qy;refine call_zip_2 px py fun h1 gz gI gO i1 i2 sz kp=>?_
 have a1:a<s1.heap.objs.size:=let⟨_,e,_⟩:=px;Heap.lt_size e;have a2:b<s1.heap.objs.size:=let⟨_,e,_⟩:=py;Heap.lt_size e
 have Z:ZipApart (s1.heap.objs.size+4) (s1.heap.objs.size+2) (s1.heap.objs.size+3) s1.heap.objs.size (s1.heap.objs.size+1) a b:=by
  constructor<;>(intro e;simp only[Addr] at *;omega)
 refine wpAny_pyIter_zip gz ⟨s1.heap.objs.size+4,[s1.heap.objs.size+4,s1.heap.objs.size+2,s1.heap.objs.size+3,s1.heap.objs.size,s1.heap.objs.size+1],_,_,H1,rfl,I1.kept (t':=s1.toks) kp,turn_zipL a b _ _ _ _ _ Z,⟨gz,gI,⟨_,_,gO⟩,i1,i2⟩,fun c hc=>?_,q⟩
 have lc:s1.heap.objs.size<=c:=by
  simp only[List.mem_cons,List.not_mem_nil,or_false] at hc;rcases hc with rfl|rfl|rfl|rfl|rfl<;>(simp only[Addr] at *;omega)
 exact I1.fpOk lc (I1.hok.fresh lc)
theorem for_zipL {K a b}{xs ys:List V}{g:TG}{tb}{D:Ends}{σ:St}{H:Hp}(hlen:ys.length=xs.length)(Pv:Nat->St->Hp->Prop)(h0:Pv 0 σ H)(hl:∀i σ H,i<=xs.length->Pv i σ H->SqL K H a xs/\SqL K H b ys)
  (hs:∀i x y t σ H,xs[i]?=some x->ys[i]?=some y->Pv i σ H->H t=none->g (.ref t) σ (upd H t (.tup [x,y])) fun σ2 H2=>tb { D with nx:=Pv (i+1),ct:=Pv (i+1),bk:=D.nx } σ2 H2) (hd:∀σ H,Pv xs.length σ H->D.nx σ H):tFor (fun _ H R=>R (ItZ K a b) H) g tb D σ H:=by
 refine⟨fun i m σ H=>m=xs.length - i/\i<=xs.length/\Pv i σ H,⟨xs.length,by simp,Nat.zero_le _,h0⟩,?_⟩;rintro i m σ H ⟨rfl,hi,p⟩;obtain⟨q1,q2⟩:=hl i σ H hi p;by_cases hlt:i<xs.length
 ·have hlt':i<ys.length:=by omega
  refine .inr ⟨⟨xs,ys,xs[i],ys[i],q1,q2,by simp[hlt],by simp[hlt']⟩,Pv (i+1),fun σ' H' p'=>⟨xs.length - (i+1),by omega,rfl,hlt,p'⟩,fun x H' y=>?_⟩;obtain⟨t,z,z',rfl,ht,hy,rfl⟩:=y;obtain⟨e1,e2⟩:=hy xs ys q1 q2;exact hs i z z' t σ H e1 e2 p ht
 ·have e:i=xs.length:=by omega
  subst e;exact .inl ⟨⟨xs,ys,q1,q2,rfl⟩,hd σ H p⟩
end
def ItE (K:Frag)(a:Addr):It:=
 ⟨fun i H=>∃xs x,SqL K H a xs/\xs[i]?=some x,fun i H v H'=>∃t x,v=.ref t/\H t=none/\(∀xs,SqL K H a xs->xs[i]?=some x)/\H'=upd H t (.tup [.int i,x]),fun i H=>∃xs,SqL K H a xs/\xs.length=i⟩
theorem turn_enumL {P w K elts}{kk:Nat}{tpos}(a e it:Addr)(h1:e≠it)(h2:a≠e)(h3:a≠it) :
  Turn P w K (.Tuple elts kk tpos) (ItE K a) [e,it] e (fun i h=>(∃old,IsEnum h e it i old)/\h.IsListIter it a i) where
 mem:=by simp
 obj:=fun i h ⟨⟨old,he⟩,⟨o,q,_,d⟩⟩ b hb=>by
  simp only[List.mem_cons,List.not_mem_nil,or_false] at hb;rcases hb with rfl|rfl
  ·exact⟨_,he,fun v z=>by have z':Data.fields _=Data.cell v:=z;cases z'⟩
  ·exact⟨o,q,fun v z=>by rw[d] at z;cases z⟩
 keep:=fun i h h' ⟨⟨old,he⟩,⟨o,q,d⟩⟩ k=>⟨⟨old,k e (by simp) _ he⟩,o,k it (by simp) _ q,d⟩
 item:=by
  intro X hP hw hK hc i pins s σ H E I hf st hg;subst hP hw hK;obtain⟨⟨old,he⟩,hi⟩:=st;obtain⟨xs,x,hq,hx⟩:=hg;obtain⟨us,rv,p⟩:=I.listAt hq;obtain⟨u,hu,ru⟩:=rv.get hx;have hlt:i<us.toArray.size:=by rw[List.size_toArray,<- rv.length];exact(List.getElem?_eq_some_iff.mp hx).1
  have hh:X.A.in1.handled=none:=I.ok.hd hc;refine wpAny_pyNext_enum_itemD (Draws.list hh it a h3 us.toArray) he ⟨hi,p⟩ hlt h1 (by simp[h1,Ne.symm h2]) fun x' h' tk hP hout hSt hT hsz hk=>⟨_,rfl,?_⟩;have ex:x'=u:=Option.some.inj ((by simpa using hP:us[i]?=some x').symm.trans hu);subst ex;refine wpAny_letOwnedTupleGo_enum (s:={ s with heap:=h',toks:=tk+1 }) hout fun h3' he3 sb=>?_
  have old:∀{c:Addr} {o:Obj},s.heap.get? c=some o->c≠s.heap.objs.size:=fun z=>Nat.ne_of_lt (Heap.lt_size z);obtain⟨⟨oi,qi,di⟩,_⟩:=hSt
  have J:Inv X pins σ (upd H s.heap.objs.size (.tup [.int i,x])) { s with heap:=h3',toks:=tk+1 }:=by
   refine I.turnT (xs:=[.int i,x]) (us:=[.int i tk,x']) [e,it] hf (fun c o hc z=>?_) (Nat.le_refl _) (.cons ⟨tk,rfl⟩ (.cons ru .nil)) (by show 2<=sizeLine;decide) (sb.extBut _ _ (Ne.symm (old he)) hT);simp only[List.mem_cons,List.not_mem_nil,or_false,not_or] at hc;exact sb.extBut _ _ hc.1 (hk c o hc.1 hc.2 z)
  refine⟨.ref s.heap.objs.size,_,J,rfl,⟨_,x,rfl,I.hok.fresh (Nat.le_refl _),fun ys hy=>by rw[I.list_inj hy hq];exact hx,rfl⟩,⟨⟨_,by simpa using he3⟩,oi,sb.extBut _ _ (Ne.symm h1) qi,di⟩,fun b hb=>?_⟩
  have ne:b≠s.heap.objs.size:=by
   obtain⟨o,z,_⟩:=hi;simp only[List.mem_cons,List.not_mem_nil,or_false] at hb;rcases hb with rfl|rfl
   ·exact old he
   ·exact old z
  rw[upd_ne ne];exact(hf b hb).1
 done:=by
  intro X hP hw hK hc i pins s σ H E I hf st hg;subst hP hw hK;obtain⟨⟨old,he⟩,hi⟩:=st;obtain⟨xs,hq,hx⟩:=hg;obtain⟨us,rv,p⟩:=I.listAt hq;have en:i=us.toArray.size:=by rw[List.size_toArray,<- rv.length];exact hx.symm
  subst en;have hh:X.A.in1.handled=none:=I.ok.hd hc;obtain⟨f0,f1,f2,f3,f4,f5⟩:=hf it (by simp);exact wpAny_pyNext_enum_endD (Draws.list hh it a h3 us.toArray) he ⟨hi,p⟩ fun h' eb=>⟨rfl,I.turned (t':=s.toks) (fun b o hb q=>eb b o hb q) f0 f1 f3 f4 f5⟩
 self:=fun _ _ _ _ _ ⟨⟨_,he⟩,_⟩ h=>wpAny_pyIter_enum he h
section
variable {X:Cx}
def iEnumL (K:Frag)(ta:TA):TI:=fun σ H R=>ta σ H fun vs H1=>∃a,vs=[.ref a]/\(∃xs,SqL K H1 a xs)/\R (ItE K a) H1
theorem pi_enumL {elts:List Expr}{kk:Nat}{tpos p pos:Pos}{l ta}(hg:Gl X "enumerate")(hm:X.mg "enumerate" = none)(hv:bootBuiltins "enumerate" = some (.type "enumerate"))(ha:PA X [l] ta)(hs:starEach [l] X.env=[(false,eval l X.env)]:=by rfl) :
  PI X (.Tuple elts kk tpos) (.Call (.Name "enumerate" p) [l] [] pos) (iEnumL X.K ta):=by
 intro pins s σ H R I h;refine Call_ (ld_blt I hg hm hv (PyProof.Rows.callWith_type1 (thn (ha pos pins s σ H _ I h) fun us s1 ⟨vs,H1,I1,r1,q1⟩=>?_) hs rfl));obtain⟨a,rfl,⟨xs,hq⟩,q⟩:=q1;obtain⟨u,rfl,ru⟩:=vals1 r1;cases(show u=Value.ref a from ru);obtain⟨its,rv,p⟩:=I1.listAt hq;have alt:a<s1.heap.objs.size:=let⟨_,e,_⟩:=p;Heap.lt_size e
 refine call_enumerate_list p fun h' he hS _ hk=>wpAny_pyIter_enum (s:={ s1 with heap:=h' }) he ⟨s1.heap.objs.size+1,[s1.heap.objs.size+1,s1.heap.objs.size],_,_,H1,rfl,I1.kept (t':=s1.toks) hk,turn_enumL a _ _ (Nat.ne_of_gt (Nat.lt_succ_self _)) (Nat.ne_of_lt (Nat.lt_succ_of_lt alt)) (Nat.ne_of_lt alt),⟨⟨_,by simpa using he⟩,hS⟩,fun b hb=>?_,q⟩
 have lc:s1.heap.objs.size<=b:=by
  simp only[List.mem_cons,List.not_mem_nil,or_false] at hb;rcases hb with rfl|rfl<;>(simp only[Addr] at *;omega)
 exact I1.fpOk lc (I1.hok.fresh lc)
theorem for_enumL {K a}{xs:List V}{g:TG}{tb}{D:Ends}{σ:St}{H:Hp}(Pv:Nat->St->Hp->Prop)(h0:Pv 0 σ H)(hl:∀i σ H,i<=xs.length->Pv i σ H->SqL K H a xs)
  (hs:∀i x t σ H,xs[i]?=some x->Pv i σ H->H t=none->g (.ref t) σ (upd H t (.tup [.int i,x])) fun σ2 H2=>tb { D with nx:=Pv (i+1),ct:=Pv (i+1),bk:=D.nx } σ2 H2) (hd:∀σ H,Pv xs.length σ H->D.nx σ H):tFor (fun _ H R=>R (ItE K a) H) g tb D σ H:=by
 refine⟨fun i m σ H=>m=xs.length - i/\i<=xs.length/\Pv i σ H,⟨xs.length,by simp,Nat.zero_le _,h0⟩,?_⟩;rintro i m σ H ⟨rfl,hi,p⟩;have q:=hl i σ H hi p;by_cases hlt:i<xs.length
 ·refine .inr ⟨⟨xs,xs[i],q,by simp[hlt]⟩,Pv (i+1),fun σ' H' p'=>⟨xs.length - (i+1),by omega,rfl,hlt,p'⟩,fun x H' y=>?_⟩;obtain⟨t,z,rfl,ht,hy,rfl⟩:=y;exact hs i z t σ H (hy xs q) p ht
 ·have e:i=xs.length:=by omega
  subst e;exact .inl ⟨⟨xs,q,rfl⟩,hd σ H p⟩
theorem call_setL (hh:X.A.handled=none):CallR X (.type "set") (fun xs H Q=>∃(a:Addr) (ns:List Int),xs=[.ref a]/\H a=some (.lst (ns.map V.int))/\ns.length<=100 /\
  ∀l,H l=none->Q (.ref l) (upd H l (.set (fun k=>(onceOf ns ns.length).any (· == k)) (onceOf ns ns.length).length))):=by
 intro pins s σ H xs us Q I r h;obtain⟨a,ns,rfl,hl,hz,q⟩:=h;obtain⟨u,rfl,rx⟩:=vals1 r;cases rx;obtain⟨_,its,n,rv,g⟩:=(show ObjOk X.prog X.w H s.heap a (.lst (ns.map V.int)) from I.hok a _ hl);have e1:its.toArray.size=ns.length:=by have:=rv.length;rw[List.length_map] at this;simp[<- this]
 have sb:scanBound > 200:=by decide
 refine call_set_list (items:=its.toArray) (ns:=ns) hh ⟨_,g,rfl,n,rfl⟩ (by simpa using ints_vals rv) (by rw[e1];omega) fun h' tk hS k=>?_;rw[e1] at hS;exact⟨.ref s.heap.objs.size,_,I.laid (a:=s.heap.objs.size) (o:=.set (fun k=>(onceOf ns ns.length).any (· == k)) (onceOf ns ns.length).length) (t':=tk) (fun b o e=>k b o (Heap.lt_size e) e) (Nat.le_refl _) hS,rfl,q _ (I.hok.fresh (Nat.le_refl _))⟩
end
end L2
namespace L2
open PySem PyProof.Rows
structure NeC (K:Frag)(C:Addr):Prop where
 ne:findIn K (.ref C) "__ne__" = some (some (.builtin "object.__ne__"))
 eq:findIn K (.ref C) "__eq__" = some (some (.builtin "object.__eq__"))
 ob:mroIn K C (.type "object")=some true
section
variable {P:Program}{w:World}{A:Around}{E:Value->Shared->Prop}{K:Frag}{s:Shared}{x C:Addr}{o:Obj}{od:Option Obj}
theorem own_slot {nm id vs}{Q:Option Value->Shared->Prop}(X:K.In s.heap)(I:InstAt s.heap x o C od)(hf:findIn K (.ref C) nm=some (some (.builtin id)))
  (hb:bindSpecial (.builtin id) (.ref x)=pure (.builtin id,[.ref x])) (hc:wpAny (model P w) A (call (.builtin id) (.ref x::vs)) (fun v=>Q (some v)) E s):wpAny (model P w) A (callSpecialIfBound? (.ref x) nm vs) Q E s:=by
 have L:PySem.W.Looks (model P w) s.heap (specialOf (.ref x) nm) (some (.builtin id)):=I.type.andThen (looks_findIn X hf);unfold callSpecialIfBound? bindSpecialIfBound?;refine wpAny_holding (wpAny_bind (wpAny_bind (L.here ?_)));dsimp only;rw[hb]
 have out:wpAny (model P w) A (call (.builtin id) ([.ref x]++vs) >>= fun v=>pure (some v)) Q E s:=wpAny_bind (wpAny_mono hc (fun v s' z=>wpAny_pure z) fun _ _ z=>z);refine wpAny_bind (wpAny_askSetting (wpAny_ite ?_));split
 ·exact wpAny_bind (wpAny_pure (wpAny_pure out))
 ·exact wpAny_tryCatch (wpAny_bind (wpAny_pure (wpAny_pure out)))
theorem own_eq {Q:Option Value->Shared->Prop}(X:K.In s.heap)(I:InstAt s.heap x o C od)(c:NeC K C)(q:Q (some (.bool true)) s):wpAny (model P w) A (callSpecialIfBound? (.ref x) "__eq__" [.ref x]) Q E s:=by
 refine own_slot X I c.eq rfl (wpAny_call (codeAny_call_builtin (by decide +kernel) PySem.F.cmpEntry_eq ?_));exact @PySem.W.check_slot (model P w) _ _ s "object.__eq__" "object" "__eq__" (.ref x) [.ref x] [] _ PySem.F.cmpKind_eq PySem.F.cmpSplit_eq (I.type.andThen (looks_mroIn X c.ob)) (PySem.F.cmpArgs_eq _ _) (objEq_entry_same q)
theorem own_ne {Q:Option Value->Shared->Prop}(X:K.In s.heap)(I:InstAt s.heap x o C od)(c:NeC K C)(hu:A.units+1<cLine)(q:Q (some (.bool false)) s):wpAny (model P w) A (callSpecialIfBound? (.ref x) "__ne__" [.ref x]) Q E s:=by
 refine own_slot X I c.ne rfl (wpAny_call (codeAny_call_builtin (by decide +kernel) PySem.F.cmpEntry_ne ?_));refine @PySem.W.check_slot (model P w) _ _ s "object.__ne__" "object" "__ne__" (.ref x) [.ref x] [] _ PySem.F.cmpKind_ne PySem.F.cmpSplit_ne (I.type.andThen (looks_mroIn X c.ob)) (PySem.F.cmpArgs_ne _ _) ?_;unfold Builtin.«object.__ne__»;have hu':A.in1.units<cLine:=hu
 repeat (first|with_reducible refine wpAny_cRoomFor hu' ?_|with_reducible refine own_eq X I c ?_|wp_step)
 exact q
theorem op_neI {X:Cx}(hu:X.A.units+1<cLine):OpR X (compareOp .NotEq) (fun x y H Q=>∃(a C dx:Addr) (fs:List (Str×V)),x=.ref a/\y=.ref a/\H a=some (.ins C dx fs)/\NeC X.K C/\Q (.bl false) H):=by
 intro pins s σ H x y v u Q I rx ry h;obtain⟨a,C,dx,fs,rfl,rfl,ea,c,q⟩:=h;cases rx;cases ry;obtain⟨mA,O,_⟩:=ins_get I.hok ea;obtain⟨od,J,_⟩:=O.look;have hu0:X.A.units<cLine:=Nat.lt_of_succ_lt hu;show wpAny _ _ (richCompare .NotEq _ _) _ _ _;simp only[richCompare,cmpInfo_NotEq,oneThing_ref,tryCompare];refine wpAny_holding (wpAny_bind (wpAny_cRoomFor hu0 ?_))
 refine wpAny_bind (J.type.here (wpAny_bind (J.type.here ?_)));rw[if_neg (by simp)];refine wpAny_bind (wpAny_pure ?_);rw[if_neg (by simp)];refine wpAny_bind (wpAny_bind (own_ne I.kIn J c hu ?_));exact wpAny_pure (wpAny_pure ⟨.bl false,H,I,rfl,q⟩)
end
end L2
namespace K31
open PySem L2
def top (i:Nat):Stmt:=PySem.Challenge.pw_nolocktree_k36_doors_refused.main.body.getD i (.Pass ⟨0,0,0,0⟩)
structure Txt (K:Frag)(mg:Str->Option Value):Prop where
 n_len:mg "len" = none
 n_max:mg "max" = none
 n_min:mg "min" = none
 n_isinstance:mg "isinstance" = none
 n_list:mg "list" = none
 n_tuple:mg "tuple" = none
 n_int:mg "int" = none
 n_bool:mg "bool" = none
 n_enumerate:mg "enumerate" = none
 n_range:mg "range" = none
 n_repr:mg "repr" = none
 n_all:mg "all" = none
 n_set:mg "set" = none
 n_sorted:mg "sorted" = none
 n_dict:mg "dict" = none
 c_lo:∃t,mg "LEAST_KEY" = some (.int (-999999999) t)
 c_hi:∃t,mg "GREATEST_KEY" = some (.int 999999999 t)
 c_lm:∃t,mg "LEAST_MOST" = some (.int 2 t)
 c_gm:∃t,mg "GREATEST_MOST" = some (.int 5 t)
 c_lv:∃t,mg "GREATEST_LEVEL" = some (.int 60 t)
 c_cnt:∃t,mg "GREATEST_COUNT" = some (.int 1000000 t)
 c_most:∃t,mg "MOST_KEYS" = some (.int 6 t)
structure Cp where
 cL:Addr
 cI:Addr
def Cp.is (c:Cp)(C:Addr):Prop:=C=c.cL\/C=c.cI
structure Ec where
 P:Addr
 D:Addr
 E:Addr
 G:Addr
 L:Addr
 M:Addr
 W:Addr
inductive Rf where
 | place (v:V)
 | doer (v:V)
 | page (v:V)
 | edge (v u:V)
 | level (v:V)
 | most (v:V)
 | twice (v:V)
def Rf.C (x:Ec):Rf->Addr|.place _=>x.P|.doer _=>x.D|.page _=>x.G|.edge _ _=>x.E|.level _=>x.L|.most _=>x.M|.twice _=>x.W
def Rf.fs:Rf->List Str|.edge _ _=>["high","right"]|_=>["found"]
def Rf.us:Rf->List V|.place v=>[v]|.doer v=>[v]|.page v=>[v]|.edge v u=>[v,u]|.level v=>[v]|.most v=>[v]|.twice v=>[v]
def Rf.ix:Rf->Nat|.edge _ _=>0|.doer _=>1|.level _=>2|.most _=>3|.page _=>4|.place _=>5|.twice _=>6
structure Cs where
 pg:Cp
 R:Addr
 N:Addr
 T:Addr
 e:Ec
 TT:Addr
structure PgN (K:Frag)(mg:Str->Option Value)(cP fP:Addr)(fdP:FuncData):Prop where
 fn:Fun K "__init__" "Page.__init__" (inClass (top 42) 0) fP fdP
 bi:Binds K fdP ["self","keys","goods"] []
 b:BaseFn K cP "__init__" fP
 m:mg "Page" = some (.ref cP)
structure KdN (K:Frag)(mg:Str->Option Value)(nm q:Str)(st:Stmt)(C f:Addr)(fd:FuncData):Prop where
 mak:Mk K C f
 fn:Fun K "__init__" q st f fd
 bi:Binds K fd ["self","keys","goods"] []
 m:mg nm=some (.ref C)
 ins:InsC K C
 n1:NoAttr K C "key_row"
 n2:NoAttr K C "good_row"
structure RdN (K:Frag)(mg:Str->Option Value)(C f:Addr)(fd:FuncData):Prop where
 mak:Mk K C f
 fn:Fun K "__init__" "Rounds.__init__" (inClass (top 46) 0) f fd
 bi:Binds K fd ["self"] []
 m:mg "Rounds" = some (.ref C)
 cl:Cls K C
 n1:NoAttr K C "in_use"
 n2:NoAttr K C "kept_laps"
 n3:NoAttr K C "free_ones"
 n4:NoAttr K C "call_laps"
 n5:NoAttr K C "lap_now"
structure NdN (K:Frag)(mg:Str->Option Value)(C f:Addr)(fd:FuncData):Prop where
 mak:Mk K C f
 fn:Fun K "__init__" "Node.__init__" (inClass (top 52) 0) f fd
 bi:Binds K fd ["self","level","bears","high","right"] []
 m:mg "Node" = some (.ref C)
 cl:Cls K C
 n1:NoAttr K C "level"
 n2:NoAttr K C "bears"
 n3:NoAttr K C "high"
 n4:NoAttr K C "right"
 n5:NoAttr K C "holder"
 n6:NoAttr K C "written"
structure TrN (K:Frag)(mg:Str->Option Value)(C f:Addr)(fd:FuncData):Prop where
 mak:Mk K C f
 fn:Fun K "__init__" "Tree.__init__" (inClass (top 53) 0) f fd
 bi:Binds K fd ["self","most"] []
 m:mg "Tree" = some (.ref C)
 cl:Cls K C
 n1:NoAttr K C "most_keys"
 n2:NoAttr K C "own_rounds"
 n3:NoAttr K C "nodes"
 n4:NoAttr K C "versions"
 n5:NoAttr K C "top_place"
structure KdF (K:Frag)(mg:Str->Option Value)(c:Cp):Prop where
 iL:InsC K c.cL
 iI:InsC K c.cI
 mL:mg "Leaf" = some (.ref c.cL)
 mI:mg "Inner" = some (.ref c.cI)
 LL:kitOne K (.ref c.cL) (.ref c.cL)=some true
 LI:kitOne K (.ref c.cL) (.ref c.cI)=some false
 IL:kitOne K (.ref c.cI) (.ref c.cL)=some false
 II:kitOne K (.ref c.cI) (.ref c.cI)=some true
structure ErN (K:Frag)(mg:Str->Option Value)(nm q:Str)(st:Stmt)(fs:List Str)(C T fI:Addr)(fd:FuncData):Prop where
 f:ExF K C T fI
 g:ExG K C
 b:BaseInit K T
 r:ExR K C
 fn:Fun K "__init__" q st fI fd
 bi:Binds K fd ("self" :: fs) []
 mC:mg nm=some (.ref C)
 mT:mg "TreeError" = some (.ref T)
 no:∀x∈fs,NoAttr K C x
 xC:ExM K C
 self:mroIn K C (.ref C)=some true
 up:mroIn K C (.ref T)=some true
abbrev ErP (K:Frag)(mg:Str->Option Value)(C TT fI:Addr)(fd:FuncData):Prop:=ErN K mg "NoPlace" "NoPlace.__init__" (inClass (top 5) 0) ["found"] C TT fI fd
abbrev ErD (K:Frag)(mg:Str->Option Value)(C TT fI:Addr)(fd:FuncData):Prop:=ErN K mg "NoDoer" "NoDoer.__init__" (inClass (top 8) 0) ["found"] C TT fI fd
abbrev ErE (K:Frag)(mg:Str->Option Value)(C TT fI:Addr)(fd:FuncData):Prop:=ErN K mg "NoEdge" "NoEdge.__init__" (inClass (top 10) 0) ["high","right"] C TT fI fd
abbrev ErG (K:Frag)(mg:Str->Option Value)(C TT fI:Addr)(fd:FuncData):Prop:=ErN K mg "NoPage" "NoPage.__init__" (inClass (top 4) 0) ["found"] C TT fI fd
abbrev ErL (K:Frag)(mg:Str->Option Value)(C TT fI:Addr)(fd:FuncData):Prop:=ErN K mg "NoLevel" "NoLevel.__init__" (inClass (top 7) 0) ["found"] C TT fI fd
abbrev ErM (K:Frag)(mg:Str->Option Value)(C TT fI:Addr)(fd:FuncData):Prop:=ErN K mg "NoMost" "NoMost.__init__" (inClass (top 6) 0) ["found"] C TT fI fd
abbrev ErW (K:Frag)(mg:Str->Option Value)(C TT fI:Addr)(fd:FuncData):Prop:=ErN K mg "Twice" "Twice.__init__" (inClass (top 13) 0) ["found"] C TT fI fd
def KdO (K:Frag)(c:Cp):Prop:=∀T∈(["NoneType","bool","int","str","list","tuple","dict"]:List String),kitOne K (.type T) (.ref c.cL)=some false/\kitOne K (.type T) (.ref c.cI)=some false
def psD (s:Stmt):List Str:=(defArgs s).args.map (·.arg)
abbrev D (K:Frag)(mg:Str->Option Value)(x:Str)(i:Nat):=DD K mg x (top i) (psD (top i))
abbrev M' (K:Frag)(mg:Str->Option Value)(cn nm q:Str)(i j:Nat):=MM K mg cn nm q (inClass (top i) j) (psD (inClass (top i) j))
structure Rst (K:Frag)(mg:Str->Option Value):Prop where
 T:Txt K mg
 nz:mg "zip" = none
 nV:mg "ValueError" = none
 R_given:M' K mg "Rounds" "given" "Rounds.given" 46 1
 R_went:M' K mg "Rounds" "went" "Rounds.went" 46 2
 R_enter:M' K mg "Rounds" "enter" "Rounds.enter" 46 3
 R_leave:M' K mg "Rounds" "leave" "Rounds.leave" 46 4
 R_release:M' K mg "Rounds" "release" "Rounds.release" 46 5
 R_is_past:M' K mg "Rounds" "is_past" "Rounds.is_past" 46 6
 R_is_used:M' K mg "Rounds" "is_used" "Rounds.is_used" 46 8
 R_is_kept:M' K mg "Rounds" "is_kept" "Rounds.is_kept" 46 9
 R_many_places:M' K mg "Rounds" "many_places" "Rounds.many_places" 46 10
 R_lap:M' K mg "Rounds" "lap" "Rounds.lap" 46 11
 R_used:M' K mg "Rounds" "used" "Rounds.used" 46 12
 R_kept:M' K mg "Rounds" "kept" "Rounds.kept" 46 13
 R_free:M' K mg "Rounds" "free" "Rounds.free" 46 14
 R_going:M' K mg "Rounds" "going" "Rounds.going" 46 15
 R_twin:M' K mg "Rounds" "twin" "Rounds.twin" 46 16
 N_held_by:M' K mg "Node" "held_by" "Node.held_by" 52 1
 T_most:M' K mg "Tree" "most" "Tree.most" 53 1
 T_top:M' K mg "Tree" "top" "Tree.top" 53 2
 T_places:M' K mg "Tree" "places" "Tree.places" 53 3
 T_rounds:M' K mg "Tree" "rounds" "Tree.rounds" 53 5
 T_node_in:M' K mg "Tree" "node_in" "Tree.node_in" 53 7
 T_node:M' K mg "Tree" "node" "Tree.node" 53 8
 T_page:M' K mg "Tree" "page" "Tree.page" 53 9
 T_is_gone:M' K mg "Tree" "is_gone" "Tree.is_gone" 53 14
 T_need_used:M' K mg "Tree" "need_used" "Tree.need_used" 53 16
 T_need_edge:M' K mg "Tree" "need_edge" "Tree.need_edge" 53 17
 T_held_node:M' K mg "Tree" "held_node" "Tree.held_node" 53 18
 T_made:M' K mg "Tree" "made" "Tree.made" 53 19
 T_hold:M' K mg "Tree" "hold" "Tree.hold" 53 20
 T_write:M' K mg "Tree" "write" "Tree.write" 53 21
 T_free:M' K mg "Tree" "free" "Tree.free" 53 22
 T_go:M' K mg "Tree" "go" "Tree.go" 53 23
 T_lead:M' K mg "Tree" "lead" "Tree.lead" 53 24
 T_enter:M' K mg "Tree" "enter" "Tree.enter" 53 25
 T_leave:M' K mg "Tree" "leave" "Tree.leave" 53 26
 d_is_number:D K mg "is_number" 21
 d_is_whole:D K mg "is_whole" 22
 d_is_key:D K mg "is_key" 23
 d_is_good:D K mg "is_good" 24
 d_is_place:D K mg "is_place" 25
 d_is_most:D K mg "is_most" 26
 d_is_level:D K mg "is_level" 27
 d_is_count:D K mg "is_count" 28
 d_is_doer:D K mg "is_doer" 29
 d_is_row:D K mg "is_row" 30
 d_is_rising:D K mg "is_rising" 31
 d_are_page_keys:D K mg "are_page_keys" 38
 d_are_goods:D K mg "are_goods" 39
 d_are_places:D K mg "are_places" 40
 d_need_most:D K mg "need_most" 48
 d_need_level:D K mg "need_level" 49
 d_need_page:D K mg "need_page" 50
 d_need_doer:D K mg "need_doer" 51
 d__law_cell:D K mg "_law_cell" 55
 d__law_box:D K mg "_law_box" 56
 d__law_take:D K mg "_law_take" 57
 d__law_keys:D K mg "_law_keys" 58
 d__law_content:D K mg "_law_content" 59
 d__law_state:D K mg "_law_state" 60
 d__law_given:D K mg "_law_given" 61
 d__law_let_free:D K mg "_law_let_free" 62
 d__law_made:D K mg "_law_made" 63
 d__law_gone:D K mg "_law_gone" 64
 d__law_freed:D K mg "_law_freed" 65
 d__law_written:D K mg "_law_written" 66
 d__law_left:D K mg "_law_left" 67
 d__law_stands:D K mg "_law_stands" 68
 d__law_edge:D K mg "_law_edge" 69
 d__law_page:D K mg "_law_page" 70
 d__law_one:D K mg "_law_one" 71
 d__law_done:D K mg "_law_done" 72
 d__law_called:D K mg "_law_called" 73
 d__law_more:D K mg "_law_more" 74
 d__law_kind:D K mg "_law_kind" 75
 d__law_asked:D K mg "_law_asked" 76
 d__law_tried:D K mg "_law_tried" 77
 d__law_same:D K mg "_law_same" 78
 d__law_whole:D K mg "_law_whole" 79
 d__law_is_place:D K mg "_law_is_place" 80
 d__law_edge_due:D K mg "_law_edge_due" 81
 d__law_page_due:D K mg "_law_page_due" 82
 d__law_odd:D K mg "_law_odd" 83
 d__law_place:D K mg "_law_place" 84
 d__law_some_page:D K mg "_law_some_page" 85
 d__law_high:D K mg "_law_high" 86
 d__law_due:D K mg "_law_due" 87
 d__law_things:D K mg "_law_things" 88
 d_law:D K mg "law" 89
structure Fx (P:Program)(w:World)(K:Frag)(mg:Str->Option Value)(base:Heap)(c:Cs):Prop where
 r:Rst K mg
 PX:∃cP fP fdP,PgN K mg cP fP fdP
 LX:∃f fd,KdN K mg "Leaf" "Leaf.__init__" (inClass (top 43) 0) c.pg.cL f fd
 IX:∃f fd,KdN K mg "Inner" "Inner.__init__" (inClass (top 44) 0) c.pg.cI f fd
 KF:KdF K mg c.pg
 BK:∃f fd,(∀C,c.pg.is C->Cls K C/\Meth K C "all_keys" f)/\Fun K "all_keys" "Page.all_keys" (inClass (top 42) 1) f fd/\Binds K fd ["self"] []
 BG:∃f fd,(∀C,c.pg.is C->Cls K C/\Meth K C "goods" f)/\Fun K "goods" "Page.goods" (inClass (top 42) 2) f fd/\Binds K fd ["self"] []
 RX:∃f fd,RdN K mg c.R f fd
 NX:∃f fd,NdN K mg c.N f fd
 TX:∃f fd,TrN K mg c.T f fd
 eP:∃f fd,ErP K mg c.e.P c.TT f fd
 eD:∃f fd,ErD K mg c.e.D c.TT f fd
 eE:∃f fd,ErE K mg c.e.E c.TT f fd
 eG:∃f fd,ErG K mg c.e.G c.TT f fd
 eL:∃f fd,ErL K mg c.e.L c.TT f fd
 eM:∃f fd,ErM K mg c.e.M c.TT f fd
 eW:∃f fd,ErW K mg c.e.W c.TT f fd
 xT:ExM K c.TT
 kk:∀r q:Rf,kitOne K (.ref (r.C c.e)) (.ref (q.C c.e))=some (r.ix==q.ix)
 kv:∀r:Rf,kitOne K (.ref (r.C c.e)) (.type "ValueError")=some true
 ne:∀C,c.pg.is C->NeC K C
 ko:KdO K c.pg
section
variable {P:Program}{w:World}{K:Frag}{mg:Str->Option Value}{base:Heap}{c:Cs}
abbrev Ok (_:Fx P w K mg base c){x:Str}{st:Stmt}{ps:List Str}(_:DD K mg x st ps):=OkD P w K mg base x st ps
abbrev Ox (_:Fx P w K mg base c){x:Str}{st:Stmt}{ps:List Str}(_:DD K mg x st ps):=OkX P w K mg base x st ps
abbrev Mt (_:Fx P w K mg base c)(C:Addr){n m q:Str}{st:Stmt}{ps:List Str}(_:MM K mg n m q st ps):=MtOk P w K mg base CX0 C m ps
abbrev Mx (_:Fx P w K mg base c)(C:Addr){n m q:Str}{st:Stmt}{ps:List Str}(_:MM K mg n m q st ps):=MtOk P w K mg base (CXo P w) C m ps
end
theorem Fx.cR {P w K}{mg:Str->Option Value}{base}{c:Cs}(F:Fx P w K mg base c):Cls K c.R:=let⟨_,_,x⟩:=F.RX;x.cl
theorem Fx.cT {P w K}{mg:Str->Option Value}{base}{c:Cs}(F:Fx P w K mg base c):Cls K c.T:=let⟨_,_,x⟩:=F.TX;x.cl
def Box (H:Hp)(p:Addr)(n:Nat):Prop:=∃a b c:Int,H p=some (.lst [.int a,.int b,.int c])/\0<=a/\0<=b/\b<2147483647/\0<=c/\c<=n
theorem Box.lst {H:Hp}{p}{n:Nat}(x:Box H p n):∃xs,H p=some (.lst xs):=let⟨_,_,_,h,_⟩:=x;⟨_,h⟩
theorem Box.mono {H:Hp}{p}{n m:Nat}(x:Box H p n)(h:n<=m):Box H p m:=let⟨a,b,c,h1,h2,h3,h4,h5,h6⟩:=x;⟨a,b,c,h1,h2,h3,h4,h5,by omega⟩
theorem Box.same {H H':Hp}{p}{n:Nat}(x:Box H p n)(s:Same H H'):Box H' p n:=let⟨a,b,c,h1,r⟩:=x;⟨a,b,c,s _ _ h1,r⟩
theorem Box.to {H H':Hp}{p}{n:Nat}(x:Box H p n)(s:∀o,H p=some o->H' p=some o):Box H' p n:=let⟨a,b,c,h1,r⟩:=x;⟨a,b,c,s _ h1,r⟩
theorem Box.ne {H:Hp}{p q}{n:Nat}(x:Box H p n)(h:H q=none):q≠p:=by
 obtain⟨xs,e⟩:=x.lst;exact(ne_of_none e h).symm
inductive spTake (vs:List V)(H:Hp)(Q:VK)(E:XK):Prop
 | mk (p:Addr)(m:Int)(n:Nat):vs=[.ref p,.int m]->Box H p n->n<=1000000->0<m->m<=1000000000->(∀(r:Int) (H':Hp),0<=r->r<m->Box H' p (n+1)->KB p H H'->Q (.int r) H')->spTake vs H Q E
theorem atI_mem {xs:List V}{r:Int}(h0:0<=r)(h1:r<xs.length):∃v,v∈xs/\atI xs r=some v:=by
 have hj:r.toNat<xs.length:=by omega
 refine⟨xs[r.toNat],List.getElem_mem hj,?_⟩;have e:xs[r.toNat]?=some xs[r.toNat]:=by simp[hj]
 have:=atI_nat e
 rwa[show ((r.toNat:Nat):Int)=r by omega] at this
theorem atI_ints {ns:List Int}{r:Int}(h0:0<=r)(h1:r<ns.length):∃z,z∈ns/\atI (ns.map V.int) r=some (.int z):=by
 obtain⟨v,hv,e⟩:=atI_mem (xs:=ns.map V.int) h0 (by simpa using h1);obtain⟨z,hz,rfl⟩:=List.mem_map.mp hv;exact⟨z,hz,e⟩
local macro_rules | `(tactic| walk_at "c") => `(tactic| first | assumption | exact (by decide) | exact Or.inl ⟨by decide, by decide⟩ | exact Or.inr ⟨by decide, by decide⟩ | exact ⟨by decide, by decide +kernel⟩)
local macro_rules | `(tactic| walk_at "s") => `(tactic| exact ⟨rfl, rfl, rfl, by decide +kernel, rfl, by decide +kernel, by decide +kernel⟩)
local macro_rules | `(tactic| walk_at "h") => `(tactic| first | assumption | exact upd_same | exact sg (by assumption) (by assumption) | (refine un_f ?_ ?_ <;> first | assumption | exact upd_same))
local macro_rules | `(tactic| walk_at "r1") => `(tactic| first
 | with_reducible (first | refine s_seqG fun _ _ => ?_ | refine s_set ?_ | refine s_ret ?_ | refine s_retN ?_ | refine s_drop ?_ | refine s_ifG fun _ _ _ _ => ?_ | refine s_next ?_ | refine s_asg ?_ | refine s_fld ?_ | refine s_dput ?_ | refine s_par ?_ | refine k_par ?_ | refine g_name ?_ | refine g_cons ?_ | refine g_nil ?_ | refine g_sub ?_ | refine qb ?_ | refine r_test ?_ | refine r_tB ?_ | refine r_andV ?_ | refine r_orV ?_ | refine r_notV ?_ | refine r_and ?_ | refine r_or ?_ | refine r_not ?_ | refine r_ifx ?_ | refine r_c ?_ | refine r_op ?_ | refine r_un ?_ | refine q_i0 ?_ | refine q_u ?_ | refine r_chain ?_ | refine k_chain ?_ | refine r_fld ?_ | refine r_dget ?_ | refine r_lst ?_ | refine r_tup ?_ | refine r_cons ?_ | refine r_nil ?_ | refine r_call ?_ | refine r_meth ?_ | refine r_methP ?_ | refine r_make ?_ | refine r_cb ?_ | refine r_bm ?_ | refine s_for ?_ | refine r_il ?_ | refine r_rng1 ?_ | refine r_rng2 ?_ | refine r_pcons ?_ | refine r_pnil ?_ | refine r_cbk ?_ | refine iteT ?_ | refine iteF ?_ | refine iteNF ?_ | refine iteNT ?_)
 | ((with_reducible refine' r_var ?e ?q); (case e => rfl))
 | ((with_reducible refine' q_eq ?e ?q); (case e => rfl)) | ((with_reducible refine' q_ne ?e ?q); (case e => rfl))
 | ((with_reducible refine' k_fld ?h ?c ?n ?l ?q); (case h => walk_at "h"); (case c => assumption); (case n => assumption); (case l => rfl))
 | ((with_reducible refine' k_flds ?h ?c ?n ?l ?q); (case h => walk_at "h"); (case c => assumption); (case n => assumption); (case l => exact Nat.le_of_ble_eq_true rfl))
 | ((with_reducible refine' k_meth ?h ?l ?q); (case h => walk_at "h"); (case l => first | rfl | walk_at "tf"))
 | ((with_reducible refine' q_ixL ?h ?e ?q); (case h => walk_at "h"); (case e => rfl))
 | ((with_reducible refine' q_ixT ?h ?e ?q); (case h => walk_at "h"); (case e => rfl))
 | ((with_reducible refine' q_setL ?h ?e ?q); (case h => walk_at "h"); (case e => rfl))
 | ((with_reducible refine' q_i ?c ?q); (case c => walk_at "c"))
 | ((with_reducible refine' k_dgetS ?h ?e ?q); (case h => walk_at "h"); (case e => walk_at "st"))
 | ((with_reducible refine' g_tup ?h ?l ?q); (case h => walk_at "h"); (case l => rfl))
 | ((with_reducible refine' k_bmL ?h ?q); (case h => walk_at "h")) | ((with_reducible refine' k_il ?h ?q); (case h => walk_at "h"))
 | (with_reducible refine s_open (by assumption) ?_))
local macro_rules | `(tactic| walk_at "r") => `(tactic| ((try dsimp only [cxK]); repeat walk_at "r1"))
local macro_rules | `(tactic| walk) => `(tactic| walk_at "r")
local macro_rules | `(tactic| walk_at "o") => `(tactic| (with_reducible refine s_open (by assumption) ?_))
variable {P:Program}{w:World}{K:Frag}{mg:Str->Option Value}{base:Heap}{c:Cs}(F:Fx P w K mg base c)
theorem log_small {m:Int}(h:0<m)(h2:m<=1000000000):m.natAbs.log2<9000:=by
 have e:m.natAbs<2 ^ 30:=by omega
 have:=(Nat.log2_lt (by omega)).mpr e;omega
theorem sm1 {x:Int}:(x % 2147483647).natAbs<2 ^ 64:=by omega
theorem sm2 {x:Int}:0<=x % 2147483629/\x % 2147483629<2147483629:=by omega
theorem lo_of {z c:Int}(h:0<=z/\z<2147483629)(h0:0<=c):-(2 ^ 64:Int)<z+104729 * (c+1):=by omega
theorem hi_of {z c:Int}(h:0<=z/\z<2147483629)(h0:0<=c)(h1:c<=1000000):z+104729 * (c+1)<(2 ^ 64:Int):=by omega
theorem ok_take:Ok F F.r.d__law_take 1 spTake:=by
 refine F.r.d__law_take.go fun sc H Q hr h=>?_;obtain⟨p,m,n,rfl,⟨a,b,c,hb,ha,hb0,hb1,hc0,hc1⟩,hn,hm,hm2,k⟩:=h
 refine⟨_,(pss_cons (ps_if (pc op_gt (pix ix_list (pv 0) pe_int) pe_int)
   (pss_cons (ps_v sc 2 (pe_op op_mod (pix ix_list (pv 0) pe_int) (pv 1)))
  (pss_cons (ps_asg (pe_op op_fdivL (pix ix_list (pv 0) pe_int) (pv 1)) (pg_sub (pv 0) pe_int set_list))
  (pss_one (ps_ret (pv 2)))))
   pss_nil)
  (pss_cons (ps_asg (pe_op op_add (pix ix_list (pv 0) pe_int) pe_int) (pg_sub (pv 0) pe_int set_list))
  (pss_cons (ps_v sc 3 (pe_op op_mod (pe_op op_mul (pe_op op_add (pix ix_list (pv 0) pe_int) pe_int) (pe_op op_add (pe_op op_mul pe_int (pix ix_list (pv 0) pe_int)) pe_int)) pe_int))
  (pss_cons (ps_v sc 4 (pe_op op_mod (pe_op op_pow (pv 3) pe_int) pe_int))
  (pss_cons (ps_v sc 4 (pe_op op_mod (pe_op op_mul (pe_op op_add (pv 4) (pe_op op_mul pe_int (pix ix_list (pv 0) pe_int))) (pe_op op_add (pv 4) pe_int)) pe_int))
  (pss_one (ps_ret (pe_op op_mod (pe_op op_fdivL (pv 4) pe_int) (pv 1))))))))),?_⟩
 walk;refine ite2 (fun h0=>?_) (fun h0=>?_)
 ·walk;refine q_i ⟨hm,log_small hm hm2⟩ ?_;walk;exact k _ _ (Int.emod_nonneg _ (by omega)) (Int.emod_lt_of_pos _ hm) ⟨a / m,b,c,upd_same,Int.ediv_nonneg ha (by omega),hb0,hb1,hc0,by omega⟩ (KB.refl.updP)
 ·walk;refine q_i (.inl ⟨by omega,by omega⟩) ?_;walk;refine q_i ⟨by decide,by decide,sm1⟩ ?_;walk;refine q_i (.inl ⟨?_,?_⟩) ?_
  ·exact lo_of sm2 hc0
  ·exact hi_of sm2 hc0 (by omega)
  walk;exact k _ _ (Int.emod_nonneg _ (by omega)) (Int.emod_lt_of_pos _ hm) ⟨a,b,c+1,upd_same,ha,hb0,hb1,by omega,by omega⟩ (KB.refl.updP)
inductive spCell (K:Frag)(vs:List V)(H:Hp)(Q:VK)(E:XK):Prop
 | mk (a:Addr)(k:Nat)(ns:List Int):vs=[.ref a,.int k]->SqL K H a (ns.map V.int)->(∀i:Int,Q (.int i) H)->spCell K vs H Q E
theorem ok_cell:Ok F F.r.d__law_cell 1 (spCell K):=by
 refine F.r.d__law_cell.go fun sc H Q hr h=>?_;obtain⟨a,j,ns,rfl,hS,k⟩:=h
 refine⟨_,(pss_cons (ps_if (pc op_lt (pv 1) (pe_callB call_len_seq rfl F.r.T.n_len bt_len (pa1 (pv 0))))
   (pss_one (ps_ret (pix ix_list (pv 0) (pv 1))))
   pss_nil)
  (pss_one (ps_ret (pe_op op_add (pe_op op_mul pe_int (pv 1)) pe_int)))),?_⟩
 refine⟨_,rfl,_,rfl,_,_,rfl,.inl hS,_,_,rfl,rfl,_,rfl,?_⟩;refine ite2 (fun h0=>?_) (fun h0=>?_)
 ·have h1:(j:Int)<((ns.map V.int).length:Nat):=of_decide_eq_true h0;obtain⟨z,_,e⟩:=atI_ints (ns:=ns) (r:=(j:Int)) (by omega) (by simpa using h1);exact⟨_,rfl,_,rfl,_,_,_,_,rfl,rfl,hS,e,k z⟩
 ·exact⟨_,rfl,_,_,rfl,rfl,.inl ⟨by decide,by decide⟩,_,_,rfl,rfl,k _⟩
inductive spBox (vs:List V)(H:Hp)(Q:VK)(E:XK):Prop
 | mk (c:Int):vs=[.int c]->(∀(p:Addr) (H':Hp),H p=none->Box H' p 0->Same H H'->Q (.ref p) H')->spBox vs H Q E
theorem ok_box:Ok F F.r.d__law_box 1 spBox:=by
 refine F.r.d__law_box.go fun sc H Q hr h=>?_;obtain⟨c,rfl,k⟩:=h;refine⟨_,(pss_one (ps_ret (pe_lst (pa3 (pe_callB (call_max2 rfl) rfl F.r.T.n_max bt_max (pa2 pe_int (pe_op op_sub (pv 0) (pe_op op_pow pe_int pe_int)))) (pe_op op_mod (pv 0) pe_int) pe_int)))),?_⟩;walk;refine⟨_,_,rfl,?_⟩;walk;refine⟨sz,fun p hp=>?_⟩
 refine k p _ hp ⟨_,_,_,upd_same,?_,Int.emod_nonneg _ (by decide),Int.emod_lt_of_pos _ (by decide),Int.le_refl _,Int.le_refl _⟩ (Same.upd hp);generalize c - 10 ^ (18:Int).toNat=z;by_cases hz:z > 0
 ·rw[if_pos hz];omega
 ·rw[if_neg hz];omega
inductive spB (p:Int->Bool)(vs:List V)(H:Hp)(Q:VK)(E:XK):Prop
 | mk (i:Int):vs=[.int i]->Q (.bl (p i)) H->spB p vs H Q E
def inR (lo hi:Int)(i:Int):Bool:=decide (lo<=i)&&decide (i<=hi)
theorem inR_t {lo hi i:Int}(h1:lo<=i)(h2:i<=hi):inR lo hi i=true:=by unfold inR;rw[decide_eq_true h1,decide_eq_true h2];rfl
inductive spW (vs:List V)(H:Hp)(Q:VK)(E:XK):Prop
 | mk (i lo hi:Int):vs=[.int i,.int lo,.int hi]->Q (.bl (inR lo hi i)) H->spW vs H Q E
theorem int_int {K}:kitOne K (.type "int") (.type "int")=some true:=by kernel_rfl
theorem int_bool {K}:kitOne K (.type "int") (.type "bool")=some false:=by kernel_rfl
theorem ok_isN:Ok F F.r.d_is_number 1 (spB fun _=>true):=by
 refine F.r.d_is_number.go fun sc H Q hr h=>?_;obtain⟨i,rfl,k⟩:=h;refine⟨_,(pss_one (ps_ret (pe_and (pe_callB call_inst rfl F.r.T.n_isinstance bt_isinstance (pa2 (pv 0) (pe_bltn (v:=.ty "int") rfl F.r.T.n_int bt_int rfl))) (pe_one (pe_not (pe_callB call_inst rfl F.r.T.n_isinstance bt_isinstance (pa2 (pv 0) (pe_bltn (v:=.ty "bool") rfl F.r.T.n_bool bt_bool rfl)))))))),?_⟩;walk
 refine⟨_,_,_,_,rfl,.int i,.inl ⟨"int",rfl,int_int⟩,?_⟩;walk;refine⟨_,_,_,_,rfl,.int i,.inl ⟨"bool",rfl,int_bool⟩,?_⟩;walk;exact k
theorem ok_isW:Ok F F.r.d_is_whole 2 spW:=by
 refine F.r.d_is_whole.go fun sc H Q hr h=>?_;obtain⟨i,lo,hi,rfl,k⟩:=h;refine⟨_,(pss_one (ps_ret (pe_and (pe_d (ok_isN F) hr (pa1 (pv 0))) (pe_one (pe_chain op_le op_le (pv 1) (pv 0) (pv 2)))))),?_⟩;walk;refine⟨i,rfl,?_⟩;walk;unfold inR at k;refine ite2 (fun c=>?_) (fun c=>?_)
 ·walk;rw[c,Bool.true_and] at k;exact k
 ·rw[Bool.eq_false_iff.mpr c,Bool.false_and] at k;exact k
theorem ok_is_key:Ok F F.r.d_is_key 3 (spB (inR (-999999999) 999999999)):=by
 obtain⟨t_LEAST_KEY,c_LEAST_KEY⟩:=F.r.T.c_lo;obtain⟨t_GREATEST_KEY,c_GREATEST_KEY⟩:=F.r.T.c_hi;refine F.r.d_is_key.go fun sc H Q hr h=>?_;obtain⟨i,rfl,k⟩:=h;refine⟨_,(pss_one (ps_ret (pe_d (ok_isW F) hr (pa3 (pv 0) (pe_glob (v:=.int (-999999999)) rfl c_LEAST_KEY ⟨t_LEAST_KEY,rfl⟩) (pe_glob (v:=.int (999999999)) rfl c_GREATEST_KEY ⟨t_GREATEST_KEY,rfl⟩))))),?_⟩;exact⟨_,rfl,i,_,_,rfl,k⟩
theorem ok_is_good:Ok F F.r.d_is_good 3 (spB (inR (-999999999) 999999999)):=by
 obtain⟨t_LEAST_KEY,c_LEAST_KEY⟩:=F.r.T.c_lo;obtain⟨t_GREATEST_KEY,c_GREATEST_KEY⟩:=F.r.T.c_hi;refine F.r.d_is_good.go fun sc H Q hr h=>?_;obtain⟨i,rfl,k⟩:=h;refine⟨_,(pss_one (ps_ret (pe_d (ok_isW F) hr (pa3 (pv 0) (pe_glob (v:=.int (-999999999)) rfl c_LEAST_KEY ⟨t_LEAST_KEY,rfl⟩) (pe_glob (v:=.int (999999999)) rfl c_GREATEST_KEY ⟨t_GREATEST_KEY,rfl⟩))))),?_⟩;exact⟨_,rfl,i,_,_,rfl,k⟩
theorem ok_is_most:Ok F F.r.d_is_most 3 (spB (inR 2 5)):=by
 obtain⟨t_LEAST_MOST,c_LEAST_MOST⟩:=F.r.T.c_lm;obtain⟨t_GREATEST_MOST,c_GREATEST_MOST⟩:=F.r.T.c_gm;refine F.r.d_is_most.go fun sc H Q hr h=>?_;obtain⟨i,rfl,k⟩:=h;refine⟨_,(pss_one (ps_ret (pe_d (ok_isW F) hr (pa3 (pv 0) (pe_glob (v:=.int (2)) rfl c_LEAST_MOST ⟨t_LEAST_MOST,rfl⟩) (pe_glob (v:=.int (5)) rfl c_GREATEST_MOST ⟨t_GREATEST_MOST,rfl⟩))))),?_⟩;exact⟨_,rfl,i,_,_,rfl,k⟩
theorem ok_is_level:Ok F F.r.d_is_level 3 (spB (inR 0 60)):=by
 obtain⟨t_GREATEST_LEVEL,c_GREATEST_LEVEL⟩:=F.r.T.c_lv;refine F.r.d_is_level.go fun sc H Q hr h=>?_;obtain⟨i,rfl,k⟩:=h;refine⟨_,(pss_one (ps_ret (pe_d (ok_isW F) hr (pa3 (pv 0) pe_int (pe_glob (v:=.int (60)) rfl c_GREATEST_LEVEL ⟨t_GREATEST_LEVEL,rfl⟩))))),?_⟩;exact⟨_,rfl,i,_,_,rfl,k⟩
theorem ok_is_count:Ok F F.r.d_is_count 3 (spB (inR 0 1000000)):=by
 obtain⟨t_GREATEST_COUNT,c_GREATEST_COUNT⟩:=F.r.T.c_cnt;refine F.r.d_is_count.go fun sc H Q hr h=>?_;obtain⟨i,rfl,k⟩:=h;refine⟨_,(pss_one (ps_ret (pe_d (ok_isW F) hr (pa3 (pv 0) pe_int (pe_glob (v:=.int (1000000)) rfl c_GREATEST_COUNT ⟨t_GREATEST_COUNT,rfl⟩))))),?_⟩;exact⟨_,rfl,i,_,_,rfl,k⟩
theorem ok_is_doer:Ok F F.r.d_is_doer 4 (spB (inR 0 1000000)):=by
 refine F.r.d_is_doer.go fun sc H Q hr h=>?_;obtain⟨i,rfl,k⟩:=h;refine⟨_,(pss_one (ps_ret (pe_d (ok_is_count F) hr (pa1 (pv 0))))),?_⟩;exact⟨_,rfl,i,rfl,k⟩
theorem ok_is_place:Ok F F.r.d_is_place 2 (spB (fun i=>decide (0<=i))):=by
 refine F.r.d_is_place.go fun sc H Q hr h=>?_;obtain⟨i,rfl,k⟩:=h;refine⟨_,(pss_one (ps_ret (pe_and (pe_d (ok_isN F) hr (pa1 (pv 0))) (pe_one (pe_cmpR op_ge (pv 0) pe_int (nomark _)))))),?_⟩;walk;refine⟨i,rfl,?_⟩;walk;exact k
theorem wi_row {K}{i:Nat}{σ:St}{H:Hp}{a xs}(e:σ[i]?=some (some (.ref a)))(h:RowAt false H a xs)(R:It->Hp->Prop)(r:R (ItB K false a) H):iSeq K false (tVar i) σ H R:=⟨_,e,a,rfl,⟨xs,h.sq⟩,r⟩
theorem filt_all {α:Type}{xs:List α}:xs.filter (fun _=>true)=xs:=List.filter_eq_self.mpr fun _ _=>rfl
def KeyR (i:Int):Prop:=-999999999<=i/\i<=999999999
structure KeysOk (ks:List Int):Prop where
 r:∀i∈ks,KeyR i
 p:ks.Pairwise (· < ·)
 l:ks.length<=6
theorem key_t {i:Int}(h:KeyR i):inR (-999999999) 999999999 i=true:=inR_t h.1 h.2
theorem list_row {K}:kitAny K (.type "list") [.type "list",.type "tuple"]=some true:=by kernel_rfl
theorem tys2:∀c∈([V.ty "list",V.ty "tuple"]:List V),(∃n,c=.ty n)\/∃a,c=.ref a:=by
 intro c hc;simp only[List.mem_cons,List.not_mem_nil,or_false] at hc;rcases hc with rfl|rfl<;>exact .inl ⟨_,rfl⟩
inductive spRowT (vs:List V)(H:Hp)(Q:VK)(E:XK):Prop
 | mk (a:Addr)(xs:List V):vs=[.ref a]->RowAt false H a xs->(∀H',Same H H'->Q (.bl true) H')->spRowT vs H Q E
inductive spRise (vs:List V)(H:Hp)(Q:VK)(E:XK):Prop
 | mk (a:Addr)(ks:List Int):vs=[.ref a]->RowAt false H a (ks.map V.int)->KeysOk ks->(∀H',Same H H'->Q (.bl true) H')->spRise vs H Q E
theorem ok_row:Ok F F.r.d_is_row 1 spRowT:=by
 refine F.r.d_is_row.go fun sc H Q hr h=>?_;obtain⟨a,xs,rfl,r,k⟩:=h;refine⟨_,(pss_one (ps_ret (pe_callB call_inst rfl F.r.T.n_isinstance bt_isinstance (pa2 (pv 0) (pe_tup (pa2 (pe_bltn (v:=.ty "list") rfl F.r.T.n_list bt_list rfl) (pe_bltn (v:=.ty "tuple") rfl F.r.T.n_tuple bt_tuple rfl))))))),?_⟩;refine⟨_,rfl,sz,fun p hp=>?_⟩
 exact⟨.ref a,_,_,_,rfl,Thg.keep (.lst r) (Same.upd hp),.inr (.inr ⟨p,_,rfl,upd_same,tys2,list_row⟩),k _ (Same.upd hp)⟩
theorem ok_rise:Ok F F.r.d_is_rising 4 spRise:=by
 refine F.r.d_is_rising.go fun sc H Q hr h=>?_;obtain⟨a,ks,rfl,hR,ok,k⟩:=h
 refine⟨_,(pss_cons (ps_if (pt_not (pt_val (pe_d (ok_row F) hr (pa1 (pv 0)))))
   (pss_one (ps_ret pe_bl))
   pss_nil)
  (pss_cons (ps_for PassesOwn.never rfl (pi_enumL rfl F.r.T.n_enumerate bt_enumerate (pa1 (pv 0))) (pg_tup rfl (pgs_cons (pg_v sc 1) (pgs_cons (pg_v sc 2) pgs_nil)))
   (pss_cons (ps_if (pt_not (pt_val (pe_d (ok_is_key F) hr (pa1 (pv 2)))))
   (pss_one (ps_ret pe_bl))
   pss_nil)
  (pss_one (ps_if (PW.pt (pw_and (pc op_gt (pv 1) pe_int) (pw_and1 (pc op_le (pv 2) (pix ix_seq (pv 0) (pe_op op_sub (pv 1) pe_int))))))
   (pss_one (ps_ret pe_bl))
   pss_nil))))
  (pss_one (ps_ret pe_bl)))),?_⟩
 refine⟨_,rfl,a,_,rfl,hR,fun H1 S1=>⟨_,rfl,iteF ?_⟩⟩;have hR1:∀{H2:Hp},Same H H2->RowAt false H2 a (ks.map V.int):=fun S=>S _ _ hR;refine⟨_,rfl,a,rfl,⟨_,(hR1 S1).sq⟩,for_enumL (fun i σ H2=>Same H H2/\(∃o1 o2,σ=[some (.ref a),o1,o2])) ⟨S1,⟨none,none,rfl⟩⟩ (fun i σ H2 _ ⟨S2,_⟩=>(hR1 S2).sq) ?_ ?_⟩
 ·rintro i y t0 σ H2 hi ⟨S2,⟨o1,o2,rfl⟩⟩ ht0;have S3:Same H (upd H2 t0 (.tup [.int i,y])):=S2.trans (Same.upd ht0);rw[List.getElem?_map] at hi;obtain⟨z,hz,rfl⟩:=Option.map_eq_some_iff.mp hi;obtain⟨hil,ez⟩:=List.getElem?_eq_some_iff.mp hz;refine⟨_,_,rfl,SqT.of upd_same,rfl,_,_,rfl,_,_,rfl,rfl,?_⟩;refine⟨_,rfl,z,rfl,_,rfl,?_⟩;rw[key_t (ok.r z (List.mem_of_getElem? hz))];refine iteF ?_
  refine⟨_,rfl,_,_,rfl,rfl,_,rfl,ite2 (fun hp=>?_) (fun hp=>?_)⟩
  ·have hp':(0:Int)<(i:Int):=of_decide_eq_true hp;have hj:i - 1<ks.length:=by omega
   have eix:atI (ks.map V.int) ((i:Int) - 1)=some (.int ks[i - 1]):=by
    have:=atI_nat (xs:=ks.map V.int) (j:=i - 1) (v:=V.int ks[i - 1]) (by rw[List.getElem?_map,List.getElem?_eq_getElem hj];rfl)
    rwa[show ((i - 1:Nat):Int)=(i:Int) - 1 by omega] at this
   have lt:ks[i - 1]<z:=by
    have:=List.pairwise_iff_getElem.mp ok.p (i - 1) i hj hil (by omega);rw[ez] at this;exact this
   refine⟨_,rfl,_,rfl,_,rfl,_,_,rfl,rfl,row_ix (hR1 S3) eix ⟨_,_,rfl,rfl,_,rfl,?_⟩⟩;rw[decide_eq_false (by omega)];exact iteF ⟨S3,⟨_,_,rfl⟩⟩
  ·exact iteF ⟨S3,⟨_,_,rfl⟩⟩
 ·rintro σ H2 ⟨S2,⟨o1,o2,rfl⟩⟩;exact k H2 S2
theorem ok_APK:Ok F F.r.d_are_page_keys 5 spRise:=by
 obtain⟨t_MOST_KEYS,c_MOST_KEYS⟩:=F.r.T.c_most;refine F.r.d_are_page_keys.go fun sc H Q hr h=>?_;obtain⟨a,ks,rfl,r,ok,k⟩:=h;refine⟨_,(pss_one (ps_ret (pe_and (pe_d (ok_rise F) hr (pa1 (pv 0))) (pe_one (pe_cmpR op_le (pe_callB call_len_seq rfl F.r.T.n_len bt_len (pa1 (pv 0))) (pe_glob (v:=.int (6)) rfl c_MOST_KEYS ⟨t_MOST_KEYS,rfl⟩) (nomark _)))))),?_⟩
 refine⟨_,rfl,a,ks,rfl,r,ok,fun H1 S1=>⟨_,rfl,?_⟩⟩;have r1:RowAt false H1 a (ks.map V.int):=S1 _ _ r;refine iteT ⟨_,rfl,a,_,rfl,row_len r1,_,_,rfl,rfl,?_⟩;have l:=ok.l;have e:decide (((ks.map V.int).length:Int)<=6)=true:=decide_eq_true (by rw[List.length_map];omega);show Q (.bl (decide (((ks.map V.int).length:Int)<=6))) H1;rw[e];exact k H1 S1
inductive spGoods (ok:Int->Prop)(vs:List V)(H:Hp)(Q:VK)(E:XK):Prop
 | mk (a:Addr)(gs:List Int):vs=[.ref a,.int gs.length]->RowAt false H a (gs.map V.int)->(∀i∈gs,ok i)->gs.length<=100->gs.Nodup->(∀H',Same H H'->Q (.bl true) H')->spGoods ok vs H Q E
inductive spGoods' (vs:List V)(H:Hp)(Q:VK)(E:XK):Prop
 | mk (a:Addr)(gs:List Int):vs=[.ref a,.int gs.length]->RowAt false H a (gs.map V.int)->(∀i∈gs,KeyR i)->gs.length<=100->(∀H',Same H H'->Q (.bl true) H')->spGoods' vs H Q E
theorem all_tt {α:Type}{f:α->Bool}{xs:List α}(h:∀x∈xs,f x=true):(xs.map f).all id=true:=by
 rw[List.all_eq_true];intro b hb;obtain⟨x,hx,rfl⟩:=List.mem_map.mp hb;exact h x hx
theorem ok_AG:Ok F F.r.d_are_goods 6 spGoods':=by
 refine F.r.d_are_goods.go fun sc H Q hr h=>?_;obtain⟨a,gs,rfl,ra,ok,hz,k⟩:=h
 refine⟨_,(pss_one (ps_ret (pe_and (pe_d (ok_row F) hr (pa1 (pv 0))) (pe_and (pe_cmpR op_eq (pe_callB call_len_seq rfl F.r.T.n_len bt_len (pa1 (pv 0))) (pv 1) (nomark _)) (pe_one (pe_callB (call_allB (hr.hd rfl)) rfl F.r.T.n_all bt_all (pa1 (pe_comp (blk_mk [] []) rfl (pi_seq false (pv 0)) (fun _ _ _ _ _=>PTs.nil) (fun _ _ _ _ _=>(pe_d (ok_is_good F) hr (pa1 (pv 0)))))))))))),?_⟩
 refine⟨_,rfl,a,_,rfl,ra,fun H1 S1=>⟨_,rfl,iteT ?_⟩⟩;have ra1:RowAt false H1 a (gs.map V.int):=S1 _ _ ra;refine⟨_,rfl,a,_,rfl,row_len ra1,_,rfl,rfl,_,rfl,?_⟩;rw[List.length_map,decide_eq_true rfl];refine iteT ?_;refine tcb1 (comp_f (gs.map V.int) (fun _=>true) (fun _=>.bl true) (wi_row rfl ra1) (it_row ra1) ?_ ?_ (by rw[List.length_map];omega) ?_)
 ·exact fun _ _ H2 R _ r=>r H2 (Same.refl _)
 ·intro y hy _ H2 R S2 r;obtain⟨z,hz,rfl⟩:=List.mem_map.mp hy;refine⟨_,rfl,z,rfl,?_⟩;rw[key_t (ok z hz)];exact r H2 (Same.refl _)
 ·intro dd H2 f2 S2 e2;refine⟨dd,gs.map fun _=>true,rfl,by rw[e2,filt_all,List.map_map,List.map_map];rfl,?_⟩;rw[all_tt (fun _ _=>rfl)];exact k H2 (S1.trans S2)
theorem once_len:∀(ns:List Int) (k:Nat),k<=ns.length->(onceOf ns k).length<=k/\((onceOf ns k).length=k ↔ (ns.take k).Nodup)/\∀z,(onceOf ns k).any (· == z)=true ↔ z∈ns.take k
 | ns,0,_=>by
  refine⟨Nat.le_refl _,?_,?_⟩
  ·simp[onceOf,PyProof.Rows.firstMet]
  ·simp[onceOf,PyProof.Rows.firstMet]
 | ns,k+1,h=>by
  obtain⟨h1,h2,h3⟩:=once_len ns k (by omega);have tk:ns.take (k+1)=ns.take k++[ns[k]]:=by rw[List.take_add_one];simp[show k<ns.length by omega]
  have gd:ns.getD k 0=ns[k]:=by simp[List.getD,show k<ns.length by omega]
  have st:onceOf ns (k+1)=PyProof.Rows.step_dedup (onceOf ns k) (ns[k]):=by
   show PyProof.Rows.firstMet _ _=_;rw[PyProof.Rows.firstMet_succ,gd]
  have sl:=PyProof.Rows.step_length (onceOf ns k) ns[k];have sa:=PyProof.Rows.step_any (onceOf ns k) ns[k];rw[st,sl,tk]
  have mem:∀z,(PyProof.Rows.step_dedup (onceOf ns k) ns[k]).any (· == z)=true ↔ z∈ns.take k++[ns[k]]:=fun z=>by
   rw[sa z,Bool.or_eq_true,h3 z,List.mem_append,List.mem_singleton,decide_eq_true_eq]
  by_cases c:(onceOf ns k).any (· == ns[k])=true
  ·rw[if_pos c];refine⟨by omega,⟨fun z=>by omega,fun z=>?_⟩,mem⟩;rw[List.nodup_append] at z;exact absurd rfl (z.2.2 _ ((h3 _).mp c) _ (by simp))
  ·rw[if_neg c];refine⟨by omega,⟨fun z=>?_,fun z=>?_⟩,mem⟩
   ·rw[List.nodup_append];exact⟨h2.mp (by omega),by simp,fun u hu v hv e=>c ((h3 _).mpr (by rw[<- List.mem_singleton.mp hv,<- e];exact hu))⟩
   ·rw[List.nodup_append] at z;have:=h2.mpr z.1;omega
theorem ok_AP:Ok F F.r.d_are_places 6 (spGoods fun i=>0<=i):=by
 refine F.r.d_are_places.go fun sc H Q hr h=>?_;obtain⟨a,gs,rfl,ra,ok,hz,nd,k⟩:=h
 refine⟨_,(pss_cons (ps_if (PW.pt (pw_or (pt_not (pt_val (pe_d (ok_row F) hr (pa1 (pv 0))))) (pw_or1 (pc op_ne (pe_callB call_len_seq rfl F.r.T.n_len bt_len (pa1 (pv 0))) (pv 1)))))
   (pss_one (ps_ret pe_bl))
   pss_nil)
  (pss_one (ps_ret (pe_and (pe_callB (call_allB (hr.hd rfl)) rfl F.r.T.n_all bt_all (pa1 (pe_comp (blk_mk [] []) rfl (pi_seq false (pv 0)) (fun _ _ _ _ _=>PTs.nil) (fun _ _ _ _ _=>(pe_d (ok_is_place F) hr (pa1 (pv 0))))))) (pe_one (pe_cmpR op_eq (pe_callB call_lenS rfl F.r.T.n_len bt_len (pa1 (pe_callTy (call_setL (hr.hd rfl)) rfl F.r.T.n_set bt_set (pa1 (pv 0))))) (pv 1) (nomark _))))))),?_⟩
 refine⟨_,rfl,a,_,rfl,ra,fun H1 S1=>⟨_,rfl,iteF ?_⟩⟩;have ra1:RowAt false H1 a (gs.map V.int):=S1 _ _ ra;refine⟨_,rfl,a,_,rfl,row_len ra1,_,rfl,rfl,_,rfl,?_⟩;rw[List.length_map,decide_eq_true rfl];refine iteF ?_;dsimp only[tNext];refine tret1 (tand1 (tcb1 (comp_f (gs.map V.int) (fun _=>true) (fun _=>.bl true) (wi_row rfl ra1) (it_row ra1) ?_ ?_ (by rw[List.length_map];omega) ?_)))
 ·exact fun _ _ H2 R _ r=>r H2 (Same.refl _)
 ·intro y hy _ H2 R S2 r;obtain⟨z,hz,rfl⟩:=List.mem_map.mp hy;refine⟨_,rfl,z,rfl,?_⟩;have e0:decide (0<=z)=true:=decide_eq_true (ok z hz);show R (.bl (decide (0<=z))) H2;rw[e0];exact r H2 (Same.refl _)
 ·intro dd H2 f2 S2 e2;have ra2:RowAt false H2 a (gs.map V.int):=S2 _ _ ra1;refine⟨dd,gs.map fun _=>true,rfl,by rw[e2,filt_all,List.map_map,List.map_map];rfl,_,rfl,?_⟩;rw[all_tt (fun _ _=>rfl)];obtain⟨o1,o2,_⟩:=once_len gs gs.length (Nat.le_refl _);rw[List.take_length] at o2;refine iteT ⟨_,rfl,a,gs,rfl,ra2,by omega,fun l hl=>⟨l,_,_,rfl,upd_same,by omega,_,rfl,rfl,?_⟩⟩
  show Q (.bl (decide (V.int ((onceOf gs gs.length).length:Int)=V.int gs.length))) _;rw[o2.mpr nd,decide_eq_true rfl];exact k _ ((S1.trans S2).trans (Same.upd hl))
def But (x:Addr)(H H':Hp):Prop:=∀b o,H b=some o->b≠x->H' b=some o
def PgF (tk tg:Addr):List (Str×V):=[("key_row",.ref tk),("good_row",.ref tg)]
section
variable {P:Program}{w:World}{K:Frag}{mg:Str->Option Value}{base:Heap}{c:Cs}
theorem sc_page:FnScope ["self","keys","goods"] ["self","keys","goods"] (defScope (inClass (top 42) 0)):=by walk_at "s"
inductive spPage (C:Addr)(vs:List V)(H:Hp)(Q:VK)(E:XK):Prop
 | mk (x dx a b:Addr)(xs ys:List V):vs=[.ref x,.ref a,.ref b]->H x=some (.ins C dx [])->H a=some (.lst xs)->H b=some (.lst ys)->(∀H' tk tg,But x H H'->H tk=none->H tg=none->H' x=some (.ins C dx (PgF tk tg))->H' tk=some (.tup xs)->H' tg=some (.tup ys)->Q .non H')->spPage C vs H Q E
theorem ok_page {fP C fd}(hf:Fun K "__init__" "Page.__init__" (inClass (top 42) 0) fP fd)(T:Txt K mg)(c:Cls K C)(n1:NoAttr K C "key_row")(n2:NoAttr K C "good_row"):FnOk P w K mg base CX0 1 fP fd ["self","keys","goods"] (spPage C):=by
 refine hf.ok sc_page (fun vs H Q E h=>?_) (fun cdv A outer s H vs Q E hr h=>?_)
 ·obtain⟨_,_,_,_,_,_,rfl,_⟩:=h;rfl
 ·obtain⟨x,dx,a,b,xs,ys,rfl,hx,ra,rb,k⟩:=h
  refine⟨_,(pss_cons (ps_fld (pv 0) (pe_callTy call_tuple_of rfl T.n_tuple bt_tuple (pa1 (pv 1))) rfl)
  (pss_one (ps_fld (pv 0) (pe_callTy call_tuple_of rfl T.n_tuple bt_tuple (pa1 (pv 2))) rfl))),?_⟩
  walk;refine⟨a,xs,rfl,.inl ⟨SqL.of ra,fun tk hk=>?_⟩⟩;have nk:tk≠x:=(ne_of_none hx hk).symm;walk
  have rb1:upd (upd H tk (.tup xs)) x (.ins C dx (putF "key_row" (.ref tk) [])) b=some (.lst ys):=by
   rw[upd_ne (ne_of rb hx (by intro z;cases z))];exact un_f hk rb
  refine⟨b,ys,rfl,.inl ⟨SqL.of rb1,fun tg hg=>?_⟩⟩;have ng:tg≠x:=(ne_of_none upd_same hg).symm;have hg1:=hg;rw[upd_ne ng] at hg1;have ngk:tg≠tk:=(ne_of_none upd_same hg1).symm;rw[upd_ne ngk] at hg1;walk;refine k _ tk tg (fun c' o z n=>?_) hk hg1 upd_same ?_ ?_
  ·rw[upd_ne n,upd_ne (ne_of_none z hg1),upd_ne n];exact un_f hk z
  ·rw[upd_ne nk,upd_ne (Ne.symm ngk),upd_ne nk,upd_same]
  ·rw[upd_ne ng,upd_same]
inductive spMake (C:Addr)(okg:Nat->List Int->Prop)(vs:List V)(H:Hp)(Q:VK)(E:XK):Prop
 | mk (x dx a b:Addr)(ks gs:List Int):vs=[.ref x,.ref a,.ref b]->H x=some (.ins C dx [])->H a=some (.lst (ks.map V.int))->H b=some (.lst (gs.map V.int))->KeysOk ks->okg ks.length gs->(∀H' tk tg,But x H H'->H tk=none->H tg=none->H' x=some (.ins C dx (PgF tk tg))->H' tk=some (.tup (ks.map V.int))->H' tg=some (.tup (gs.map V.int))->Q .non H')->spMake C okg vs H Q E
def okL (n:Nat)(gs:List Int):Prop:=gs.length=n/\∀i∈gs,KeyR i
def okI (n:Nat)(gs:List Int):Prop:=gs.length=n+1/\(∀i∈gs,0<=i)/\gs.Nodup
theorem sc_leaf:FnScope ["self","keys","goods"] ["self","keys","goods"] (defScope (inClass (top 43) 0)):=by walk_at "s"
theorem sc_inner:FnScope ["self","keys","goods"] ["self","keys","goods"] (defScope (inClass (top 44) 0)):=by walk_at "s"
theorem ok_leaf {C f fd}(F:Fx P w K mg base c)(X:KdN K mg "Leaf" "Leaf.__init__" (inClass (top 43) 0) C f fd):FnOk P w K mg base CX0 8 f fd ["self","keys","goods"] (spMake C okL):=by
 obtain⟨cP,fP,fdP,y⟩:=F.PX;have T:=F.r.T;have GP:FnOk P w K mg base CX0 1 fP fdP ["self","keys","goods"] (spPage C):=ok_page y.fn T X.ins.cl X.n1 X.n2;refine X.fn.ok sc_leaf (fun vs H Q E h=>?_) (fun cdv A outer s H vs Q E hr h=>?_)
 ·obtain⟨_,_,_,_,_,_,rfl,_⟩:=h;rfl
 ·obtain⟨x,dx,a,b,ks,gs,rfl,hx,ha,hb,ok,og,k⟩:=h
  refine⟨_,(pss_cons (ps_if (pt_not (pt_val (pe_d (ok_APK F) hr (pa1 (pv 1)))))
   (pss_one ps_never)
   pss_nil)
  (pss_cons (ps_if (pt_not (pt_val (pe_d (ok_AG F) hr (pa2 (pv 2) (pe_callB call_len_seq rfl T.n_len bt_len (pa1 (pv 1)))))))
   (pss_one ps_never)
   pss_nil)
  (pss_one (ps_expr (pe_base y.b GP (hr.mono (by decide)) rfl y.m y.bi pass0 (pa3 (pv 0) (pv 1) (pv 2))))))),?_⟩
  walk;refine⟨a,ks,rfl,ha,ok,fun H1 S1=>?_⟩;walk;refine⟨a,_,rfl,.inl (SqL.of (S1 _ _ ha)),?_⟩;walk;refine⟨b,gs,by rw[List.length_map,og.1];rfl,S1 _ _ hb,og.2,by have:=ok.l;have:=og.1;omega,fun H2 S2=>?_⟩;have S:=S1.trans S2;walk;refine⟨x,dx,a,b,_,_,rfl,S _ _ hx,S _ _ ha,S _ _ hb,fun H3 tk tg B3 f1 f2 e1 e2 e3=>?_⟩
  exact k H3 tk tg (fun c o z n=>B3 c o (S _ _ z) n) (S.free f1) (S.free f2) e1 e2 e3
theorem ok_inner {C f fd}(F:Fx P w K mg base c)(X:KdN K mg "Inner" "Inner.__init__" (inClass (top 44) 0) C f fd):FnOk P w K mg base CX0 8 f fd ["self","keys","goods"] (spMake C okI):=by
 obtain⟨cP,fP,fdP,y⟩:=F.PX;have T:=F.r.T;have GP:FnOk P w K mg base CX0 1 fP fdP ["self","keys","goods"] (spPage C):=ok_page y.fn T X.ins.cl X.n1 X.n2;refine X.fn.ok sc_inner (fun vs H Q E h=>?_) (fun cdv A outer s H vs Q E hr h=>?_)
 ·obtain⟨_,_,_,_,_,_,rfl,_⟩:=h;rfl
 ·obtain⟨x,dx,a,b,ks,gs,rfl,hx,ha,hb,ok,og,k⟩:=h
  refine⟨_,(pss_cons (ps_if (pt_not (pt_val (pe_d (ok_APK F) hr (pa1 (pv 1)))))
   (pss_one ps_never)
   pss_nil)
  (pss_cons (ps_if (pt_not (pt_val (pe_d (ok_AP F) hr (pa2 (pv 2) (pe_op op_add (pe_callB call_len_seq rfl T.n_len bt_len (pa1 (pv 1))) pe_int)))))
   (pss_one ps_never)
   pss_nil)
  (pss_one (ps_expr (pe_base y.b GP (hr.mono (by decide)) rfl y.m y.bi pass0 (pa3 (pv 0) (pv 1) (pv 2))))))),?_⟩
  walk;refine⟨a,ks,rfl,ha,ok,fun H1 S1=>?_⟩;walk;refine⟨a,_,rfl,.inl (SqL.of (S1 _ _ ha)),?_⟩;walk;refine⟨b,gs,by rw[List.length_map,og.1];rfl,S1 _ _ hb,og.2.1,by have:=ok.l;have:=og.1;omega,og.2.2,fun H2 S2=>?_⟩;have S:=S1.trans S2;walk;refine⟨x,dx,a,b,_,_,rfl,S _ _ hx,S _ _ ha,S _ _ hb,fun H3 tk tg B3 f1 f2 e1 e2 e3=>?_⟩
  exact k H3 tk tg (fun c o z n=>B3 c o (S _ _ z) n) (S.free f1) (S.free f2) e1 e2 e3
def Cp.of (c:Cp)(lv:Int):Addr:=if lv=0 then c.cL else c.cI
theorem Cp.of_is (c:Cp)(lv:Int):c.is (c.of lv):=by
 unfold Cp.of;by_cases h:lv=0
 ·rw[if_pos h];exact .inl rfl
 ·rw[if_neg h];exact .inr rfl
def Pg (c:Cp)(H:Hp)(x:Addr)(lv:Int)(ks gs:List Int):Prop:=∃dx tk tg,H x=some (.ins (c.of lv) dx (PgF tk tg))/\H tk=some (.tup (ks.map V.int))/\H tg=some (.tup (gs.map V.int))
theorem Pg.same {c}{H H':Hp}{x}{lv:Int}{ks gs}(h:Pg c H x lv ks gs)(S:Same H H'):Pg c H' x lv ks gs:=let⟨dx,tk,tg,a,b,d⟩:=h;⟨dx,tk,tg,S _ _ a,S _ _ b,S _ _ d⟩
inductive spKs (c:Cp)(vs:List V)(H:Hp)(Q:VK)(E:XK):Prop
 | mk (x:Addr)(lv:Int)(ks gs:List Int):vs=[.ref x]->Pg c H x lv ks gs->(∀l,H l=none->Q (.ref l) (upd H l (.lst (ks.map V.int))))->spKs c vs H Q E
inductive spGs (c:Cp)(vs:List V)(H:Hp)(Q:VK)(E:XK):Prop
 | mk (x:Addr)(lv:Int)(ks gs:List Int):vs=[.ref x]->Pg c H x lv ks gs->(∀l,H l=none->Q (.ref l) (upd H l (.lst (gs.map V.int))))->spGs c vs H Q E
theorem sc_ak:FnScope ["self"] ["self"] (defScope (inClass (top 42) 1)):=by walk_at "s"
theorem sc_gs:FnScope ["self"] ["self"] (defScope (inClass (top 42) 2)):=by walk_at "s"
theorem ok_ak {c:Cp}{fK fd}(hf:Fun K "all_keys" "Page.all_keys" (inClass (top 42) 1) fK fd)(T:Txt K mg)(hc:∀C,c.is C->Cls K C/\NoAttr K C "key_row"):FnOk P w K mg base CX0 1 fK fd ["self"] (spKs c):=by
 refine hf.ok sc_ak (fun vs H Q E h=>?_) (fun cdv A outer s H vs Q E hr h=>?_)
 ·obtain⟨_,_,_,_,rfl,_⟩:=h;rfl
 ·obtain⟨x,lv,ks,gs,rfl,⟨dx,tk,tg,h1,h2,h3⟩,k⟩:=h;obtain⟨c1,c2⟩:=hc _ (c.of_is lv);refine⟨_,(pss_one (ps_ret (pe_callTy call_list_of rfl T.n_list bt_list (pa1 (pe_fld (pv 0) rfl))))),?_⟩;walk;exact⟨tk,_,rfl,.inr (SqT.of h2),k⟩
theorem ok_gs {c:Cp}{fK fd}(hf:Fun K "goods" "Page.goods" (inClass (top 42) 2) fK fd)(T:Txt K mg)(hc:∀C,c.is C->Cls K C/\NoAttr K C "good_row"):FnOk P w K mg base CX0 1 fK fd ["self"] (spGs c):=by
 refine hf.ok sc_gs (fun vs H Q E h=>?_) (fun cdv A outer s H vs Q E hr h=>?_)
 ·obtain⟨_,_,_,_,rfl,_⟩:=h;rfl
 ·obtain⟨x,lv,ks,gs,rfl,⟨dx,tk,tg,h1,h2,h3⟩,k⟩:=h;obtain⟨c1,c2⟩:=hc _ (c.of_is lv);refine⟨_,(pss_one (ps_ret (pe_callTy call_list_of rfl T.n_list bt_list (pa1 (pe_fld (pv 0) rfl))))),?_⟩;walk;exact⟨tg,_,rfl,.inr (SqT.of h3),k⟩
theorem bk (F:Fx P w K mg base c):∃f fd,(∀C,c.pg.is C->Cls K C/\Meth K C "all_keys" f)/\FnOk P w K mg base CX0 1 f fd ["self"] (spKs c.pg)/\Binds K fd ["self"] []:=by
 obtain⟨f,fd,m,n,b⟩:=F.BK;obtain⟨_,_,XL⟩:=F.LX;obtain⟨_,_,XI⟩:=F.IX;exact⟨f,fd,m,ok_ak n F.r.T fun C z=>by rcases z with rfl|rfl<;>first|exact⟨XL.ins.cl,XL.n1⟩|exact⟨XI.ins.cl,XI.n1⟩,b⟩
theorem bg (F:Fx P w K mg base c):∃f fd,(∀C,c.pg.is C->Cls K C/\Meth K C "goods" f)/\FnOk P w K mg base CX0 1 f fd ["self"] (spGs c.pg)/\Binds K fd ["self"] []:=by
 obtain⟨f,fd,m,n,b⟩:=F.BG;obtain⟨_,_,XL⟩:=F.LX;obtain⟨_,_,XI⟩:=F.IX;exact⟨f,fd,m,ok_gs n F.r.T fun C z=>by rcases z with rfl|rfl<;>first|exact⟨XL.ins.cl,XL.n2⟩|exact⟨XI.ins.cl,XI.n2⟩,b⟩
end
theorem sc_Rounds___init__:FnScope ["self"] ["self"] (defScope (inClass (top 46) 0)):=by walk_at "s"
inductive spInit (C:Addr)(vs:List V)(H:Hp)(Q:VK)(E:XK):Prop
 | mk x dx:vs=[.ref x]->H x=some (.ins C dx [])->(∀du dk df dc H',H du=none->H dk=none->H df=none->H dc=none->IsR C x dx du dk df dc H' ⟨0,[],[],[],[]⟩->Keep [x] H H'->Q .non H')->spInit C vs H Q E
theorem ok_init {C f fd}(R:RdN K mg C f fd)(T:Txt K mg):FnOk P w K mg base CX0 1 f fd ["self"] (spInit C):=by
 refine R.fn.ok sc_Rounds___init__ (fun vs H Q E h=>?_) (fun cdv A outer s H vs Q E hr h=>?_)
 ·obtain⟨_,_,rfl,_⟩:=h;rfl
 ·obtain⟨x,dx,rfl,hx,q⟩:=h;have sc:=sc_Rounds___init__
  refine⟨_,(pss_cons (ps_fld (pv 0) pe_dnewK rfl)
  (pss_cons (ps_fld (pv 0) pe_dnewK rfl)
  (pss_cons (ps_fld (pv 0) pe_dnewK rfl)
  (pss_cons (ps_fld (pv 0) pe_dnewK rfl)
  (pss_one (ps_fld (pv 0) pe_int rfl)))))),?_⟩
  have one:∀{H1:Hp} {d:Addr} {fs fs':List (Str×V)},Keep [x] H H1->H1 x=some (.ins C dx fs)->H1 d=none->H d=none/\d≠x/\Keep [x] H (upd (upd H1 d (.dK [])) x (.ins C dx fs'))/\upd (upd H1 d (.dK [])) x (.ins C dx fs') x=some (.ins C dx fs')/\upd (upd H1 d (.dK [])) x (.ins C dx fs') d=some (.dK [])/\(∀b,b≠x->b≠d->upd (upd H1 d (.dK [])) x (.ins C dx fs') b=H1 b):=fun {H1 d fs fs'} k hx1 f1=>by
   have n1:d≠x:=(ne_of_none hx1 f1).symm;exact⟨k.free f1 (by simp[n1]),n1,(k.updN f1).upd (by simp),upd_same,by rw[upd_ne n1,upd_same],fun b h1 h2=>by rw[upd_ne h1,upd_ne h2]⟩
  intro d1 f1;refine⟨_,rfl,x,C,dx,_,rfl,(by rw[upd_ne (ne_of_none hx f1)];exact hx),R.cl,R.n1,by decide,?_⟩;obtain⟨z1,n1,k1,x1,e1,o1⟩:=one (fs':=putF "in_use" (.ref d1) []) Keep.refl hx f1;generalize upd (upd H d1 (.dK [])) x _=H1 at *;intro d2 f2;have m21:d1≠d2:=ne_of_none e1 f2;refine⟨_,rfl,x,C,dx,_,rfl,(by rw[upd_ne (ne_of_none x1 f2)];exact x1),R.cl,R.n2,(by show 1<1000;decide),?_⟩
  obtain⟨z2,n2,k2,x2,e2,o2⟩:=one (fs':=putF "kept_laps" (.ref d2) (putF "in_use" (.ref d1) [])) k1 x1 f2;generalize upd (upd H1 d2 (.dK [])) x _=H2 at *;replace e1:=(o2 d1 n1 m21).trans e1;intro d3 f3;have m31:d1≠d3:=ne_of_none e1 f3;have m32:d2≠d3:=ne_of_none e2 f3;refine⟨_,rfl,x,C,dx,_,rfl,(by rw[upd_ne (ne_of_none x2 f3)];exact x2),R.cl,R.n3,(by show 2<1000;decide),?_⟩
  obtain⟨z3,n3,k3,x3,e3,o3⟩:=one (fs':=putF "free_ones" (.ref d3) (putF "kept_laps" (.ref d2) (putF "in_use" (.ref d1) []))) k2 x2 f3;generalize upd (upd H2 d3 (.dK [])) x _=H3 at *;replace e1:=(o3 d1 n1 m31).trans e1;replace e2:=(o3 d2 n2 m32).trans e2;intro d4 f4;have m41:d1≠d4:=ne_of_none e1 f4;have m42:d2≠d4:=ne_of_none e2 f4;have m43:d3≠d4:=ne_of_none e3 f4
  refine⟨_,rfl,x,C,dx,_,rfl,(by rw[upd_ne (ne_of_none x3 f4)];exact x3),R.cl,R.n4,(by show 3<1000;decide),?_⟩;obtain⟨z4,n4,k4,x4,e4,o4⟩:=one (fs':=putF "call_laps" (.ref d4) (putF "free_ones" (.ref d3) (putF "kept_laps" (.ref d2) (putF "in_use" (.ref d1) [])))) k3 x3 f4;generalize upd (upd H3 d4 (.dK [])) x _=H4 at *;replace e1:=(o4 d1 n1 m41).trans e1;replace e2:=(o4 d2 n2 m42).trans e2
  replace e3:=(o4 d3 n3 m43).trans e3;refine⟨_,rfl,x,C,dx,_,rfl,x4,R.cl,R.n5,(by show 4<1000;decide),?_⟩;refine q d1 d2 d3 d4 _ z1 z2 z3 z4 ⟨upd_same,by rw[upd_ne n1];exact e1,by rw[upd_ne n2];exact e2,by rw[upd_ne n3];exact e3,by rw[upd_ne n4];exact e4,?_⟩ (k4.upd (by simp));simp[m21,m31,m32,m41,m42,m43]
inductive spMany (C:Addr)(vs:List V)(H:Hp)(Q:VK)(E:XK):Prop
 | mk (x dx du dk df dc:Addr)(S:RS):vs=[.ref x]->IsR C x dx du dk df dc H S->Q (.int (S.places.length:Nat)) H->spMany C vs H Q E
theorem ok_many:Mt F c.R F.r.R_many_places 1 (spMany c.R):=by
 obtain⟨f,fd,R⟩:=F.RX;refine F.r.R_many_places.go R.m fun sc H Q hr h=>?_;obtain⟨x,dx,du,dk,df,dc,S,rfl,r,q⟩:=h;refine⟨_,(pss_one (ps_ret (pe_op op_add (pe_op op_add (pe_callB call_lenD rfl F.r.T.n_len bt_len (pa1 (pe_fld (pv 0) rfl))) (pe_callB call_lenD rfl F.r.T.n_len bt_len (pa1 (pe_fld (pv 0) rfl)))) (pe_callB call_lenD rfl F.r.T.n_len bt_len (pa1 (pe_fld (pv 0) rfl)))))),?_⟩
 refine⟨_,rfl,x,c.R,dx,_,_,rfl,r.x,R.cl,R.n1,rfl,du,_,rfl,r.u,_,rfl,x,c.R,dx,_,_,rfl,r.x,R.cl,R.n2,rfl,dk,_,rfl,r.k,_,_,rfl,rfl,_,rfl,x,c.R,dx,_,_,rfl,r.x,R.cl,R.n3,rfl,df,_,rfl,r.f,_,_,rfl,rfl,?_⟩;rw[kT_len,kL_len,kT_len]
 have e:((S.places.length:Nat):Int)=(S.us.length:Int)+(S.ks.length:Int)+(S.fs.length:Int):=by
  unfold RS.places;simp only[List.length_append,List.length_map];omega
 rw[e] at q;exact q
inductive spLap (C:Addr)(vs:List V)(H:Hp)(Q:VK)(E:XK):Prop
 | mk (x dx du dk df dc:Addr)(S:RS):vs=[.ref x]->IsR C x dx du dk df dc H S->Q (.int S.lap) H->spLap C vs H Q E
theorem ok_lap:Mt F c.R F.r.R_lap 1 (spLap c.R):=by
 obtain⟨f,fd,R⟩:=F.RX;refine F.r.R_lap.go R.m fun sc H Q hr h=>?_;obtain⟨x,dx,du,dk,df,dc,S,rfl,r,q⟩:=h;exact⟨_,(pss_one (ps_ret (pe_fld (pv 0) rfl))),_,rfl,x,c.R,dx,_,_,rfl,r.x,R.cl,R.n5,rfl,q⟩
inductive spSorted (C:Addr)(fr:Bool)(vs:List V)(H:Hp)(Q:VK)(E:XK):Prop
 | mk (x dx du dk df dc:Addr)(S:RS):vs=[.ref x]->IsR C x dx du dk df dc H S->(if fr then S.fs else S.us).length<64->(∀ns:List Int,ns.Perm (if fr then S.fs else S.us)->ns.Pairwise (· <= ·)->∀l,H l=none->Q (.ref l) (upd H l (.lst (ns.map V.int))))->spSorted C fr vs H Q E
theorem ok_used:Mt F c.R F.r.R_used 1 (spSorted c.R false):=by
 obtain⟨f,fd,R⟩:=F.RX;refine F.r.R_used.go R.m fun sc H Q hr h=>?_;obtain⟨x,dx,du,dk,df,dc,S,rfl,r,hl,q⟩:=h;exact⟨_,(pss_one (ps_ret (pe_callB (call_sortD (hr.hd rfl)) rfl F.r.T.n_sorted bt_sorted (pa1 (pe_fld (pv 0) rfl))))),_,rfl,x,c.R,dx,_,_,rfl,r.x,R.cl,R.n1,rfl,du,_,S.us,rfl,.inl r.u,kT_keys _,hl,q⟩
theorem ok_free:Mt F c.R F.r.R_free 1 (spSorted c.R true):=by
 obtain⟨f,fd,R⟩:=F.RX;refine F.r.R_free.go R.m fun sc H Q hr h=>?_;obtain⟨x,dx,du,dk,df,dc,S,rfl,r,hl,q⟩:=h;exact⟨_,(pss_one (ps_ret (pe_callB (call_sortD (hr.hd rfl)) rfl F.r.T.n_sorted bt_sorted (pa1 (pe_fld (pv 0) rfl))))),_,rfl,x,c.R,dx,_,_,rfl,r.x,R.cl,R.n3,rfl,df,_,S.fs,rfl,.inl r.f,kT_keys _,hl,q⟩
inductive spPairs (C:Addr)(gs:Bool)(vs:List V)(H:Hp)(Q:VK)(E:XK):Prop
 | mk (x dx du dk df dc:Addr)(S:RS):vs=[.ref x]->IsR C x dx du dk df dc H S->(∀l (ts:List Addr) H',H l=none->Same H H'->H' l=some (.lst (ts.map V.ref))->Tups H' ts (if gs then S.cs else S.ks)->Q (.ref l) H')->spPairs C gs vs H Q E
theorem tups_of {H H':Hp}{ts:List Addr}{ps}(ln:ts.length=(kL ps).length)(h:∀(j:Nat) t k x,ts[j]?=some t->(kL ps)[j]?=some (k,x)->H' t=some (.tup [kV k,x])/\H t=none):Tups H' ts ps:=
 ⟨by rw[ln,kL_len],fun j t x a b=>(h j t _ _ a (kL_at b)).1⟩
theorem ok_kept:Mt F c.R F.r.R_kept 1 (spPairs c.R false):=by
 obtain⟨f,fd,R⟩:=F.RX;refine F.r.R_kept.go R.m fun sc H Q hr h=>?_;obtain⟨x,dx,du,dk,df,dc,S,rfl,r,q⟩:=h;refine⟨_,(pss_one (ps_ret (pe_callTy (call_listI (hr.hd rfl)) rfl F.r.T.n_list bt_list (pa_c (pe_items (pe_fld (pv 0) rfl)) pa_nil)))),?_⟩
 refine⟨_,rfl,x,c.R,dx,_,_,rfl,r.x,R.cl,R.n2,rfl,dk,_,rfl,r.k,fun v fv=>⟨v,dk,_,rfl,upd_same,.inl (by rw[upd_ne (ne_of_none r.k fv)];exact r.k),fun l ts H' fl S' el ln tt=>?_⟩⟩;have S1:=Same.upd (o:=ViewI v dk) fv;exact q l ts H' (S1.free fl) (S1.trans S') el (tups_of ln tt)
theorem ok_going:Mt F c.R F.r.R_going 1 (spPairs c.R true):=by
 obtain⟨f,fd,R⟩:=F.RX;refine F.r.R_going.go R.m fun sc H Q hr h=>?_;obtain⟨x,dx,du,dk,df,dc,S,rfl,r,q⟩:=h;refine⟨_,(pss_one (ps_ret (pe_callTy (call_listI (hr.hd rfl)) rfl F.r.T.n_list bt_list (pa_c (pe_items (pe_fld (pv 0) rfl)) pa_nil)))),?_⟩
 refine⟨_,rfl,x,c.R,dx,_,_,rfl,r.x,R.cl,R.n4,rfl,dc,_,rfl,r.c,fun v fv=>⟨v,dc,_,rfl,upd_same,.inl (by rw[upd_ne (ne_of_none r.c fv)];exact r.c),fun l ts H' fl S' el ln tt=>?_⟩⟩;have S1:=Same.upd (o:=ViewI v dc) fv;exact q l ts H' (S1.free fl) (S1.trans S') el (tups_of ln tt)
inductive spIsU (C:Addr)(vs:List V)(H:Hp)(Q:VK)(E:XK):Prop
 | mk (x dx du dk df dc:Addr)(S:RS)(p:Int):vs=[.ref x,.int p]->IsR C x dx du dk df dc H S->S.Ok->Q (.bl (decide (p∈S.us))) H->spIsU C vs H Q E
theorem ok_isU:Mt F c.R F.r.R_is_used 3 (spIsU c.R):=by
 obtain⟨f,fd,R⟩:=F.RX;refine F.r.R_is_used.go R.m fun sc H Q hr h=>?_;obtain⟨x,dx,du,dk,df,dc,S,p,rfl,r,ok,q⟩:=h;refine⟨_,(pss_one (ps_ret (pe_and (pe_d (ok_is_place F) hr (pa1 (pv 1))) (pe_one (pe_cmpR (op_inD (hu_of hr)) (pv 1) (pe_fld (pv 0) rfl) (by with_unfolding_all rfl)))))),?_⟩;refine⟨_,rfl,p,rfl,_,rfl,?_⟩;show if decide (0<=p)=true then _ else _
 by_cases h0:0<=p
 ·refine iteE (c:=true) (decide_eq_true h0) (iteT ⟨_,rfl,_,rfl,x,c.R,dx,_,_,rfl,r.x,R.cl,R.n1,rfl,du,_,rfl,DGet.k (k:=Sum.inl p) r.u,?_⟩);rw[kT_val];exact q
 ·refine iteE (c:=false) (decide_eq_false h0) (iteF ?_);have n:p∉S.us:=fun hm=>h0 (ok.rg p (by unfold RS.places;rw[List.append_assoc];exact List.mem_append_left _ hm)).1;rw[decide_eq_false n] at q;exact q
inductive spIsK (C:Addr)(vs:List V)(H:Hp)(Q:VK)(E:XK):Prop
 | mk (x dx du dk df dc:Addr)(S:RS)(p:Int):vs=[.ref x,.int p]->IsR C x dx du dk df dc H S->S.Ok->Q (.bl (decide (p∈S.ks.map (·.1)))) H->spIsK C vs H Q E
theorem ok_isKp:Mt F c.R F.r.R_is_kept 3 (spIsK c.R):=by
 obtain⟨f,fd,R⟩:=F.RX;refine F.r.R_is_kept.go R.m fun sc H Q hr h=>?_;obtain⟨x,dx,du,dk,df,dc,S,p,rfl,r,ok,q⟩:=h;refine⟨_,(pss_one (ps_ret (pe_and (pe_d (ok_is_place F) hr (pa1 (pv 1))) (pe_one (pe_cmpR (op_inD (hu_of hr)) (pv 1) (pe_fld (pv 0) rfl) (by with_unfolding_all rfl)))))),?_⟩;refine⟨_,rfl,p,rfl,_,rfl,?_⟩;show if decide (0<=p)=true then _ else _
 by_cases h0:0<=p
 ·refine iteE (c:=true) (decide_eq_true h0) (iteT ⟨_,rfl,_,rfl,x,c.R,dx,_,_,rfl,r.x,R.cl,R.n2,rfl,dk,_,rfl,DGet.k (k:=Sum.inl p) r.k,?_⟩);rw[kL_val];exact q
 ·refine iteE (c:=false) (decide_eq_false h0) (iteF ?_);have n:p∉S.ks.map (·.1):=fun hm=>h0 (ok.rg p (by unfold RS.places;exact List.mem_append_left _ (List.mem_append_right _ hm))).1;rw[decide_eq_false n] at q;exact q
inductive spPast (C:Addr)(vs:List V)(H:Hp)(Q:VK)(E:XK):Prop
 | mk (x dx du dk df dc:Addr)(lp l:Int)(cs:List (Int×Int)):vs=[.ref x,.int l]->H x=some (.ins C dx [("in_use",.ref du),("kept_laps",.ref dk),("free_ones",.ref df),("call_laps",.ref dc),("lap_now",.int lp)])->H dc=some (.dK (kL cs))->cs.length<=1000->(∀H',Same H H'->Q (.bl (pastL cs l)) H')->spPast C vs H Q E
theorem ok_past:Mt F c.R F.r.R_is_past 1 (spPast c.R):=by
 obtain⟨f,fd,R⟩:=F.RX;refine F.r.R_is_past.go R.m fun sc H Q hr h=>?_;obtain⟨x,dx,du,dk,df,dc,lp,l,cs,rfl,hx,hc,few,q⟩:=h;refine'⟨_,(pss_one (ps_ret (pe_callB (call_allB (hr.hd rfl)) rfl F.r.T.n_all bt_all (pa1 (pe_thaw (pe_comp (blk_mk ["lap"] [1]) rfl (pi_vals (pe_fld (pv 0) rfl)) (fun _ _ _ _ _=>PTs.nil) (fun _ _ _ _ _=>(pe_cmpR op_gt (pv 0) (pv 1) (nomark _))))))))),?_⟩
 refine tret1 (tcb1 (comp_vals (fun R' r=>⟨_,rfl,x,c.R,dx,_,_,rfl,hx,R.cl,R.n4,rfl,r⟩) hc few (fun z=>.bl (decide (l<z))) (fun c _ H2 R' _ r=>⟨_,rfl,_,rfl,_,_,rfl,rfl,r H2 (Same.refl _)⟩) fun d H2 fl S2 e2=>?_));refine⟨d,cs.map (fun c=>decide (l<c.2)),rfl,by rw[e2,List.map_map];rfl,?_⟩;have e:(cs.map fun c=>decide (l<c.2)).all id=pastL cs l:=by unfold pastL;rw[List.all_map];rfl
 rw[e];exact q _ S2
inductive spRel (C:Addr)(vs:List V)(H:Hp)(Q:VK)(E:XK):Prop
 | mk (x dx du dk df dc:Addr)(S:RS):vs=[.ref x]->IsR C x dx du dk df dc H S->S.Ok->S.places.length<=500->S.cs.length<=500->(∀H',IsR C x dx du dk df dc H' S.rel->Keep [dk,df] H H'->Q .non H')->spRel C vs H Q E
theorem ok_rel:Mt F c.R F.r.R_release 3 (spRel c.R):=by
 obtain⟨f,fd,R⟩:=F.RX;have C_Rounds:=R.cl;refine F.r.R_release.ok (N:=["self","past","place"]) R.m fun sc H Q hr h=>?_;obtain⟨x,dx,du,dk,df,dc,S,rfl,r,ok,few,fewc,q⟩:=h;have big:=big1000;have nd:=r.nd;simp only[List.nodup_cons,List.mem_cons,List.not_mem_nil,or_false,not_or] at nd;obtain⟨⟨n1,n2,n3⟩,⟨n4,n5⟩,n6,_⟩:=nd
 have lk:S.ks.length<=500:=by
  unfold RS.places at few;simp only[List.length_append,List.length_map] at few;omega
 have lf:S.fs.length+S.ks.length<=500:=by
  unfold RS.places at few;simp only[List.length_append,List.length_map] at few;omega
 refine'⟨_,(pss_cons (ps_thaw (ps_setComp22 (i:=1) (blk_mk ["self"] [0]) rfl (pi_items (pe_fld (pv 0) rfl)) (fun _ _ _ _ _=>(PTs.one (pt_val (pe_m (pv 2) C_Rounds (ok_past F) hr (pa1 (pv 1)))))) (fun _ _ _ _ _=>(pv 0)) sc.nd rfl rfl))
  (pss_one (ps_for PassesOwn.never rfl (pi_list (pv 1)) (pg_v sc 2)
   (pss_cons (ps_expr (pe_dpop1 (pe_fld (pv 0) rfl) (pv 2) ⟨rfl,rfl,rfl,rfl⟩))
  (pss_one (ps_dput (hu_of hr) (pe_fld (pv 0) rfl) (pv 2) pe_bl rfl)))))),?_⟩
 refine tseq1 (tsth1 (comp_items (fun R' z=>⟨_,rfl,x,c.R,dx,_,_,rfl,r.x,R.cl,R.n2,rfl,z⟩) r.k (by omega) (fun k=>pastL S.cs k.2) (fun k=>.int k.1) ?hc ?he fun D H1 fD S1 eD=>?_))
 case hc=>
  intro k hk H2 R' kb z;have hx2:=kb _ _ r.x (ne_of r.x r.k (fun z=>nomatch z));refine⟨_,rfl,x,dx,_,rfl,hx2,rfl,_,rfl,?_⟩;dsimp only[tNil,List.append_nil];exact⟨x,dx,du,dk,df,dc,S.lap,k.2,S.cs,rfl,hx2,kb _ _ r.c (Ne.symm n5),by omega,fun H3 S3=>⟨_,rfl,z H3 S3⟩⟩
 case he=>exact fun k hk _ H2 R' kb z=>⟨_,rfl,z H2 (Same.refl _)⟩
 have eD':H1 D=some (.lst (S.moved.map V.int)):=by rw[eD];unfold RS.moved;rw[List.map_map];rfl
 have r1:=r.same S1;have nDk:D≠dk:=(ne_of_none r.k fD).symm;have nDf:D≠df:=(ne_of_none r.f fD).symm;dsimp only[gName,tNext]
 refine⟨_,rfl,D,rfl,⟨_,SqL.of eD'⟩,for_list (xs:=S.moved.map V.int) (fun i σ H2=>(∃o2,σ=[some (.ref x),some (.ref D),o2])/\IsR c.R x dx du dk df dc H2 { S with ks:=S.ks.filter (fun k=>decide (k.1∉S.moved.take i)),fs:=S.fs++S.moved.take i }/\Keep [dk,df] H H2/\H2 D=some (.lst (S.moved.map V.int))) ⟨⟨_,rfl⟩,⟨r1.x,r1.u,?_,?_,r1.c,r1.nd⟩,Same.keep S1,eD'⟩ (fun i σ H2 _ ⟨_,_,_,e⟩=>SqL.of e) ?_ ?_⟩
 ·rw[List.take_zero,List.filter_eq_self.mpr (fun k _=>decide_eq_true (by simp))];exact r1.k
 ·rw[List.take_zero,List.append_nil];exact r1.f
 ·rintro i v σ H2 hi ⟨⟨o2,rfl⟩,r2,k2,e2⟩;rw[List.getElem?_map] at hi;obtain⟨m,hm,rfl⟩:=Option.map_eq_some_iff.mp hi;have mk:m∈S.ks.map (·.1):=S.moved_sub (List.mem_of_getElem? hm);have nt:=not_take ok.mvn hm
  have mi:m∈(S.ks.filter fun k=>decide (k.1∉S.moved.take i)).map (·.1):=by
   obtain⟨k,hk,rfl⟩:=List.mem_map.mp mk;exact List.mem_map.mpr ⟨k,List.mem_filter.mpr ⟨hk,decide_eq_true nt⟩,rfl⟩
  obtain⟨v,ev⟩:=kL_some mi;refine⟨_,rfl,x,c.R,dx,_,_,rfl,r2.x,R.cl,R.n2,rfl,dk,rfl,.inl ⟨_,.inl r2.k⟩,_,rfl,_,Sum.inl m,v,r2.k,rfl,ev,?_⟩;rw[kL_drop,filter_take hm];have nxk:x≠dk:=ne_of r2.x r2.k (fun z=>nomatch z);have nxf:x≠df:=ne_of r2.x r2.f (fun z=>nomatch z)
  have hf3:upd H2 dk (.dK (kL (S.ks.filter fun k=>decide (k.1∉S.moved.take (i+1))))) df=some (.dK (kT (S.fs++S.moved.take i))):=by rw[upd_ne (Ne.symm n4)];exact r2.f
  have hx3:upd H2 dk (.dK (kL (S.ks.filter fun k=>decide (k.1∉S.moved.take (i+1))))) x=some (.ins c.R dx [("in_use",.ref du),("kept_laps",.ref dk),("free_ones",.ref df),("call_laps",.ref dc),("lap_now",.int S.lap)]):=by rw[upd_ne nxk];exact r2.x
  have ml:S.moved.length<=S.ks.length:=by unfold RS.moved;rw[List.length_map];exact List.length_filter_le _ _
  refine⟨_,rfl,x,c.R,dx,_,_,rfl,hx3,R.cl,R.n3,rfl,_,rfl,df,_,rfl,DPut.k (k:=Sum.inl m) hf3 (by rw[kT_len,List.length_append,List.length_take];omega),?_⟩
  have nf:m∉S.fs++S.moved.take i:=fun z=>by
   rcases List.mem_append.mp z with z|z
   ·exact ok.kf mk z
   ·exact nt z
  rw[kT_put nf];have ta:S.fs++S.moved.take i++[m]=S.fs++S.moved.take (i+1):=by rw[List.append_assoc,List.take_add_one,hm];rfl
  rw[ta];refine⟨⟨_,rfl⟩,⟨by rw[upd_ne nxf];exact hx3,by rw[upd_ne n2,upd_ne n1];exact r2.u,by rw[upd_ne n4,upd_same],upd_same,by rw[upd_ne (Ne.symm n6),upd_ne (Ne.symm n5)];exact r2.c,r2.nd⟩,(k2.upd (by simp)).upd (by simp),by rw[upd_ne nDf,upd_ne nDk];exact e2⟩
 ·rintro σ H2 ⟨⟨o2,rfl⟩,r2,k2,e2⟩;refine q H2 ?_ k2;rw[List.length_map,List.take_length,ok.stay] at r2;exact r2
inductive spGiven (C:Addr)(vs:List V)(H:Hp)(Q:VK)(E:XK):Prop
 | mk (x dx du dk df dc:Addr)(S:RS):vs=[.ref x]->IsR C x dx du dk df dc H S->S.Ok->S.places.length<=500->(∀(p:Int) H',(S.fs=[]/\p=(S.places.length:Nat)\/p∈S.fs/\∀n∈S.fs,p<=n)->IsR C x dx du dk df dc H' (S.take p)->Keep [du,df] H H'->Q (.int p) H')->spGiven C vs H Q E
theorem ok_given:Mt F c.R F.r.R_given 3 (spGiven c.R):=by
 obtain⟨f,fd,R⟩:=F.RX;have C_Rounds:=R.cl;refine F.r.R_given.go R.m fun sc H Q hr h=>?_;obtain⟨x,dx,du,dk,df,dc,S,rfl,r,ok,few,q⟩:=h;have big:=big1000;have nd:=r.nd;simp only[List.nodup_cons,List.mem_cons,List.not_mem_nil,or_false,not_or] at nd;obtain⟨⟨n1,n2,n3⟩,⟨n4,n5⟩,n6,_⟩:=nd
 have lu:S.us.length<=500:=by
  unfold RS.places at few;simp only[List.length_append,List.length_map] at few;omega
 refine'⟨_,(pss_cons (ps_v sc 1 (pe_m0 (pv 0) C_Rounds (ok_many F) hr))
  (pss_cons (ps_if (pt_truth (pe_fld (pv 0) rfl) (fun _=>rfl))
   (pss_cons (ps_v sc 1 (pe_callB (call_minD (hr.hd rfl)) rfl F.r.T.n_min bt_min (pa1 (pe_fld (pv 0) rfl))))
  (pss_one (ps_expr (pe_dpop1 (pe_fld (pv 0) rfl) (pv 1) ⟨rfl,rfl,rfl,rfl⟩))))
   pss_nil)
  (pss_cons (ps_dput (hu_of hr) (pe_fld (pv 0) rfl) (pv 1) pe_bl rfl)
  (pss_one (ps_ret (pv 1)))))),?_⟩
 refine⟨_,rfl,x,dx,_,rfl,r.x,rfl,x,dx,du,dk,df,dc,S,rfl,r,?_⟩;dsimp only[gName,tNext];have nxu:x≠du:=ne_of r.x r.u (fun z=>nomatch z);have nxf:x≠df:=ne_of r.x r.f (fun z=>nomatch z)
 refine seq2 (fun σ H1=>∃p:Int,σ=[some (.ref x),some (.int p)]/\(S.fs=[]/\p=(S.places.length:Nat)\/p∈S.fs/\∀n∈S.fs,p<=n)/\IsR c.R x dx du dk df dc H1 { S with fs:=S.fs.filter fun n=>decide (n≠p) }/\Keep [du,df] H H1) ?s1 ?r1
 case s1=>
  intro N z;refine⟨_,rfl,x,c.R,dx,_,_,rfl,r.x,R.cl,R.n3,rfl,_,.inr (.inr ⟨_,r.f,rfl⟩),?_⟩;by_cases he:S.fs=[]
  ·refine iteE (c:=false) (by rw[he];rfl) (iteF (z _ _ ⟨_,rfl,.inl ⟨he,rfl⟩,?_,Keep.refl⟩));have e2:(S.fs.filter fun n=>decide (n≠((S.places.length:Nat):Int)))=S.fs:=by rw[he];rfl
   rw[e2];exact r
  ·refine iteE (c:=true) ?_ (iteT ?_)
   ·cases hc:S.fs with
    | nil=>exact absurd hc he
    | cons a as=>rfl
   refine⟨_,rfl,x,c.R,dx,_,_,rfl,r.x,R.cl,R.n3,rfl,df,_,S.fs,rfl,.inl r.f,kT_keys _,he,fun m hm mn=>?_⟩;dsimp only[gName,tNext];obtain⟨v,ev⟩:=kT_some hm;refine⟨_,rfl,x,c.R,dx,_,_,rfl,r.x,R.cl,R.n3,rfl,df,rfl,.inl ⟨_,.inl r.f⟩,_,rfl,_,Sum.inl m,v,r.f,rfl,ev,?_⟩;rw[kT_drop]
   exact z _ _ ⟨m,rfl,.inr ⟨hm,mn⟩,⟨by rw[upd_ne nxf];exact r.x,by rw[upd_ne n2];exact r.u,by rw[upd_ne n4];exact r.k,upd_same,by rw[upd_ne (Ne.symm n6)];exact r.c,r.nd⟩,Keep.refl.upd (by simp)⟩
 case r1=>
 rintro _ H1 ⟨p,rfl,hp,r1,k1⟩
 have np:p∉S.us:=fun hu=>by
  rcases hp with⟨_,rfl⟩|⟨h1,_⟩
  ·have:=(ok.rg _ (by unfold RS.places;rw[List.append_assoc];exact List.mem_append_left _ hu)).2;omega
  ·exact ok.uf hu h1
 refine⟨_,rfl,x,c.R,dx,_,_,rfl,r1.x,R.cl,R.n1,rfl,_,rfl,du,_,rfl,DPut.k (k:=Sum.inl p) r1.u (by rw[kT_len];show S.us.length<_;omega),?_⟩;have e3:putK (kT S.us) (Sum.inl p) (V.bl true)=kT (S.us++[p]):=kT_put np
 refine⟨_,rfl,q p _ hp ⟨by rw[upd_ne nxu];exact r1.x,by rw[upd_same];exact congrArg (fun z=>some (HO.dK z)) e3,by rw[upd_ne (Ne.symm n1)];exact r1.k,by rw[upd_ne (Ne.symm n2)];exact r1.f,by rw[upd_ne (Ne.symm n3)];exact r1.c,r1.nd⟩ (k1.upd (by simp))⟩
theorem RS.gone_len {S:RS}(o:S.Ok){p:Int}(h:p∈S.us):(S.gone p).places.length=S.places.length:=(RS.gone_perm o h).length_eq
inductive spWent (C:Addr)(vs:List V)(H:Hp)(Q:VK)(E:XK):Prop
 | mk (x dx du dk df dc:Addr)(S:RS)(p:Int):vs=[.ref x,.int p]->IsR C x dx du dk df dc H S->S.Ok->S.places.length<=500->S.cs.length<=500->p∈S.us->(∀H',IsR C x dx du dk df dc H' (S.gone p).rel->Keep [x,du,dk,df] H H'->Q .non H')->spWent C vs H Q E
theorem ok_went:Mt F c.R F.r.R_went 5 (spWent c.R):=by
 obtain⟨f,fd,R⟩:=F.RX;have C_Rounds:=R.cl;refine F.r.R_went.go R.m fun sc H Q hr h=>?_;obtain⟨x,dx,du,dk,df,dc,S,p,rfl,r,ok,few,fewc,hp,q1⟩:=h;have big:=big1000;have nd:=r.nd;simp only[List.nodup_cons,List.mem_cons,List.not_mem_nil,or_false,not_or] at nd;obtain⟨⟨n1,n2,n3⟩,⟨n4,n5⟩,n6,_⟩:=nd
 have lk:S.ks.length<=500:=by
  unfold RS.places at few;simp only[List.length_append,List.length_map] at few;omega
 refine'⟨_,(pss_cons (ps_if (pt_not (pt_val (pe_m (pv 0) C_Rounds (ok_isU F) hr (pa1 (pv 1)))))
   (pss_one ps_never)
   pss_nil)
  (pss_cons (ps_expr (pe_dpop1 (pe_fld (pv 0) rfl) (pv 1) ⟨rfl,rfl,rfl,rfl⟩))
  (pss_cons (ps_dput (hu_of hr) (pe_fld (pv 0) rfl) (pv 1) (pe_fld (pv 0) rfl) rfl)
  (pss_cons (ps_fldaug (pv 0) pe_int in_add)
  (pss_one (ps_expr (pe_m0 (pv 0) C_Rounds (ok_rel F) hr))))))),?_⟩
 refine⟨_,rfl,x,dx,_,rfl,r.x,rfl,_,rfl,?_⟩;dsimp only[tNil,List.append_nil];refine⟨x,dx,du,dk,df,dc,S,p,rfl,r,ok,_,rfl,?_⟩
 ·rw[decide_eq_true hp];refine iteF ?_;obtain⟨v,ev⟩:=kT_some hp;refine⟨_,rfl,x,c.R,dx,_,_,rfl,r.x,R.cl,R.n1,rfl,du,rfl,.inl ⟨_,.inl r.u⟩,_,rfl,_,Sum.inl p,v,r.u,rfl,ev,?_⟩;rw[kT_drop];have nxu:x≠du:=ne_of r.x r.u (fun z=>nomatch z);have nxk:x≠dk:=ne_of r.x r.k (fun z=>nomatch z)
  have hx1:upd H du (.dK (kT (S.us.filter fun n=>decide (n≠p)))) x=some (.ins c.R dx [("in_use",.ref du),("kept_laps",.ref dk),("free_ones",.ref df),("call_laps",.ref dc),("lap_now",.int S.lap)]):=by rw[upd_ne nxu];exact r.x
  have hu1:=upd_same (H:=H) (a:=du) (o:=.dK (kT (S.us.filter fun n=>decide (n≠p))));have hk1:upd H du (.dK (kT (S.us.filter fun n=>decide (n≠p)))) dk=some (.dK (kL S.ks)):=by rw[upd_ne (Ne.symm n1)];exact r.k
  have hf1:upd H du (.dK (kT (S.us.filter fun n=>decide (n≠p)))) df=some (.dK (kT S.fs)):=by rw[upd_ne (Ne.symm n2)];exact r.f
  have hc1:upd H du (.dK (kT (S.us.filter fun n=>decide (n≠p)))) dc=some (.dK (kL S.cs)):=by rw[upd_ne (Ne.symm n3)];exact r.c
  have k1:Keep [x,du,dk,df] H (upd H du (.dK (kT (S.us.filter fun n=>decide (n≠p))))):=Keep.refl.upd (by simp);generalize upd H du _=H1 at *;refine⟨_,rfl,x,c.R,dx,_,_,rfl,hx1,R.cl,R.n5,rfl,_,rfl,x,c.R,dx,_,_,rfl,hx1,R.cl,R.n2,rfl,_,rfl,dk,_,rfl,DPut.k (k:=Sum.inl p) hk1 (by rw[kL_len];omega),?_⟩;rw[kL_put (ok.uk hp)]
  have hx2:upd H1 dk (.dK (kL (S.ks++[(p,S.lap)]))) x=some (.ins c.R dx [("in_use",.ref du),("kept_laps",.ref dk),("free_ones",.ref df),("call_laps",.ref dc),("lap_now",.int S.lap)]):=by rw[upd_ne nxk];exact hx1
  have hk2:=upd_same (H:=H1) (a:=dk) (o:=.dK (kL (S.ks++[(p,S.lap)])));have hu2:upd H1 dk (.dK (kL (S.ks++[(p,S.lap)]))) du=some (.dK (kT (S.us.filter fun n=>decide (n≠p)))):=by rw[upd_ne n1];exact hu1
  have hf2:upd H1 dk (.dK (kL (S.ks++[(p,S.lap)]))) df=some (.dK (kT S.fs)):=by rw[upd_ne (Ne.symm n4)];exact hf1
  have hc2:upd H1 dk (.dK (kL (S.ks++[(p,S.lap)]))) dc=some (.dK (kL S.cs)):=by rw[upd_ne (Ne.symm n5)];exact hc1
  have k2:Keep [x,du,dk,df] H (upd H1 dk (.dK (kL (S.ks++[(p,S.lap)])))):=k1.upd (by simp);generalize upd H1 dk _=H2 at *;refine⟨_,rfl,x,c.R,dx,_,_,rfl,hx2,R.cl,R.n5,rfl,_,_,rfl,rfl,dx,_,hx2,(by show 5<1000;decide),?_⟩;have nux:du≠x:=Ne.symm nxu;have nkx:dk≠x:=Ne.symm nxk;have nfx:df≠x:=(ne_of hx2 hf2 (fun z=>nomatch z)).symm;have ncx:dc≠x:=(ne_of hx2 hc2 (fun z=>nomatch z)).symm
  have r3:IsR c.R x dx du dk df dc (upd H2 x (.ins c.R dx (putF "lap_now" (.int (S.lap+1)) [("in_use",.ref du),("kept_laps",.ref dk),("free_ones",.ref df),("call_laps",.ref dc),("lap_now",.int S.lap)]))) (S.gone p):=
   ⟨upd_same,by rw[upd_ne nux];exact hu2,by rw[upd_ne nkx];exact hk2,by rw[upd_ne nfx];exact hf2,by rw[upd_ne ncx];exact hc2,r.nd⟩
  have k3:Keep [x,du,dk,df] H (upd H2 x (.ins c.R dx (putF "lap_now" (.int (S.lap+1)) [("in_use",.ref du),("kept_laps",.ref dk),("free_ones",.ref df),("call_laps",.ref dc),("lap_now",.int S.lap)]))):=k2.upd (by simp);generalize upd H2 x _=H3 at *;refine⟨_,rfl,x,dx,_,rfl,r3.x,rfl,x,dx,du,dk,df,dc,S.gone p,rfl,r3,ok.gone hp,by rw[RS.gone_len ok hp];exact few,fewc,fun H4 r4 k4=>?_⟩
  exact q1 H4 r4 (k3.trans (k4.mono (by simp)))
inductive spEnter (C:Addr)(vs:List V)(H:Hp)(Q:VK)(E:XK):Prop
 | mk (x dx du dk df dc:Addr)(S:RS)(n:Int):vs=[.ref x,.int n]->IsR C x dx du dk df dc H S->S.cs.length<=500->0<=n->n<=1000000->n∉S.cs.map (·.1)->(∀H',IsR C x dx du dk df dc H' (S.come n)->Keep [dc] H H'->Q .non H')->spEnter C vs H Q E
theorem ok_enter:Mt F c.R F.r.R_enter 6 (spEnter c.R):=by
 obtain⟨f,fd,R⟩:=F.RX;refine F.r.R_enter.go R.m fun sc H Q hr h=>?_;obtain⟨x,dx,du,dk,df,dc,S,n,rfl,r,few,b1,b2,hm,q⟩:=h;have big:=big1000;have nd:=r.nd;simp only[List.nodup_cons,List.mem_cons,List.not_mem_nil,or_false,not_or] at nd;obtain⟨⟨n1,n2,n3⟩,⟨n4,n5⟩,n6,_⟩:=nd
 refine'⟨_,(pss_cons (ps_if (pt_not (pt_val (pe_d (ok_is_doer F) hr (pa1 (pv 1)))))
   (pss_one ps_never)
   pss_nil)
  (pss_cons (ps_if (pt_cmpR (op_inD (hu_of hr)) (pv 1) (pe_fld (pv 0) rfl) (by with_unfolding_all rfl))
   (pss_one ps_never)
   pss_nil)
  (pss_one (ps_dput (hu_of hr) (pe_fld (pv 0) rfl) (pv 1) (pe_fld (pv 0) rfl) rfl)))),?_⟩
 refine⟨_,rfl,n,rfl,_,rfl,?_⟩;rw[inR_t b1 b2];refine iteF ⟨_,rfl,_,rfl,x,c.R,dx,_,_,rfl,r.x,R.cl,R.n4,rfl,dc,_,rfl,DGet.k (k:=Sum.inl n) r.c,_,rfl,?_⟩;rw[kL_val,decide_eq_false hm];refine iteF ⟨_,rfl,x,c.R,dx,_,_,rfl,r.x,R.cl,R.n5,rfl,_,rfl,x,c.R,dx,_,_,rfl,r.x,R.cl,R.n4,rfl,_,rfl,dc,_,rfl,DPut.k (k:=Sum.inl n) r.c (by rw[kL_len];omega),?_⟩;rw[kL_put hm]
 exact q _ ⟨by rw[upd_ne (ne_of r.x r.c (fun z=>nomatch z))];exact r.x,by rw[upd_ne n3];exact r.u,by rw[upd_ne n5];exact r.k,by rw[upd_ne n6];exact r.f,upd_same,r.nd⟩ (Keep.refl.upd (by simp))
inductive spLeave (C:Addr)(vs:List V)(H:Hp)(Q:VK)(E:XK):Prop
 | mk (x dx du dk df dc:Addr)(S:RS)(n:Int):vs=[.ref x,.int n]->IsR C x dx du dk df dc H S->S.Ok->S.places.length<=500->S.cs.length<=500->n∈S.cs.map (·.1)->(∀H',IsR C x dx du dk df dc H' (S.left n).rel->Keep [dk,df,dc] H H'->Q .non H')->spLeave C vs H Q E
theorem ok_leave:Mt F c.R F.r.R_leave 6 (spLeave c.R):=by
 obtain⟨f,fd,R⟩:=F.RX;have C_Rounds:=R.cl;refine F.r.R_leave.go R.m fun sc H Q hr h=>?_;obtain⟨x,dx,du,dk,df,dc,S,n,rfl,r,ok,few,fewc,hm,q1⟩:=h;have nd:=r.nd;simp only[List.nodup_cons,List.mem_cons,List.not_mem_nil,or_false,not_or] at nd;obtain⟨⟨n1,n2,n3⟩,⟨n4,n5⟩,n6,_⟩:=nd
 refine'⟨_,(pss_cons (ps_if (PW.pt (pw_or (pt_not (pt_val (pe_d (ok_is_doer F) hr (pa1 (pv 1))))) (pw_or1 (pt_cmpR (op_notInD (hu_of hr)) (pv 1) (pe_fld (pv 0) rfl) (by with_unfolding_all rfl)))))
   (pss_one ps_never)
   pss_nil)
  (pss_cons (ps_expr (pe_dpop1 (pe_fld (pv 0) rfl) (pv 1) ⟨rfl,rfl,rfl,rfl⟩))
  (pss_one (ps_expr (pe_m0 (pv 0) C_Rounds (ok_rel F) hr))))),?_⟩
 refine⟨_,rfl,n,rfl,_,rfl,?_⟩;obtain⟨c0,hc0,e0⟩:=List.mem_map.mp hm;have hr0:=ok.cr c0 hc0;rw[e0] at hr0;rw[inR_t hr0.1 hr0.2];refine iteF ⟨_,rfl,_,rfl,x,c.R,dx,_,_,rfl,r.x,R.cl,R.n4,rfl,dc,_,rfl,DGet.k (k:=Sum.inl n) r.c,_,rfl,?_⟩;rw[kL_val,decide_eq_true hm];refine iteF ?_;obtain⟨v,ev⟩:=kL_some hm
 refine⟨_,rfl,x,c.R,dx,_,_,rfl,r.x,R.cl,R.n4,rfl,dc,rfl,.inl ⟨_,.inl r.c⟩,_,rfl,_,Sum.inl n,v,r.c,rfl,ev,?_⟩;rw[kL_drop];have r1:IsR c.R x dx du dk df dc (upd H dc (.dK (kL (S.cs.filter fun x=>decide (x.1≠n))))) (S.left n):=⟨by rw[upd_ne (ne_of r.x r.c (fun z=>nomatch z))];exact r.x,by rw[upd_ne n3];exact r.u,by rw[upd_ne n5];exact r.k,by rw[upd_ne n6];exact r.f,upd_same,r.nd⟩
 have k1:Keep [dk,df,dc] H (upd H dc (.dK (kL (S.cs.filter fun x=>decide (x.1≠n))))):=Keep.refl.upd (by simp);generalize upd H dc _=H1 at *;refine⟨_,rfl,x,dx,_,rfl,r1.x,rfl,x,dx,du,dk,df,dc,S.left n,rfl,r1,ok.left n,few,?_,fun H4 r4 k4=>?_⟩
 ·exact Nat.le_trans (List.length_filter_le _ _) fewc
 ·exact q1 H4 r4 (k1.trans (k4.mono (by simp)))
theorem cp_fld {H H1:Hp}{y l C dy fs fs' o}(k:Keep [y] H H1)(ny:H y=none)(e:H1 y=some (.ins C dy fs))(f:H1 l=none) :
  H l=none/\l≠y/\Keep [y] H (upd (upd H1 l o) y (.ins C dy fs'))/\upd (upd H1 l o) y (.ins C dy fs') y=some (.ins C dy fs')/\upd (upd H1 l o) y (.ins C dy fs') l=some o/\∀b u,H1 b=some u->b≠y->upd (upd H1 l o) y (.ins C dy fs') b=some u:=by
 have n:l≠y:=(ne_of_none e f).symm;exact⟨k.free f (by simp[n]),n,(k.updN f).upd (by simp),upd_same,by rw[upd_ne n,upd_same],fun b u z nb=>by rw[upd_ne nb];exact un_f f z⟩
def rF (a b c d:Addr)(l:Int):List (Str×V):=[("in_use",.ref a),("kept_laps",.ref b),("free_ones",.ref c),("call_laps",.ref d),("lap_now",.int l)]
inductive spTwin (C:Addr)(vs:List V)(H:Hp)(Q:VK)(E:XK):Prop
 | mk (x dx du dk df dc:Addr)(S:RS):vs=[.ref x]->IsR C x dx du dk df dc H S->(∀(y dy du' dk' df' dc':Addr) H',H y=none->(∀b∈[du',dk',df',dc'],H b=none)->Same H H'->IsR C y dy du' dk' df' dc' H' S->Q (.ref y) H')->spTwin C vs H Q E
theorem ok_rtwin:Mt F c.R F.r.R_twin 3 (spTwin c.R):=by
 obtain⟨f,fd,XRounds⟩:=F.RX;have T:=F.r.T;have GRounds:FnOk P w K mg base CX0 1 f fd ["self"] (spInit c.R):=ok_init XRounds T;refine F.r.R_twin.go XRounds.m fun sc H Q hr h=>?_;obtain⟨x,dx,du,dk,df,dc,S,rfl,r,q⟩:=h;have cl:=XRounds.cl;have n1:=XRounds.n1;have n2:=XRounds.n2;have n3:=XRounds.n3;have n4:=XRounds.n4;have n5:=XRounds.n5
 refine'⟨_,(pss_cons (ps_v sc 1 (pe_make0 XRounds.mak GRounds (hr.mono (by decide)) rfl XRounds.m XRounds.bi .nil pass0))
  (pss_cons (ps_fld (pv 1) (pe_callTy call_dictD rfl T.n_dict bt_dict (pa1 (pe_fld (pv 0) rfl))) rfl)
  (pss_cons (ps_fld (pv 1) (pe_callTy call_dictD rfl T.n_dict bt_dict (pa1 (pe_fld (pv 0) rfl))) rfl)
  (pss_cons (ps_fld (pv 1) (pe_callTy call_dictD rfl T.n_dict bt_dict (pa1 (pe_fld (pv 0) rfl))) rfl)
  (pss_cons (ps_fld (pv 1) (pe_callTy call_dictD rfl T.n_dict bt_dict (pa1 (pe_fld (pv 0) rfl))) rfl)
  (pss_cons (ps_fld (pv 1) (pe_fld (pv 0) rfl) rfl)
  (pss_one (ps_ret (pv 1))))))))),?_⟩
 walk;intro y dy fy fdy nd;refine⟨y,dy,rfl,upd_same,fun a1 a2 a3 a4 H1 z1 z2 z3 z4 r1 k1=>⟨rfl,?_⟩⟩;have k0:Keep [y] H H1:=fun b o e n=>k1 b o (new_ins fy fdy e) n;have ny:∀{b:Addr} {o:HO},H b=some o->b≠y:=fun e=>ne_of_none e fy;have ey:H1 y=some (.ins c.R dy (rF a1 a2 a3 a4 0)):=r1.x;clear r1 k1 z1 z2 z3 z4;have hx:=r.x
 have old:∀{H2:Hp} {b:Addr} {o:HO},Keep [y] H H2->H b=some o->H2 b=some o:=fun k e=>k _ _ e (by simp[ny e]);have hx1:=old k0 hx;walk;refine⟨du,_,rfl,.inl (old k0 r.u),fun l1 f1=>?_⟩;walk;obtain⟨g1,m1,k2,ey2,e1,o2⟩:=cp_fld (o:=.dK (kT S.us)) (fs':=putF "in_use" (.ref l1) (rF a1 a2 a3 a4 0)) k0 fy ey f1;generalize upd (upd H1 l1 _) y _=H2 at *
 replace ey2:H2 y=some (.ins c.R dy (rF l1 a2 a3 a4 0)):=ey2;have hx2:=old k2 hx;walk;refine⟨dk,_,rfl,.inl (old k2 r.k),fun l2 f2=>?_⟩;walk;obtain⟨g2,m2,k3,ey3,e2,o3⟩:=cp_fld (o:=.dK (kL S.ks)) (fs':=putF "kept_laps" (.ref l2) (rF l1 a2 a3 a4 0)) k2 fy ey2 f2;have d21:l1≠l2:=ne_of_none e1 f2;replace e1:=o3 _ _ e1 m1;generalize upd (upd H2 l2 _) y _=H3 at *
 replace ey3:H3 y=some (.ins c.R dy (rF l1 l2 a3 a4 0)):=ey3;have hx3:=old k3 hx;walk;refine⟨df,_,rfl,.inl (old k3 r.f),fun l3 f3=>?_⟩;walk;obtain⟨g3,m3,k4,ey4,e3,o4⟩:=cp_fld (o:=.dK (kT S.fs)) (fs':=putF "free_ones" (.ref l3) (rF l1 l2 a3 a4 0)) k3 fy ey3 f3;have d31:l1≠l3:=ne_of_none e1 f3;have d32:l2≠l3:=ne_of_none e2 f3;replace e1:=o4 _ _ e1 m1;replace e2:=o4 _ _ e2 m2
 generalize upd (upd H3 l3 _) y _=H4 at *;replace ey4:H4 y=some (.ins c.R dy (rF l1 l2 l3 a4 0)):=ey4;have hx4:=old k4 hx;walk;refine⟨dc,_,rfl,.inl (old k4 r.c),fun l4 f4=>?_⟩;walk;obtain⟨g4,m4,k5,ey5,e4,o5⟩:=cp_fld (o:=.dK (kL S.cs)) (fs':=putF "call_laps" (.ref l4) (rF l1 l2 l3 a4 0)) k4 fy ey4 f4;have d41:l1≠l4:=ne_of_none e1 f4;have d42:l2≠l4:=ne_of_none e2 f4;have d43:l3≠l4:=ne_of_none e3 f4
 replace e1:=o5 _ _ e1 m1;replace e2:=o5 _ _ e2 m2;replace e3:=o5 _ _ e3 m3;generalize upd (upd H4 l4 _) y _=H5 at *;replace ey5:H5 y=some (.ins c.R dy (rF l1 l2 l3 l4 0)):=ey5;have hx5:=old k5 hx;walk;refine q y dy l1 l2 l3 l4 _ fy ?_ (fun b o e=>?_) ⟨upd_same,?_,?_,?_,?_,?_⟩
 ·intro b hb;simp only[List.mem_cons,List.not_mem_nil,or_false] at hb;rcases hb with rfl|rfl|rfl|rfl<;>assumption
 ·rw[upd_ne (ny e)];exact old k5 e
 ·rw[upd_ne m1];exact e1
 ·rw[upd_ne m2];exact e2
 ·rw[upd_ne m3];exact e3
 ·rw[upd_ne m4];exact e4
 ·simp[d21,d31,d32,d41,d42,d43]
structure ND where
 lv:Int
 ks:List Int
 gs:List Int
 hi:Option Int
 rt:Option Int
 ver:Int
 ho:Option Int
 gone:Bool
 wr:Bool
structure MS where
 most:Int
 top:Option Int
 ns:List ND
 R:RS
def nF (lv:Int)(pg:Addr)(hi rt ho:Option Int)(wr:Bool):List (Str×V):=[("level",.int lv),("bears",.ref pg),("high",oV hi),("right",oV rt),("holder",oV ho),("written",.bl wr)]
def tF (most:Int)(r dn dv:Addr)(top:Option Int):List (Str×V):=("most_keys",.int most)::("own_rounds",.ref r)::("nodes",.ref dn)::("versions",.ref dv)::(match top with|some p=>[("top_place",.int p)]|none=>[])
theorem tF_no {most:Int}{r dn dv}{top:Option Int}{m}(h:(["most_keys","own_rounds","nodes","versions","top_place"]:List Str).contains m=false):(tF most r dn dv top).lookup m=none:=by
 simp only[List.contains_cons,List.contains_nil,Bool.or_false,Bool.or_eq_false_iff] at h;obtain⟨h1,h2,h3,h4,h5⟩:=h;cases top<;>simp[tF,List.lookup,h1,h2,h3,h4,h5]
structure TA where
 dx:Addr
 r:Addr
 dr:Addr
 du:Addr
 dk:Addr
 df:Addr
 dc:Addr
 dn:Addr
 dv:Addr
 nd:List Addr
def IsN (c:Cs)(h:Hp)(p:Addr)(n:ND):Prop:=∃dp pg,h p=some (.ins c.N dp (nF n.lv pg n.hi n.rt n.ho n.wr))/\Pg c.pg h pg n.lv n.ks n.gs
structure IsT (c:Cs)(a:TA)(h:Hp)(z:Addr)(M:MS):Prop where
 x:h z=some (.ins c.T a.dx (tF M.most a.r a.dn a.dv M.top))
 r:IsR c.R a.r a.dr a.du a.dk a.df a.dc h M.R
 n:h a.dn=some (.dK (pK a.nd V.ref))
 v:h a.dv=some (.dK (pK M.ns fun n=>V.int n.ver))
 l:a.nd.length=M.ns.length
 e:∀(j:Nat) p n,a.nd[j]?=some p->M.ns[j]?=some n->IsN c h p n
 d:a.dn∉[a.du,a.dk,a.df,a.dc]/\a.dv∉[a.du,a.dk,a.df,a.dc]/\a.dn≠a.dv
 xr:z≠a.r
section
variable {c:Cs}{a:TA}{h h' H:Hp}{x:Addr}{M:MS}
theorem IsN.same {p n}(i:IsN c h p n)(S:Same h h'):IsN c h' p n:=let⟨dp,pg,e,g⟩:=i;⟨dp,pg,S _ _ e,g.same S⟩
theorem IsT.same (t:IsT c a h x M)(S:Same h h'):IsT c a h' x M:=⟨S _ _ t.x,t.r.same S,S _ _ t.n,S _ _ t.v,t.l,fun j p n e1 e2=>(t.e j p n e1 e2).same S,t.d,t.xr⟩
theorem IsN.dict {p d n k k'}(i:IsN c h p n)(e:h d=some (.dK k)):IsN c (upd h d (.dK k')) p n:=by
 obtain⟨dp,pg,e1,dg,tk,tg,e2,e3,e4⟩:=i;exact⟨dp,pg,by rw[upd_ne (ne_of e1 e (fun z=>nomatch z))];exact e1,dg,tk,tg,by rw[upd_ne (ne_of e2 e (fun z=>nomatch z))];exact e2,by rw[upd_ne (ne_of e3 e (fun z=>nomatch z))];exact e3,by rw[upd_ne (ne_of e4 e (fun z=>nomatch z))];exact e4⟩
theorem IsT.rn (t:IsT c a h x M):a.dn∉[a.r,a.du,a.dk,a.df,a.dc]:=fun z=>by
 rcases List.mem_cons.mp z with e|e
 ·exact ne_of t.n t.r.x (fun z=>nomatch z) e
 ·exact t.d.1 e
theorem IsT.rv (t:IsT c a h x M):a.dv∉[a.r,a.du,a.dk,a.df,a.dc]:=fun z=>by
 rcases List.mem_cons.mp z with e|e
 ·exact ne_of t.v t.r.x (fun z=>nomatch z) e
 ·exact t.d.2.1 e
theorem IsT.setN (t:IsT c a h x M){y o}{j:Nat}{n n':ND}(hj:M.ns[j]?=some n)(f:h y=none)(i:IsN c (upd h y o) y n')(ev:n'.ver=n.ver) :
  IsT c { a with nd:=a.nd.set j y } (upd (upd h y o) a.dn (.dK (pK (a.nd.set j y) V.ref))) x { M with ns:=M.ns.set j n' }:=by
 have S:Same h (upd h y o):=Same.upd f;have t1:=t.same S;have jl:j<M.ns.length:=(List.getElem?_eq_some_iff.mp hj).1;refine⟨?_,t1.r.out t.rn,upd_same,?_,by rw[List.length_set,List.length_set];exact t.l,fun i' p m e1 e2=>?_,t.d,t.xr⟩
 ·rw[upd_ne (ne_of t.x t.n (fun z=>nomatch z))];exact t1.x
 ·rw[upd_ne (Ne.symm t.d.2.2)];refine t1.v.trans (congrArg (fun z=>some (HO.dK z)) (pK_congr fun k=>?_));rw[List.getElem?_set];by_cases c0:j=k
  ·subst c0;rw[if_pos rfl,if_pos jl,hj];show some (V.int n.ver)=some (V.int n'.ver);rw[ev]
  ·rw[if_neg c0]
 ·rw[List.getElem?_set] at e1 e2;by_cases c0:j=i'
  ·subst c0;rw[if_pos rfl,if_pos (by rw[t.l];exact jl)] at e1;rw[if_pos rfl,if_pos jl] at e2;cases Option.some.inj e1;cases Option.some.inj e2;exact i.dict t1.n
  ·rw[if_neg c0] at e1 e2;exact(t1.e i' p m e1 e2).dict t1.n
theorem IsT.setV (t:IsT c a h x M){j:Nat}{n}(hj:M.ns[j]?=some n)(v:Int) :
  IsT c a (upd h a.dv (.dK (pK (M.ns.set j { n with ver:=v }) fun n=>V.int n.ver))) x { M with ns:=M.ns.set j { n with ver:=v } }:=by
 have jl:j<M.ns.length:=(List.getElem?_eq_some_iff.mp hj).1;refine⟨?_,t.r.out t.rv,?_,upd_same,by rw[List.length_set];exact t.l,fun i' p m e1 e2=>?_,t.d,t.xr⟩
 ·rw[upd_ne (ne_of t.x t.v (fun z=>nomatch z))];exact t.x
 ·rw[upd_ne t.d.2.2];exact t.n
 ·rw[List.getElem?_set] at e2;by_cases c0:j=i'
  ·subst c0;rw[if_pos rfl,if_pos jl] at e2;cases Option.some.inj e2;have:=t.e j p n e1 hj;obtain⟨dp,pg,q1,q2⟩:=this.dict (k':=pK (M.ns.set j { n with ver:=v }) fun n=>V.int n.ver) t.v;exact⟨dp,pg,q1,q2⟩
  ·rw[if_neg c0] at e2;exact(t.e i' p m e1 e2).dict t.v
theorem IsT.setTop (t:IsT c a h x M)(p:Int):IsT c a (upd h x (.ins c.T a.dx (tF M.most a.r a.dn a.dv (some p)))) x { M with top:=some p }:=by
 have nx:∀{b:Addr} {o:HO},h b=some o->(∀C d f,o≠.ins C d f)->b≠x:=fun e n z=>by rw[z,t.x] at e;cases e;exact n _ _ _ rfl
 refine⟨upd_same,t.r.out ?_,?_,?_,t.l,fun j p' n e1 e2=>?_,t.d,t.xr⟩
 ·intro z;simp only[List.mem_cons,List.not_mem_nil,or_false] at z;rcases z with e|e|e|e|e
  ·exact t.xr e
  ·exact nx t.r.u (fun _ _ _ z=>nomatch z) e.symm
  ·exact nx t.r.k (fun _ _ _ z=>nomatch z) e.symm
  ·exact nx t.r.f (fun _ _ _ z=>nomatch z) e.symm
  ·exact nx t.r.c (fun _ _ _ z=>nomatch z) e.symm
 ·rw[upd_ne (nx t.n (fun _ _ _ z=>nomatch z))];exact t.n
 ·rw[upd_ne (nx t.v (fun _ _ _ z=>nomatch z))];exact t.v
 ·obtain⟨dp,pg,q1,dg,tk,tg,q2,q3,q4⟩:=t.e j p' n e1 e2
  have n1:p'≠x:=fun z=>by
   rw[z,t.x] at q1;have:=(HO.ins.inj (Option.some.inj q1)).2.2;simp[nF,tF] at this;exact absurd this.1.1 (by decide)
  have n2:pg≠x:=fun z=>by
   rw[z,t.x] at q2;have:=(HO.ins.inj (Option.some.inj q2)).2.2;simp[PgF,tF] at this
  exact⟨dp,pg,by rw[upd_ne n1];exact q1,dg,tk,tg,by rw[upd_ne n2];exact q2,by rw[upd_ne (nx q3 (fun _ _ _ z=>nomatch z))];exact q3,by rw[upd_ne (nx q4 (fun _ _ _ z=>nomatch z))];exact q4⟩
theorem IsT.setR (t:IsT c a h x M)(s:Same h H){H':Hp}{S' l}(k:Keep l H H')(hl:∀b∈l,b∈[a.r,a.du,a.dk,a.df,a.dc])(r':IsR c.R a.r a.dr a.du a.dk a.df a.dc H' S') :
  IsT c a (rsH h H') x { M with R:=S' }/\Chg h (rsH h H') H H':=by
 have dom:∀b∈[a.r,a.du,a.dk,a.df,a.dc],h b≠none:=fun b hb=>by
  simp only[List.mem_cons,List.not_mem_nil,or_false] at hb;rcases hb with rfl|rfl|rfl|rfl|rfl
  ·rw[t.r.x];exact fun z=>nomatch z
  ·rw[t.r.u];exact fun z=>nomatch z
  ·rw[t.r.k];exact fun z=>nomatch z
  ·rw[t.r.f];exact fun z=>nomatch z
  ·rw[t.r.c];exact fun z=>nomatch z
 have cg:Chg h (rsH h H') H H':=Chg.rs (fr_keep k fun b hb=>dom b (hl b hb));have old:∀{b:Addr} {o:HO},h b=some o->b∉[a.r,a.du,a.dk,a.df,a.dc]->rsH h H' b=some o:=fun {b o} e n=>(rs_at e).trans (k b o (s _ _ e) fun z=>n (hl b z))
 have nin:∀{b:Addr} {o:HO},h b=some o->(∀C d f,o≠.ins C d f)->(∀q,o≠.dK q)->b∉[a.r,a.du,a.dk,a.df,a.dc]:=fun {b o} e n1 n2 hb=>by
  simp only[List.mem_cons,List.not_mem_nil,or_false] at hb;rcases hb with rfl|rfl|rfl|rfl|rfl
  ·rw[t.r.x] at e;cases e;exact n1 _ _ _ rfl
  ·rw[t.r.u] at e;cases e;exact n2 _ rfl
  ·rw[t.r.k] at e;cases e;exact n2 _ rfl
  ·rw[t.r.f] at e;cases e;exact n2 _ rfl
  ·rw[t.r.c] at e;cases e;exact n2 _ rfl
 have nins:∀{b C d:Addr} {f:List (Str×V)},h b=some (.ins C d f)->b≠a.r->b∉[a.r,a.du,a.dk,a.df,a.dc]:=fun {b C d f} e n hb=>by
  simp only[List.mem_cons,List.not_mem_nil,or_false] at hb;rcases hb with rfl|rfl|rfl|rfl|rfl
  ·exact n rfl
  ·rw[t.r.u] at e;cases e
  ·rw[t.r.k] at e;cases e
  ·rw[t.r.f] at e;cases e
  ·rw[t.r.c] at e;cases e
 refine⟨⟨old t.x (nins t.x t.xr),⟨(rs_at t.r.x).trans r'.x,(rs_at t.r.u).trans r'.u,(rs_at t.r.k).trans r'.k,(rs_at t.r.f).trans r'.f,(rs_at t.r.c).trans r'.c,r'.nd⟩,old t.n t.rn,old t.v t.rv,t.l,fun j p n e1 e2=>?_,t.d,t.xr⟩,cg⟩;obtain⟨dp,pg,q1,dg,tk,tg,q2,q3,q4⟩:=t.e j p n e1 e2
 have n1:p≠a.r:=fun z=>by
  rw[z,t.r.x] at q1;have:=(HO.ins.inj (Option.some.inj q1)).2.2;simp[nF] at this
 have n2:pg≠a.r:=fun z=>by
  rw[z,t.r.x] at q2;have:=(HO.ins.inj (Option.some.inj q2)).2.2;simp[PgF] at this
 exact⟨dp,pg,old q1 (nins q1 n1),dg,tk,tg,old q2 (nins q2 n2),old q3 (nin q3 (fun _ _ _ z=>nomatch z) (fun _ z=>nomatch z)),old q4 (nin q4 (fun _ _ _ z=>nomatch z) (fun _ z=>nomatch z))⟩
theorem IsT.addN (t:IsT c a h x M){y o n}(f:h y=none)(i:IsN c (upd h y o) y n) :
  IsT c { a with nd:=a.nd++[y] } (upd (upd (upd h y o) a.dn (.dK (pK (a.nd++[y]) V.ref))) a.dv (.dK (pK (M.ns++[n]) fun n=>V.int n.ver))) x { M with ns:=M.ns++[n] }:=by
 have S:Same h (upd h y o):=Same.upd f;have t1:=t.same S;have ev:upd (upd h y o) a.dn (.dK (pK (a.nd++[y]) V.ref)) a.dv=some (.dK (pK M.ns fun n=>V.int n.ver)):=by rw[upd_ne (Ne.symm t.d.2.2)];exact t1.v
 refine⟨?_,(t1.r.out t.rn).out t.rv,?_,upd_same,by rw[List.length_append,List.length_append,t.l];rfl,fun j p m e1 e2=>?_,t.d,t.xr⟩
 ·rw[upd_ne (ne_of t.x t.v (fun z=>nomatch z)),upd_ne (ne_of t.x t.n (fun z=>nomatch z))];exact t1.x
 ·rw[upd_ne t.d.2.2,upd_same]
 ·by_cases c0:j<a.nd.length
  ·rw[List.getElem?_append_left c0] at e1;rw[List.getElem?_append_left (by rw[<- t.l];exact c0)] at e2;exact((t1.e j p m e1 e2).dict t1.n).dict ev
  ·rw[List.getElem?_append_right (by omega)] at e1;rw[List.getElem?_append_right (by rw[<- t.l];omega),<- t.l] at e2;cases c1:j - a.nd.length with
   | zero=>
    rw[c1] at e1 e2;cases Option.some.inj e1;cases Option.some.inj e2;exact(i.dict t1.n).dict ev
   | succ k=>rw[c1] at e1;cases e1
theorem IsT.put (t:IsT c a h x M)(s:Same h H){H1:Hp}{y o}{j:Nat}{n n':ND}(hj:M.ns[j]?=some n)(S1:Same H H1)(f:H y=none)(e:H1 y=some o)(i:IsN c (upd h y o) y n')(ev:n'.ver=n.ver) :
  IsT c { a with nd:=a.nd.set j y } (upd (upd h y o) a.dn (.dK (pK (a.nd.set j y) V.ref))) x { M with ns:=M.ns.set j n' }/\Chg h (upd (upd h y o) a.dn (.dK (pK (a.nd.set j y) V.ref))) H (upd H1 a.dn (.dK (putK (pK a.nd V.ref) (Sum.inl (j:Int)) (.ref y)))):=by
 have jl:j<a.nd.length:=by rw[t.l];exact(List.getElem?_eq_some_iff.mp hj).1
 have c1:Chg h (upd h y o) H H1:=.addS s S1 f e;rw[pK_set (f:=V.ref) jl];exact⟨t.setN hj (s.free f) i ev,c1.trans (.mut c1.sm (un_f (s.free f) t.n))⟩
theorem IsT.putV (t:IsT c a h x M)(s:Same h H){j:Nat}{n}(hj:M.ns[j]?=some n)(v:Int) :
  IsT c a (upd h a.dv (.dK (pK (M.ns.set j { n with ver:=v }) fun n=>V.int n.ver))) x { M with ns:=M.ns.set j { n with ver:=v } }/\Chg h (upd h a.dv (.dK (pK (M.ns.set j { n with ver:=v }) fun n=>V.int n.ver))) H (upd H a.dv (.dK (putK (pK M.ns fun n=>V.int n.ver) (Sum.inl (j:Int)) (.int v)))):=by
 have jl:j<M.ns.length:=(List.getElem?_eq_some_iff.mp hj).1;have e:putK (pK M.ns fun n=>V.int n.ver) (Sum.inl (j:Int)) (.int v)=pK (M.ns.set j { n with ver:=v }) fun n=>V.int n.ver:=pK_set (f:=fun n:ND=>V.int n.ver) (x:={ n with ver:=v }) jl;rw[e];exact⟨t.setV hj v,.mut s t.v⟩
theorem Pg.rs {cp pg}{lv:Int}{ks gs l}{H':Hp}(i:Pg cp h pg lv ks gs)(s:Same h H)(k:Keep l H H')(hl:∀b∈l,∃q,h b=some (.dK q)):Pg cp (rsH h H') pg lv ks gs:=by
 obtain⟨dx,tk,tg,e1,e2,e3⟩:=i
 have old:∀{b:Addr} {o:HO},h b=some o->(∀q,o≠.dK q)->rsH h H' b=some o:=fun {b o} e n=>(rs_at e).trans (k b o (s _ _ e) fun z=>by
  obtain⟨q,hq⟩:=hl b z;rw[hq] at e;cases e
  exact n _ rfl)
 exact⟨dx,tk,tg,old e1 (fun _ z=>nomatch z),old e2 (fun _ z=>nomatch z),old e3 (fun _ z=>nomatch z)⟩
theorem Pg.add {cp:Cp}{h1 H':Hp}{pg dx tk tg}{lv:Int}{ks gs:List Int}(cg:Chg h h1 H H')(f1:H pg=none)(f2:H tk=none)(f3:H tg=none)(e1:H' pg=some (.ins (cp.of lv) dx (PgF tk tg)))(e2:H' tk=some (.tup (ks.map V.int)))(e3:H' tg=some (.tup (gs.map V.int))) :
  ∃h2,Chg h h2 H H'/\Pg cp h2 pg lv ks gs/\∀b o,h1 b=some o->h2 b=some o:=by
 refine⟨_,((cg.ext f1 e1).ext f2 e2).ext f3 e3,⟨dx,tk,tg,?_,?_,upd_same⟩,fun b o z=>?_⟩
 ·rw[upd_ne (ne_of e1 e3 (fun z=>nomatch z)),upd_ne (ne_of e1 e2 (fun z=>nomatch z)),upd_same]
 ·by_cases q:tk=tg
  ·rw[q,upd_same];rw[q,e3] at e2;exact e2
  ·rw[upd_ne q,upd_same]
 ·have z':=cg.sm _ _ z
  have go:∀{g:Hp} {y:Addr} {u:HO},g b=some o->H' y=some u->upd g y u b=some o:=fun {g y u} q1 q2=>by
   by_cases d:b=y
   ·rw[d,upd_same];rw[d,q2] at z';exact z'
   ·rw[upd_ne d];exact q1
  exact go (go (go z e1) e2) e3
end
local macro_rules | `(tactic| walk_at "tf") => `(tactic| exact tF_no rfl)
theorem sc_Node___init__:FnScope ["self","level","bears","high","right"] ["self","level","bears","high","right"] (defScope (inClass (top 52) 0)):=by walk_at "s"
inductive spNode (C:Addr)(vs:List V)(H:Hp)(Q:VK)(E:XK):Prop
 | mk (x dx pg:Addr)(lv:Int)(hi rt:Option Int):vs=[.ref x,.int lv,.ref pg,oV hi,oV rt]->H x=some (.ins C dx [])->(∀H',H' x=some (.ins C dx (nF lv pg hi rt none false))->But x H H'->Q .non H')->spNode C vs H Q E
theorem ok_node {C f fd}(R:NdN K mg C f fd)(T:Txt K mg):FnOk P w K mg base CX0 1 f fd ["self","level","bears","high","right"] (spNode C):=by
 refine R.fn.ok sc_Node___init__ (fun vs H Q E h=>?_) (fun cdv A outer s H vs Q E hr h=>?_)
 ·obtain⟨_,_,_,_,_,_,rfl,_⟩:=h;rfl
 ·obtain⟨x,dx,pg,lv,hi,rt,rfl,hx,q⟩:=h;have sc:=sc_Node___init__;obtain⟨_,_,_,_,cl,n1,n2,n3,n4,n5,n6⟩:=R
  refine'⟨_,(pss_cons (ps_fld (pv 0) (pv 1) rfl)
  (pss_cons (ps_fld (pv 0) (pv 2) rfl)
  (pss_cons (ps_fld (pv 0) (pv 3) rfl)
  (pss_cons (ps_fld (pv 0) (pv 4) rfl)
  (pss_cons (ps_fld (pv 0) pe_non rfl)
  (pss_one (ps_fld (pv 0) pe_bl rfl))))))),?_⟩
  walk;refine q _ upd_same (fun b o z n=>?_);rw[upd_ne n,upd_ne n,upd_ne n,upd_ne n,upd_ne n,upd_ne n];exact z
inductive spHeld (C:Addr)(vs:List V)(H:Hp)(Q:VK)(E:XK):Prop
 | mk (x dx pg:Addr)(lv:Int)(hi rt ho ho':Option Int)(wr wr':Bool):vs=[.ref x,oV ho',.bl wr']->H x=some (.ins C dx (nF lv pg hi rt ho wr))->(∀y dy H',H y=none->Same H H'->H' y=some (.ins C dy (nF lv pg hi rt ho' wr'))->Q (.ref y) H')->spHeld C vs H Q E
theorem ok_held:Mt F c.N F.r.N_held_by 3 (spHeld c.N):=by
 obtain⟨f,fd,XNode⟩:=F.NX;have T:=F.r.T;have GNode:FnOk P w K mg base CX0 1 f fd ["self","level","bears","high","right"] (spNode c.N):=ok_node XNode T;refine F.r.N_held_by.go XNode.m fun sc H Q hr h=>?_;obtain⟨x,dx,pg,lv,hi,rt,ho,ho',wr,wr',rfl,hx,q⟩:=h;have X:=XNode;obtain⟨_,_,_,_,cl,n1,n2,n3,n4,n5,n6⟩:=X
 refine'⟨_,(pss_cons (ps_v sc 3 (pe_make XNode.mak GNode (hr.mono (by decide)) rfl XNode.m XNode.bi .nil pass0 (pa4 (pe_fld (pv 0) rfl) (pe_fld (pv 0) rfl) (pe_fld (pv 0) rfl) (pe_fld (pv 0) rfl))))
  (pss_cons (ps_fld (pv 3) (pv 1) rfl)
  (pss_cons (ps_fld (pv 3) (pv 2) rfl)
  (pss_one (ps_ret (pv 3)))))),?_⟩
 walk;intro y dy fy fdy nd;refine⟨y,dy,pg,lv,hi,rt,rfl,upd_same,fun H1 e1 k1=>⟨rfl,?_⟩⟩;walk;refine q y dy _ fy (fun b o z=>?_) upd_same;have ny:b≠y:=ne_of_none z fy;rw[upd_ne ny,upd_ne ny];exact k1 b o (new_ins fy fdy z) ny
theorem ok_need_most:Ok F F.r.d_need_most 4 (fun vs H Q _=>∃i:Int,vs=[.int i]/\(inR 2 5) i=true/\Q .non H):=by
 refine F.r.d_need_most.go fun sc H Q hr h=>?_;obtain⟨i,rfl,hi,k⟩:=h
 refine⟨_,(pss_one (ps_if (pt_not (pt_val (pe_d (ok_is_most F) hr (pa1 (pv 0)))))
   (pss_one ps_never)
   pss_nil)),?_⟩
 walk;refine⟨i,rfl,?_⟩;rw[hi];walk;exact k
theorem ok_need_level:Ok F F.r.d_need_level 4 (fun vs H Q _=>∃i:Int,vs=[.int i]/\(inR 0 60) i=true/\Q .non H):=by
 refine F.r.d_need_level.go fun sc H Q hr h=>?_;obtain⟨i,rfl,hi,k⟩:=h
 refine⟨_,(pss_one (ps_if (pt_not (pt_val (pe_d (ok_is_level F) hr (pa1 (pv 0)))))
   (pss_one ps_never)
   pss_nil)),?_⟩
 walk;refine⟨i,rfl,?_⟩;rw[hi];walk;exact k
theorem ok_need_doer:Ok F F.r.d_need_doer 5 (fun vs H Q _=>∃i:Int,vs=[.int i]/\(inR 0 1000000) i=true/\Q .non H):=by
 refine F.r.d_need_doer.go fun sc H Q hr h=>?_;obtain⟨i,rfl,hi,k⟩:=h
 refine⟨_,(pss_one (ps_if (pt_not (pt_val (pe_d (ok_is_doer F) hr (pa1 (pv 0)))))
   (pss_one ps_never)
   pss_nil)),?_⟩
 walk;refine⟨i,rfl,?_⟩;rw[hi];walk;exact k
inductive spNP (c:Cs)(vs:List V)(H:Hp)(Q:VK)(E:XK):Prop
 | mk (lv:Int)(pg:Addr)(ks gs:List Int):vs=[.int lv,.ref pg]->Pg c.pg H pg lv ks gs->Q .non H->spNP c vs H Q E
theorem ok_need_page:Ok F F.r.d_need_page 1 (spNP c):=by
 have KF:=F.KF;have MLeaf:=KF.mL;have MInner:=KF.mI;refine F.r.d_need_page.go fun sc H Q hr h=>?_;obtain⟨lv,pg,ks,gs,rfl,⟨dx,tk,tg,h1,h2,h3⟩,k⟩:=h
 refine⟨_,(pss_cons (ps_v sc 2 (pe_ifExp (pc op_eq (pv 0) pe_int) (pe_callB call_instO rfl F.r.T.n_isinstance bt_isinstance (pa2 (pv 1) (pe_glob (v:=.ref c.pg.cL) rfl MLeaf rfl))) (pe_callB call_instO rfl F.r.T.n_isinstance bt_isinstance (pa2 (pv 1) (pe_glob (v:=.ref c.pg.cI) rfl MInner rfl)))))
  (pss_one (ps_if (pt_not (pt_val (pv 2)))
   (pss_one ps_never)
   pss_nil))),?_⟩
 refine seq2 (fun σ H1=>σ=[some (.int lv),some (.ref pg),some (.bl true)]/\H=H1) ?s1 ?r1
 case s1=>
  intro N z;refine s_set ?_;walk;by_cases c0:lv=0
  ·subst c0;rw[decide_eq_true rfl];walk;exact⟨pg,c.pg.cL,c.pg.cL,dx,_,true,rfl,h1,KF.iL,KF.LL,z _ _ ⟨rfl,rfl⟩⟩
  ·rw[decide_eq_false (fun z=>c0 (V.int.inj z))];walk;have h1':H pg=some (.ins c.pg.cI dx (PgF tk tg)):=by rw[h1];unfold Cp.of;rw[if_neg c0]
   exact⟨pg,c.pg.cI,c.pg.cI,dx,_,true,rfl,h1',KF.iI,KF.II,z _ _ ⟨rfl,rfl⟩⟩
 case r1=>
  rintro σ H1 ⟨rfl,rfl⟩;walk;exact k
inductive spMost (c:Cs)(vs:List V)(H:Hp)(Q:VK)(E:XK):Prop
 | mk (a:TA)(h:Hp)(x:Addr)(M:MS):vs=[.ref x]->IsT c a h x M->Same h H->Q (.int M.most) H->spMost c vs H Q E
theorem ok_T_most:Mt F c.T F.r.T_most 1 (spMost c):=by
 obtain⟨f,fd,X⟩:=F.TX;have C_Rounds:=F.cR;have C_Tree:=X.cl;refine F.r.T_most.go X.m fun sc H Q hr h=>?_;obtain⟨a,h,x,M,rfl,t,s,k⟩:=h;obtain⟨_,_,_,_,cl,n1,n2,n3,n4,n5⟩:=X;have hx:=s _ _ t.x;have hR:=t.r.same s;have hr0:=hR.x;refine'⟨_,(pss_one (ps_ret (pe_fld (pv 0) rfl))),?_⟩;walk;exact k
inductive spTop (c:Cs)(vs:List V)(H:Hp)(Q:VK)(E:XK):Prop
 | mk (a:TA)(h:Hp)(x:Addr)(M:MS):vs=[.ref x]->IsT c a h x M->Same h H->(∃p:Int,M.top=some p/\Q (.int p) H)->spTop c vs H Q E
theorem ok_T_top:Mt F c.T F.r.T_top 1 (spTop c):=by
 obtain⟨f,fd,X⟩:=F.TX;have C_Rounds:=F.cR;have C_Tree:=X.cl;refine F.r.T_top.go X.m fun sc H Q hr h=>?_;obtain⟨a,h,x,M,rfl,t,s,p,tp,k⟩:=h;obtain⟨_,_,_,_,cl,n1,n2,n3,n4,n5⟩:=X;have hx:=s _ _ t.x;have hR:=t.r.same s;have hr0:=hR.x;refine'⟨_,(pss_one (ps_ret (pe_fld (pv 0) rfl))),?_⟩;rw[tp] at hx;walk;exact k
inductive spPlaces (c:Cs)(vs:List V)(H:Hp)(Q:VK)(E:XK):Prop
 | mk (a:TA)(h:Hp)(x:Addr)(M:MS):vs=[.ref x]->IsT c a h x M->Same h H->M.R.us.length<64->(∀ns:List Int,ns.Perm M.R.us->ns.Pairwise (· <= ·)->∀l,H l=none->Q (.ref l) (upd H l (.lst (ns.map V.int))))->spPlaces c vs H Q E
theorem ok_T_places:Mt F c.T F.r.T_places 2 (spPlaces c):=by
 obtain⟨f,fd,X⟩:=F.TX;have C_Rounds:=F.cR;have C_Tree:=X.cl;refine F.r.T_places.go X.m fun sc H Q hr h=>?_;obtain⟨a,h,x,M,rfl,t,s,few,k⟩:=h;obtain⟨_,_,_,_,cl,n1,n2,n3,n4,n5⟩:=X;have hx:=s _ _ t.x;have hR:=t.r.same s;have hr0:=hR.x;refine'⟨_,(pss_one (ps_ret (pe_m0 (pe_fld (pv 0) rfl) C_Rounds (ok_used F) hr))),?_⟩;walk;exact⟨a.r,a.dr,a.du,a.dk,a.df,a.dc,M.R,rfl,hR,few,k⟩
inductive spRounds (c:Cs)(vs:List V)(H:Hp)(Q:VK)(E:XK):Prop
 | mk (a:TA)(h:Hp)(x:Addr)(M:MS):vs=[.ref x]->IsT c a h x M->Same h H->(∀(y dy du' dk' df' dc':Addr) H',H y=none->(∀b∈[du',dk',df',dc'],H b=none)->Same H H'->IsR c.R y dy du' dk' df' dc' H' M.R->Q (.ref y) H')->spRounds c vs H Q E
theorem ok_T_rounds:Mt F c.T F.r.T_rounds 4 (spRounds c):=by
 obtain⟨f,fd,X⟩:=F.TX;have C_Rounds:=F.cR;have C_Tree:=X.cl;refine F.r.T_rounds.go X.m fun sc H Q hr h=>?_;obtain⟨a,h,x,M,rfl,t,s,k⟩:=h;obtain⟨_,_,_,_,cl,n1,n2,n3,n4,n5⟩:=X;have hx:=s _ _ t.x;have hR:=t.r.same s;have hr0:=hR.x;refine'⟨_,(pss_one (ps_ret (pe_m0 (pe_fld (pv 0) rfl) C_Rounds (ok_rtwin F) hr))),?_⟩;walk;exact⟨a.r,a.dr,a.du,a.dk,a.df,a.dc,M.R,rfl,hR,k⟩
inductive spGone (c:Cs)(vs:List V)(H:Hp)(Q:VK)(E:XK):Prop
 | mk (a:TA)(h:Hp)(x:Addr)(M:MS)(p:Int):vs=[.ref x,.int p]->IsT c a h x M->Same h H->M.R.Ok->Q (.bl (decide (p∈M.R.ks.map (·.1)))) H->spGone c vs H Q E
theorem ok_T_is_gone:Mt F c.T F.r.T_is_gone 4 (spGone c):=by
 obtain⟨f,fd,X⟩:=F.TX;have C_Rounds:=F.cR;have C_Tree:=X.cl;refine F.r.T_is_gone.go X.m fun sc H Q hr h=>?_;obtain⟨a,h,x,M,p,rfl,t,s,ok,k⟩:=h;obtain⟨_,_,_,_,cl,n1,n2,n3,n4,n5⟩:=X;have hx:=s _ _ t.x;have hR:=t.r.same s;have hr0:=hR.x;refine'⟨_,(pss_one (ps_ret (pe_m (pe_fld (pv 0) rfl) C_Rounds (ok_isKp F) hr (pa1 (pv 1))))),?_⟩;walk;exact⟨a.r,a.dr,a.du,a.dk,a.df,a.dc,M.R,p,rfl,hR,ok,k⟩
inductive spNU (c:Cs)(vs:List V)(H:Hp)(Q:VK)(E:XK):Prop
 | mk (a:TA)(h:Hp)(x:Addr)(M:MS)(p:Int):vs=[.ref x,.int p]->IsT c a h x M->Same h H->M.R.Ok->p∈M.R.us->Q .non H->spNU c vs H Q E
theorem ok_T_need_used:Mt F c.T F.r.T_need_used 4 (spNU c):=by
 obtain⟨f,fd,X⟩:=F.TX;have C_Rounds:=F.cR;have C_Tree:=X.cl;refine F.r.T_need_used.go X.m fun sc H Q hr h=>?_;obtain⟨a,h,x,M,p,rfl,t,s,ok,hp,k⟩:=h;obtain⟨_,_,_,_,cl,n1,n2,n3,n4,n5⟩:=X;have hx:=s _ _ t.x;have hR:=t.r.same s;have hr0:=hR.x
 refine'⟨_,(pss_one (ps_if (pt_not (pt_val (pe_m (pe_fld (pv 0) rfl) C_Rounds (ok_isU F) hr (pa1 (pv 1)))))
   (pss_one ps_never)
   pss_nil)),?_⟩
 walk;refine⟨a.r,a.dr,a.du,a.dk,a.df,a.dc,M.R,p,rfl,hR,ok,?_⟩;rw[decide_eq_true hp];walk;exact k
inductive spNodeIn (c:Cs)(vs:List V)(H:Hp)(Q:VK)(E:XK):Prop
 | mk (a:TA)(h:Hp)(x:Addr)(M:MS)(j:Nat)(y:Addr):vs=[.ref x,.int j]->IsT c a h x M->Same h H->M.R.Ok->((j:Int)∈M.R.us\/(j:Int)∈M.R.ks.map (·.1))->a.nd[j]?=some y->Q (.ref y) H->spNodeIn c vs H Q E
theorem ok_T_node_in:Mt F c.T F.r.T_node_in 4 (spNodeIn c):=by
 obtain⟨f,fd,X⟩:=F.TX;have C_Rounds:=F.cR;have C_Tree:=X.cl;refine F.r.T_node_in.go X.m fun sc H Q hr h=>?_;obtain⟨a,h,x,M,j,y,rfl,t,s,ok,hp,hy,k⟩:=h;obtain⟨_,_,_,_,cl,n1,n2,n3,n4,n5⟩:=X;have hx:=s _ _ t.x;have hR:=t.r.same s;have hr0:=hR.x
 refine'⟨_,(pss_cons (ps_if (PW.pt (pw_and (pt_not (pt_val (pe_m (pe_fld (pv 0) rfl) C_Rounds (ok_isU F) hr (pa1 (pv 1))))) (pw_and1 (pt_not (pt_val (pe_m (pe_fld (pv 0) rfl) C_Rounds (ok_isKp F) hr (pa1 (pv 1))))))))
   (pss_one ps_never)
   pss_nil)
  (pss_one (ps_ret (pe_dget (hu_of hr) (pe_fld (pv 0) rfl) (pv 1) (fun _ _=>rfl))))),?_⟩
 walk;refine⟨a.r,a.dr,a.du,a.dk,a.df,a.dc,M.R,_,rfl,hR,ok,?_⟩;by_cases hu:(j:Int)∈M.R.us
 ·rw[decide_eq_true hu];walk;exact k_dgetK (k:=Sum.inl (j:Int)) (s _ _ t.n) (pK_val hy) k
 ·rw[decide_eq_false hu];walk;refine⟨a.r,a.dr,a.du,a.dk,a.df,a.dc,M.R,_,rfl,hR,ok,?_⟩;rw[decide_eq_true (hp.resolve_left hu)];walk;exact k_dgetK (k:=Sum.inl (j:Int)) (s _ _ t.n) (pK_val hy) k
inductive spTPage (c:Cs)(vs:List V)(H:Hp)(Q:VK)(E:XK):Prop
 | mk (a:TA)(h:Hp)(x:Addr)(M:MS)(j:Nat)(n:ND):vs=[.ref x,.int j]->IsT c a h x M->Same h H->M.R.Ok->((j:Int)∈M.R.us\/(j:Int)∈M.R.ks.map (·.1))->M.ns[j]?=some n->(∀pg,Pg c.pg H pg n.lv n.ks n.gs->Q (.ref pg) H)->spTPage c vs H Q E
theorem ok_T_page:Mt F c.T F.r.T_page 5 (spTPage c):=by
 obtain⟨fN,fdN,XN⟩:=F.NX;obtain⟨f,fd,X⟩:=F.TX;have C_Rounds:=F.cR;obtain⟨_,_,_,_,clN,m1,m2,m3,m4,m5,m6⟩:=XN;have C_Tree:=X.cl;refine F.r.T_page.go X.m fun sc H Q hr h=>?_;obtain⟨a,h,x,M,j,n,rfl,t,s,ok,hp,hn,k⟩:=h;obtain⟨_,_,_,_,cl,n1,n2,n3,n4,n5⟩:=X;have hx:=s _ _ t.x;have hR:=t.r.same s;have hr0:=hR.x
 refine'⟨_,(pss_one (ps_ret (pe_fld (pe_m (pv 0) C_Tree (ok_T_node_in F) hr (pa1 (pv 1))) rfl))),?_⟩;obtain⟨y,hy⟩:=nth t.l hn;obtain⟨dp,pg,e1,hpg⟩:=(t.e j y n hy hn).same s;walk;refine⟨a,h,x,M,j,y,rfl,t,s,ok,hp,hy,?_⟩;walk;exact k pg hpg
inductive spTNode (c:Cs)(vs:List V)(H:Hp)(Q:VK)(E:XK):Prop
 | mk (a:TA)(h:Hp)(x:Addr)(M:MS)(j:Nat)(n:ND):vs=[.ref x,.int j]->IsT c a h x M->Same h H->M.R.Ok->((j:Int)∈M.R.us\/(j:Int)∈M.R.ks.map (·.1))->M.ns[j]?=some n->(∀l1 l2 tt H',H l1=none->H l2=none->l1≠l2->Same H H'->H' l1=some (.lst (n.ks.map V.int))->H' l2=some (.lst (n.gs.map V.int))->H' tt=some (.tup [.int n.lv,.ref l1,.ref l2,oV n.hi,oV n.rt,.int n.ver,oV n.ho,.bl (decide ((j:Int)∈M.R.ks.map (·.1)))])->Q (.ref tt) H')->spTNode c vs H Q E
theorem ok_T_node:Mt F c.T F.r.T_node 5 (spTNode c):=by
 obtain⟨fN,fdN,XN⟩:=F.NX;obtain⟨f,fd,X⟩:=F.TX;have C_Rounds:=F.cR;obtain⟨fK,fdK,MP_all_keys,GP_all_keys,BP_all_keys⟩:=bk F;obtain⟨fG,fdG,MP_goods,GP_goods,BP_goods⟩:=bg F;obtain⟨_,_,_,_,clN,m1,m2,m3,m4,m5,m6⟩:=XN;have C_Tree:=X.cl;refine F.r.T_node.go X.m fun sc H Q hr h=>?_;obtain⟨a,h,x,M,j,n,rfl,t,s,ok,hp,hn,k⟩:=h;obtain⟨_,_,_,_,cl,n1,n2,n3,n4,n5⟩:=X;have hx:=s _ _ t.x;have hR:=t.r.same s
 have hr0:=hR.x
 refine'⟨_,(pss_cons (ps_v sc 2 (pe_m (pv 0) C_Tree (ok_T_node_in F) hr (pa1 (pv 1))))
  (pss_cons (ps_v sc 3 (pe_methP0 (pe_fld (pv 2) rfl) MP_all_keys GP_all_keys (hr.mono (by decide)) BP_all_keys .nil pass0))
  (pss_cons (ps_v sc 4 (pe_methP0 (pe_fld (pv 2) rfl) MP_goods GP_goods (hr.mono (by decide)) BP_goods .nil pass0))
  (pss_cons (ps_v sc 5 (pe_m (pv 0) C_Tree (ok_T_is_gone F) hr (pa1 (pv 1))))
  (pss_one (ps_ret (pe_tup (pa_c (pe_fld (pv 2) rfl) (pa_c (pv 3) (pa_c (pv 4) (pa_c (pe_fld (pv 2) rfl) (pa_c (pe_fld (pv 2) rfl) (pa_c (pe_dget (hu_of hr) (pe_fld (pv 0) rfl) (pv 1) (fun _ _=>rfl)) (pa_c (pe_fld (pv 2) rfl) (pa_c (pv 5) pa_nil))))))))))))))),?_⟩
 obtain⟨y,hy⟩:=nth t.l hn;obtain⟨dp,pg,e1,hpg⟩:=(t.e j y n hy hn).same s;walk;refine⟨a,h,x,M,j,y,rfl,t,s,ok,hp,hy,?_⟩;have pg1:=hpg;obtain⟨dg,tk,tg,e2,e3,e4⟩:=hpg;walk;refine k_methP e2 (c.pg.of_is _) rfl ⟨pg,n.lv,n.ks,n.gs,rfl,pg1,fun l1 f1=>?_⟩;have S1:Same H (upd H l1 (.lst (n.ks.map V.int))):=Same.upd f1;have q1:upd H l1 (.lst (n.ks.map V.int)) l1=some (.lst (n.ks.map V.int)):=upd_same
 generalize upd H l1 _=H1 at *;walk;refine k_methP (S1 _ _ e2) (c.pg.of_is _) rfl ⟨pg,n.lv,n.ks,n.gs,rfl,pg1.same S1,fun l2 f2=>?_⟩;have S2:Same H1 (upd H1 l2 (.lst (n.gs.map V.int))):=Same.upd f2;have q2:upd H1 l2 (.lst (n.gs.map V.int)) l2=some (.lst (n.gs.map V.int)):=upd_same;have q1':=S2 _ _ q1;have n12:=ne_of_none q1 f2;have S:=S1.trans S2;generalize upd H1 l2 _=H2 at *;have e1':=S _ _ e1
 have hx':=S _ _ hx;walk;refine⟨a,h,x,M,_,rfl,t,s.trans S,ok,?_⟩;walk;refine k_dgetK (k:=Sum.inl (j:Int)) (S _ _ (s _ _ t.v)) (pK_val hn) ?_;walk;refine⟨sz,fun tt ft=>?_⟩;exact k l1 l2 tt _ f1 (S1.free f2) n12 (S.trans (Same.upd ft)) (Same.upd ft _ _ q1') (Same.upd ft _ _ q2) upd_same
def EdgeOk (M:MS)(hi rt:Option Int):Prop:=(hi=none/\rt=none)\/∃k p:Int,hi=some k/\rt=some p/\KeyR k/\p∈M.R.us
theorem big500 {n:Nat}(h:n<=500):n<sizeLine:=by have:=big1000;omega
inductive spNE (c:Cs)(vs:List V)(H:Hp)(Q:VK)(E:XK):Prop
 | mk (a:TA)(h:Hp)(x:Addr)(M:MS)(hi rt:Option Int):vs=[.ref x,oV hi,oV rt]->IsT c a h x M->Same h H->M.R.Ok->EdgeOk M hi rt->Q .non H->spNE c vs H Q E
theorem ok_T_need_edge:Mt F c.T F.r.T_need_edge 5 (spNE c):=by
 obtain⟨f,fd,X⟩:=F.TX;have C_Rounds:=F.cR;have C_Tree:=X.cl;refine F.r.T_need_edge.go X.m fun sc H Q hr h=>?_;obtain⟨a,h,x,M,hi,rt,rfl,t,s,ok,ed,k⟩:=h;obtain⟨_,_,_,_,cl,n1,n2,n3,n4,n5⟩:=X;have hx:=s _ _ t.x;have hR:=t.r.same s;have hr0:=hR.x
 refine'⟨_,(pss_cons (ps_if (PW.pt (pw_and (pc op_isN (pv 1) pe_non) (pw_and1 (pc op_isN (pv 2) pe_non))))
   (pss_one ps_retN)
   pss_nil)
  (pss_one (ps_if (PW.pt (pw_or (pt_not (pt_val (pe_d (ok_is_key F) hr (pa1 (pv 1))))) (pw_or1 (pt_not (pt_val (pe_m (pe_fld (pv 0) rfl) C_Rounds (ok_isU F) hr (pa1 (pv 2))))))))
   (pss_one ps_never)
   pss_nil))),?_⟩
 rcases ed with⟨rfl,rfl⟩|⟨k0,p0,rfl,rfl,hk,hp⟩
 ·walk;refine⟨rfl,?_⟩;walk;refine iteD rfl ?_;walk;refine⟨rfl,?_⟩;walk;refine iteD rfl ?_;walk;exact k
 ·walk;refine⟨rfl,?_⟩;walk;refine iteX (fun z=>nomatch z) ?_;walk;refine⟨k0,rfl,?_⟩;rw[key_t hk];walk;refine⟨a.r,a.dr,a.du,a.dk,a.df,a.dc,M.R,p0,rfl,hR,ok,?_⟩;rw[decide_eq_true hp];walk;exact k
inductive spHN (c:Cs)(vs:List V)(H:Hp)(Q:VK)(E:XK):Prop
 | mk (a:TA)(h:Hp)(x:Addr)(M:MS)(j:Nat)(n:ND)(w0:Int):vs=[.ref x,.int j,.int w0]->IsT c a h x M->Same h H->M.R.Ok->M.ns[j]?=some n->(j:Int)∈M.R.us->M.ns.length<=500->0<=w0->w0<=1000000->n.ho=some w0->(∀y,a.nd[j]?=some y->Q (.ref y) H)->spHN c vs H Q E
theorem ok_T_held_node:Mt F c.T F.r.T_held_node 6 (spHN c):=by
 obtain⟨fN,fdN,XN⟩:=F.NX;obtain⟨f,fd,X⟩:=F.TX;have C_Rounds:=F.cR;have C_Node:=XN.cl;obtain⟨_,_,_,_,clN,m1,m2,m3,m4,m5,m6⟩:=XN;have C_Tree:=X.cl;refine F.r.T_held_node.go X.m fun sc H Q hr h=>?_;obtain⟨a,h,x,M,j,n,w0,rfl,t,s,ok,hn,hu,few,b0,b1,ho,k⟩:=h;obtain⟨_,_,_,_,cl,n1,n2,n3,n4,n5⟩:=X;have hx:=s _ _ t.x;have hR:=t.r.same s;have hr0:=hR.x
 refine'⟨_,(pss_cons (ps_expr (pe_d (ok_need_doer F) hr (pa1 (pv 2))))
  (pss_cons (ps_v sc 3 (pe_dget (hu_of hr) (pe_fld (pv 0) rfl) (pv 1) (fun _ _=>rfl)))
  (pss_cons (ps_if (pc op_ne (pe_fld (pv 3) rfl) (pv 2))
   (pss_one ps_never)
   pss_nil)
  (pss_one (ps_ret (pv 3)))))),?_⟩
 obtain⟨y,hy⟩:=nth t.l hn;obtain⟨dp,pg,e0,hpg⟩:=t.e j y n hy hn;have e1:=s _ _ e0;have few1:(pK a.nd V.ref).length<sizeLine:=by rw[pK_len,t.l];exact big500 few
 rw[ho] at e1;walk;refine⟨w0,rfl,inR_t b0 b1,?_⟩;walk;refine k_dgetK (k:=Sum.inl (j:Int)) (s _ _ t.n) (pK_val hy) ?_;walk;refine iteNS rfl ?_;walk;exact k y hy
inductive spHold (c:Cs)(vs:List V)(H:Hp)(Q:VK)(E:XK):Prop
 | mk (a:TA)(h:Hp)(x:Addr)(M:MS)(j:Nat)(n:ND)(w0:Int):vs=[.ref x,.int j,.int w0]->IsT c a h x M->Same h H->M.R.Ok->M.ns[j]?=some n->(j:Int)∈M.R.us->M.ns.length<=500->0<=w0->w0<=1000000->n.ho=none->(∀a' h' H',IsT c a' h' x { M with ns:=M.ns.set j { n with ho:=some w0,wr:=false } }->Chg h h' H H'->Q .non H')->spHold c vs H Q E
theorem ok_T_hold:Mt F c.T F.r.T_hold 7 (spHold c):=by
 obtain⟨fN,fdN,XN⟩:=F.NX;obtain⟨f,fd,X⟩:=F.TX;have C_Rounds:=F.cR;have C_Node:=XN.cl;obtain⟨_,_,_,_,clN,m1,m2,m3,m4,m5,m6⟩:=XN;have C_Tree:=X.cl;refine F.r.T_hold.go X.m fun sc H Q hr h=>?_;obtain⟨a,h,x,M,j,n,w0,rfl,t,s,ok,hn,hu,few,b0,b1,ho,k⟩:=h;obtain⟨_,_,_,_,cl,n1,n2,n3,n4,n5⟩:=X;have hx:=s _ _ t.x;have hR:=t.r.same s;have hr0:=hR.x
 refine'⟨_,(pss_cons (ps_expr (pe_m (pv 0) C_Tree (ok_T_need_used F) hr (pa1 (pv 1))))
  (pss_cons (ps_expr (pe_d (ok_need_doer F) hr (pa1 (pv 2))))
  (pss_cons (ps_v sc 3 (pe_dget (hu_of hr) (pe_fld (pv 0) rfl) (pv 1) (fun _ _=>rfl)))
  (pss_cons (ps_if (pc op_notN (pe_fld (pv 3) rfl) pe_non)
   (pss_one ps_never)
   pss_nil)
  (pss_one (ps_dput (hu_of hr) (pe_fld (pv 0) rfl) (pv 1) (pe_m (pv 3) C_Node (ok_held F) hr (pa2 (pv 2) pe_bl)) rfl)))))),?_⟩
 obtain⟨y,hy⟩:=nth t.l hn;obtain⟨dp,pg,e0,hpg⟩:=t.e j y n hy hn;have e1:=s _ _ e0;have few1:(pK a.nd V.ref).length<sizeLine:=by rw[pK_len,t.l];exact big500 few
 rw[ho] at e1;walk;refine⟨a,h,x,M,_,rfl,t,s,ok,hu,?_⟩;walk;refine⟨w0,rfl,inR_t b0 b1,?_⟩;walk;refine k_dgetK (k:=Sum.inl (j:Int)) (s _ _ t.n) (pK_val hy) ?_;walk;refine⟨rfl,?_⟩;walk;refine iteNS rfl ?_;walk;refine⟨y,dp,pg,n.lv,n.hi,n.rt,none,some w0,n.wr,false,rfl,e1,fun y2 dy2 H1 f1 S1 q1=>?_⟩;walk;refine k_dputK (k:=Sum.inl (j:Int)) (S1 _ _ (s _ _ t.n)) few1 ?_
 obtain⟨t2,c2⟩:=t.put s (n':={ n with ho:=some w0,wr:=false }) hn S1 f1 q1 ⟨dy2,pg,upd_same,hpg.same (Same.upd (s.free f1))⟩ rfl;exact k _ _ _ t2 c2
inductive spWrite (c:Cs)(vs:List V)(H:Hp)(Q:VK)(E:XK):Prop
 | mk (a:TA)(h:Hp)(x:Addr)(M:MS)(j:Nat)(n:ND)(w0:Int)(pg:Addr)(ks gs:List Int)(hi rt:Option Int):vs=[.ref x,.int j,.int w0,.ref pg,oV hi,oV rt]->IsT c a h x M->Same h H->M.R.Ok->M.ns[j]?=some n->(j:Int)∈M.R.us->M.ns.length<=500->0<=w0->w0<=1000000->n.ho=some w0->Pg c.pg h pg n.lv ks gs->EdgeOk M hi rt->(∀a' h' H',IsT c a' h' x { M with ns:=M.ns.set j { n with ks:=ks,gs:=gs,hi:=hi,rt:=rt,wr:=true } }->Chg h h' H H'->Q .non H')->spWrite c vs H Q E
theorem ok_T_write:Mt F c.T F.r.T_write 8 (spWrite c):=by
 obtain⟨fN,fdN,XNode⟩:=F.NX;obtain⟨f,fd,X⟩:=F.TX;have C_Rounds:=F.cR;have T:=F.r.T;have GNode:FnOk P w K mg base CX0 1 fN fdN ["self","level","bears","high","right"] (spNode c.N):=ok_node XNode T;have C_Node:=XNode.cl;have XN:=XNode;obtain⟨_,_,_,_,clN,m1,m2,m3,m4,m5,m6⟩:=XN;have C_Tree:=X.cl;refine F.r.T_write.go X.m fun sc H Q hr h=>?_
 obtain⟨a,h,x,M,j,n,w0,pgn,ks,gs,hi,rt,rfl,t,s,ok,hn,hu,few,b0,b1,ho,hpn,ed,k⟩:=h;obtain⟨_,_,_,_,cl,n1,n2,n3,n4,n5⟩:=X;have hx:=s _ _ t.x;have hR:=t.r.same s;have hr0:=hR.x
 refine'⟨_,(pss_cons (ps_expr (pe_m (pv 0) C_Tree (ok_T_need_used F) hr (pa1 (pv 1))))
  (pss_cons (ps_v sc 6 (pe_m (pv 0) C_Tree (ok_T_held_node F) hr (pa2 (pv 1) (pv 2))))
  (pss_cons (ps_expr (pe_d (ok_need_page F) hr (pa2 (pe_fld (pv 6) rfl) (pv 3))))
  (pss_cons (ps_expr (pe_m (pv 0) C_Tree (ok_T_need_edge F) hr (pa2 (pv 4) (pv 5))))
  (pss_one (ps_dput (hu_of hr) (pe_fld (pv 0) rfl) (pv 1) (pe_m (pe_make XNode.mak GNode (hr.mono (by decide)) rfl XNode.m XNode.bi .nil pass0 (pa4 (pe_fld (pv 6) rfl) (pv 3) (pv 4) (pv 5))) C_Node (ok_held F) hr (pa2 (pv 2) pe_bl)) rfl)))))),?_⟩
 obtain⟨y,hy⟩:=nth t.l hn;obtain⟨dp,pg,e0,hpg⟩:=t.e j y n hy hn;have e1:=s _ _ e0;have few1:(pK a.nd V.ref).length<sizeLine:=by rw[pK_len,t.l];exact big500 few
 walk;refine⟨a,h,x,M,_,rfl,t,s,ok,hu,?_⟩;walk;refine⟨a,h,x,M,j,n,w0,rfl,t,s,ok,hn,hu,few,b0,b1,ho,fun y' hy'=>?_⟩;rw[hy] at hy';cases Option.some.inj hy';walk;refine⟨n.lv,pgn,ks,gs,rfl,hpn.same s,?_⟩;walk;refine⟨a,h,x,M,hi,rt,rfl,t,s,ok,ed,?_⟩;walk;intro y1 dy1 fy fdy nd1;refine⟨y1,dy1,pgn,n.lv,hi,rt,rfl,upd_same,fun H1 q0 k1=>⟨rfl,?_⟩⟩
 have S01:Same H H1:=fun b o z=>k1 b o (new_ins fy fdy z) (ne_of_none z fy);walk;refine⟨y1,dy1,pgn,n.lv,hi,rt,none,some w0,false,true,rfl,q0,fun y2 dy2 H2 f2 S2 q2=>?_⟩;have S02:=S01.trans S2;have f2':=S01.free f2;clear S2 S01;walk;refine k_dputK (k:=Sum.inl (j:Int)) (S02 _ _ (s _ _ t.n)) few1 ?_
 obtain⟨t2,c2⟩:=t.put s (n':={ n with ks:=ks,gs:=gs,hi:=hi,rt:=rt,wr:=true }) hn S02 f2' q2 ⟨dy2,pgn,by rw[ho];exact upd_same,hpn.same (Same.upd (s.free f2'))⟩ rfl;exact k _ _ _ t2 c2
inductive spFree (c:Cs)(vs:List V)(H:Hp)(Q:VK)(E:XK):Prop
 | mk (a:TA)(h:Hp)(x:Addr)(M:MS)(j:Nat)(n:ND)(w0:Int):vs=[.ref x,.int j,.int w0]->IsT c a h x M->Same h H->M.R.Ok->M.ns[j]?=some n->(j:Int)∈M.R.us->M.ns.length<=500->0<=w0->w0<=1000000->n.ho=some w0->(∀a' h' H',IsT c a' h' x { M with ns:=M.ns.set j { n with ver:=n.ver+(if n.wr then 1 else 0),ho:=none,wr:=false } }->Chg h h' H H'->Q .non H')->spFree c vs H Q E
theorem ok_T_free:Mt F c.T F.r.T_free 8 (spFree c):=by
 obtain⟨fN,fdN,XN⟩:=F.NX;obtain⟨f,fd,X⟩:=F.TX;have C_Rounds:=F.cR;have C_Node:=XN.cl;obtain⟨_,_,_,_,clN,m1,m2,m3,m4,m5,m6⟩:=XN;have C_Tree:=X.cl;refine F.r.T_free.go X.m fun sc H Q hr h=>?_;obtain⟨a,h,x,M,j,n,w0,rfl,t,s,ok,hn,hu,few,b0,b1,ho,k⟩:=h;obtain⟨_,_,_,_,cl,n1,n2,n3,n4,n5⟩:=X;have hx:=s _ _ t.x;have hR:=t.r.same s;have hr0:=hR.x
 refine'⟨_,(pss_cons (ps_expr (pe_m (pv 0) C_Tree (ok_T_need_used F) hr (pa1 (pv 1))))
  (pss_cons (ps_v sc 3 (pe_m (pv 0) C_Tree (ok_T_held_node F) hr (pa2 (pv 1) (pv 2))))
  (pss_cons (ps_if (pt_val (pe_fld (pv 3) rfl))
   (pss_one (ps_daug (hu_of hr) (pe_fld (pv 0) rfl) (pv 1) pe_int in_add (fun _ _ _=>rfl)))
   pss_nil)
  (pss_one (ps_dput (hu_of hr) (pe_fld (pv 0) rfl) (pv 1) (pe_m (pv 3) C_Node (ok_held F) hr (pa2 pe_non pe_bl)) rfl))))),?_⟩
 obtain⟨y,hy⟩:=nth t.l hn;obtain⟨dp,pg,e0,hpg⟩:=t.e j y n hy hn;have e1:=s _ _ e0;have few1:(pK a.nd V.ref).length<sizeLine:=by rw[pK_len,t.l];exact big500 few
 have jl:j<M.ns.length:=(List.getElem?_eq_some_iff.mp hn).1;walk;refine⟨a,h,x,M,_,rfl,t,s,ok,hu,?_⟩;walk;refine⟨a,h,x,M,j,n,w0,rfl,t,s,ok,hn,hu,few,b0,b1,ho,fun y' hy'=>?_⟩;rw[hy] at hy';cases Option.some.inj hy';walk;cases hw:n.wr with
 | false=>
  rw[hw] at k;walk;refine⟨y,dp,pg,n.lv,n.hi,n.rt,n.ho,none,n.wr,false,rfl,e1,fun y2 dy2 H1 f1 S1 q1=>?_⟩;walk;refine k_dputK (k:=Sum.inl (j:Int)) (S1 _ _ (s _ _ t.n)) few1 ?_;obtain⟨t2,c2⟩:=t.put s (n':={ n with ver:=n.ver+(if false=true then 1 else 0),ho:=none,wr:=false }) hn S1 f1 q1 ⟨dy2,pg,upd_same,hpg.same (Same.upd (s.free f1))⟩ (Int.add_zero _);exact k _ _ _ t2 c2
 | true=>
  rw[hw] at k;walk;refine s_daug ?_;walk;refine k_daug (k:=Sum.inl (j:Int)) (s _ _ t.v) (pK_val hn) (by rw[pK_len];exact big500 few) ?_;obtain⟨t1,c1⟩:=t.putV s hn (n.ver+1);have hn1:(M.ns.set j { n with ver:=n.ver+1 })[j]?=some { n with ver:=n.ver+1 }:=by rw[List.getElem?_set,if_pos rfl,if_pos jl]
  obtain⟨dp1,pg1,e01,hpg1⟩:=t1.e j y _ hy hn1;have s1:=c1.sm;have e11:=s1 _ _ e01;have hx1:=s1 _ _ t1.x;generalize upd H a.dv _=H0 at *;walk;refine⟨y,dp1,pg1,n.lv,n.hi,n.rt,n.ho,none,n.wr,false,rfl,e11,fun y2 dy2 H1 f1 S1 q1=>?_⟩;walk;refine k_dputK (k:=Sum.inl (j:Int)) (S1 _ _ (s1 _ _ t1.n)) few1 ?_
  obtain⟨t2,c2⟩:=t1.put s1 (n':={ n with ver:=n.ver+(if true=true then 1 else 0),ho:=none,wr:=false }) hn1 S1 f1 q1 ⟨dy2,pg1,upd_same,hpg1.same (Same.upd (s1.free f1))⟩ rfl;dsimp only at t2;rw[List.set_set] at t2;exact k _ _ _ t2 (c1.trans c2)
inductive spGo (c:Cs)(vs:List V)(H:Hp)(Q:VK)(E:XK):Prop
 | mk (a:TA)(h:Hp)(x:Addr)(M:MS)(j:Nat)(n:ND)(w0:Int):vs=[.ref x,.int j,.int w0]->IsT c a h x M->Same h H->M.R.Ok->M.ns[j]?=some n->(j:Int)∈M.R.us->M.ns.length<=500->0<=w0->w0<=1000000->n.ho=some w0->M.R.cs.length<=500->M.R.places.length<=500->(∃p:Int,M.top=some p/\(j:Int)≠p)->(∀a' h' H',IsT c a' h' x { M with ns:=M.ns.set j { n with ver:=n.ver+1,ho:=none,gone:=true,wr:=false },R:=(M.R.gone j).rel }->Chg h h' H H'->Q .non H')->spGo c vs H Q E
theorem ok_T_go:Mt F c.T F.r.T_go 8 (spGo c):=by
 obtain⟨fN,fdN,XN⟩:=F.NX;obtain⟨f,fd,X⟩:=F.TX;have C_Rounds:=F.cR;have C_Node:=XN.cl;obtain⟨_,_,_,_,clN,m1,m2,m3,m4,m5,m6⟩:=XN;have C_Tree:=X.cl;refine F.r.T_go.go X.m fun sc H Q hr h=>?_;obtain⟨a,h,x,M,j,n,w0,rfl,t,s,ok,hn,hu,few,b0,b1,ho,fewc,fewp,⟨tp,htp,ntp⟩,k⟩:=h;obtain⟨_,_,_,_,cl,n1,n2,n3,n4,n5⟩:=X;have hx:=s _ _ t.x;have hR:=t.r.same s;have hr0:=hR.x
 refine'⟨_,(pss_cons (ps_expr (pe_m (pv 0) C_Tree (ok_T_need_used F) hr (pa1 (pv 1))))
  (pss_cons (ps_if (pc op_eq (pv 1) (pe_fld (pv 0) rfl))
   (pss_one ps_never)
   pss_nil)
  (pss_cons (ps_v sc 3 (pe_m (pv 0) C_Tree (ok_T_held_node F) hr (pa2 (pv 1) (pv 2))))
  (pss_cons (ps_dput (hu_of hr) (pe_fld (pv 0) rfl) (pv 1) (pe_m (pv 3) C_Node (ok_held F) hr (pa2 pe_non pe_bl)) rfl)
  (pss_cons (ps_daug (hu_of hr) (pe_fld (pv 0) rfl) (pv 1) pe_int in_add (fun _ _ _=>rfl))
  (pss_one (ps_expr (pe_m (pe_fld (pv 0) rfl) C_Rounds (ok_went F) hr (pa1 (pv 1)))))))))),?_⟩
 obtain⟨y,hy⟩:=nth t.l hn;obtain⟨dp,pg,e0,hpg⟩:=t.e j y n hy hn;have e1:=s _ _ e0;have few1:(pK a.nd V.ref).length<sizeLine:=by rw[pK_len,t.l];exact big500 few
 have jl:j<M.ns.length:=(List.getElem?_eq_some_iff.mp hn).1;walk;refine⟨a,h,x,M,_,rfl,t,s,ok,hu,?_⟩;have hx0:=hx;rw[htp] at hx0;clear hx;walk;refine iteX (fun z=>ntp (V.int.inj z)) ?_;walk;refine⟨a,h,x,M,j,n,w0,rfl,t,s,ok,hn,hu,few,b0,b1,ho,fun y' hy'=>?_⟩;rw[hy] at hy';cases Option.some.inj hy';walk;refine⟨y,dp,pg,n.lv,n.hi,n.rt,n.ho,none,n.wr,false,rfl,e1,fun y2 dy2 H1 f1 S1 q1=>?_⟩;walk
 refine k_dputK (k:=Sum.inl (j:Int)) (S1 _ _ (s _ _ t.n)) few1 ?_;obtain⟨t2,c2⟩:=t.put s (n':={ n with ho:=none,gone:=true,wr:=false }) hn S1 f1 q1 ⟨dy2,pg,upd_same,hpg.same (Same.upd (s.free f1))⟩ rfl;have s2:=c2.sm;have hx2:=s2 _ _ t2.x;clear hx0;generalize upd H1 a.dn _=H2 at *;generalize upd (upd h y2 _) a.dn _=h2 at *
 have hn2:(M.ns.set j { n with ho:=none,gone:=true,wr:=false })[j]?=some { n with ho:=none,gone:=true,wr:=false }:=by rw[List.getElem?_set,if_pos rfl,if_pos jl]
 walk;refine s_daug ?_;walk;refine k_daug (k:=Sum.inl (j:Int)) (s2 _ _ t2.v) (pK_val hn2) (by rw[pK_len,List.length_set];exact big500 few) ?_;obtain⟨t3,c3⟩:=t2.putV s2 hn2 (n.ver+1);have s3:=c3.sm;have hx3:=s3 _ _ t3.x;have hR3:=t3.r.same s3;have hr3:=hR3.x;dsimp only at t3 c3 s3;rw[List.set_set] at t3 c3 s3;clear hx2;generalize upd H2 a.dv _=H3 at *;generalize upd h2 a.dv _=h3 at *;walk
 refine⟨a.r,a.dr,a.du,a.dk,a.df,a.dc,M.R,_,rfl,hR3,ok,fewp,fewc,hu,fun H4 r4 k4=>?_⟩;obtain⟨t4,c4⟩:=t3.setR s3 k4 (by simp) r4;exact k _ _ _ t4 ((c2.trans c3).trans c4)
inductive spLead (c:Cs)(vs:List V)(H:Hp)(Q:VK)(E:XK):Prop
 | mk (a:TA)(h:Hp)(x:Addr)(M:MS)(o0 p0 tp:Int):vs=[.ref x,.int o0,.int p0]->IsT c a h x M->Same h H->M.R.Ok->o0∈M.R.us->p0∈M.R.us->M.top=some tp->(o0≠tp->Q (.bl false) H)->(o0=tp->∀h' H',IsT c a h' x { M with top:=some p0 }->Chg h h' H H'->Q (.bl true) H')->spLead c vs H Q E
theorem ok_T_lead:Mt F c.T F.r.T_lead 5 (spLead c):=by
 obtain⟨f,fd,X⟩:=F.TX;have C_Rounds:=F.cR;have C_Tree:=X.cl;refine F.r.T_lead.go X.m fun sc H Q hr h=>?_;obtain⟨a,h,x,M,o0,p0,tp,rfl,t,s,ok,ho,hp,htp,k1,k2⟩:=h;obtain⟨_,_,_,_,cl,n1,n2,n3,n4,n5⟩:=X;have hx:=s _ _ t.x;have hR:=t.r.same s;have hr0:=hR.x
 refine'⟨_,(pss_cons (ps_expr (pe_m (pv 0) C_Tree (ok_T_need_used F) hr (pa1 (pv 1))))
  (pss_cons (ps_expr (pe_m (pv 0) C_Tree (ok_T_need_used F) hr (pa1 (pv 2))))
  (pss_cons (ps_if (pc op_ne (pv 1) (pe_fld (pv 0) rfl))
   (pss_one (ps_ret pe_bl))
   pss_nil)
  (pss_cons (ps_fld (pv 0) (pv 2) rfl)
  (pss_one (ps_ret pe_bl)))))),?_⟩
 walk;refine⟨a,h,x,M,_,rfl,t,s,ok,ho,?_⟩;walk;refine⟨a,h,x,M,_,rfl,t,s,ok,hp,?_⟩;rw[htp] at hx;walk;by_cases e:o0=tp
 ·refine iteNS (congrArg V.int e) ?_;walk;exact k2 e _ _ (t.setTop p0) (Chg.mut s t.x)
 ·refine iteNX (fun z=>e (V.int.inj z)) ?_;walk;exact k1 e
inductive spTEnter (c:Cs)(vs:List V)(H:Hp)(Q:VK)(E:XK):Prop
 | mk (a:TA)(h:Hp)(x:Addr)(M:MS)(w0:Int):vs=[.ref x,.int w0]->IsT c a h x M->Same h H->M.R.cs.length<=500->0<=w0->w0<=1000000->w0∉M.R.cs.map (·.1)->(∀h' H',IsT c a h' x { M with R:=M.R.come w0 }->Chg h h' H H'->Q .non H')->spTEnter c vs H Q E
theorem ok_T_enter:Mt F c.T F.r.T_enter 7 (spTEnter c):=by
 obtain⟨f,fd,X⟩:=F.TX;have C_Rounds:=F.cR;have C_Tree:=X.cl;refine F.r.T_enter.go X.m fun sc H Q hr h=>?_;obtain⟨a,h,x,M,w0,rfl,t,s,few,b0,b1,hm,k⟩:=h;obtain⟨_,_,_,_,cl,n1,n2,n3,n4,n5⟩:=X;have hx:=s _ _ t.x;have hR:=t.r.same s;have hr0:=hR.x;refine'⟨_,(pss_one (ps_expr (pe_m (pe_fld (pv 0) rfl) C_Rounds (ok_enter F) hr (pa1 (pv 1))))),?_⟩;walk
 refine⟨a.r,a.dr,a.du,a.dk,a.df,a.dc,M.R,_,rfl,hR,few,b0,b1,hm,fun H4 r4 k4=>?_⟩;obtain⟨t4,c4⟩:=t.setR s k4 (by simp) r4;exact k _ _ t4 c4
inductive spTLeave (c:Cs)(vs:List V)(H:Hp)(Q:VK)(E:XK):Prop
 | mk (a:TA)(h:Hp)(x:Addr)(M:MS)(w0:Int):vs=[.ref x,.int w0]->IsT c a h x M->Same h H->M.R.Ok->M.R.places.length<=500->M.R.cs.length<=500->w0∈M.R.cs.map (·.1)->(∀h' H',IsT c a h' x { M with R:=(M.R.left w0).rel }->Chg h h' H H'->Q .non H')->spTLeave c vs H Q E
theorem ok_T_leave:Mt F c.T F.r.T_leave 7 (spTLeave c):=by
 obtain⟨f,fd,X⟩:=F.TX;have C_Rounds:=F.cR;have C_Tree:=X.cl;refine F.r.T_leave.go X.m fun sc H Q hr h=>?_;obtain⟨a,h,x,M,w0,rfl,t,s,ok,few,fewc,hm,k⟩:=h;obtain⟨_,_,_,_,cl,n1,n2,n3,n4,n5⟩:=X;have hx:=s _ _ t.x;have hR:=t.r.same s;have hr0:=hR.x;refine'⟨_,(pss_one (ps_expr (pe_m (pe_fld (pv 0) rfl) C_Rounds (ok_leave F) hr (pa1 (pv 1))))),?_⟩;walk
 refine⟨a.r,a.dr,a.du,a.dk,a.df,a.dc,M.R,_,rfl,hR,ok,few,fewc,hm,fun H4 r4 k4=>?_⟩;obtain⟨t4,c4⟩:=t.setR s k4 (by simp) r4;exact k _ _ t4 c4
def MS.made (M:MS)(j:Nat)(lv:Int)(ks gs:List Int)(hi rt:Option Int):MS:={ M with R:=M.R.take j,ns:=if j<M.ns.length then M.ns.set j ⟨lv,ks,gs,hi,rt,(M.ns[j]?.map (·.ver)).getD 0,none,false,false⟩ else M.ns++[⟨lv,ks,gs,hi,rt,0,none,false,false⟩] }
def Given (M:MS)(j:Nat):Prop:=M.R.fs=[]/\j=M.ns.length\/(j:Int)∈M.R.fs/\∀n∈M.R.fs,(j:Int)<=n
inductive spMade (c:Cs)(vs:List V)(H:Hp)(Q:VK)(E:XK):Prop
 | mk (a:TA)(h:Hp)(x:Addr)(M:MS)(lv:Int)(pg:Addr)(ks gs:List Int)(hi rt:Option Int):vs=[.ref x,.int lv,.ref pg,oV hi,oV rt]->IsT c a h x M->Same h H->M.R.Ok->M.R.places.length=M.ns.length->M.ns.length<=400->0<=lv->lv<=60->Pg c.pg h pg lv ks gs->EdgeOk M hi rt->(∀j a' h' H',Given M j->IsT c a' h' x (M.made j lv ks gs hi rt)->Chg h h' H H'->Q (.int j) H')->spMade c vs H Q E
theorem ok_T_made:Mt F c.T F.r.T_made 8 (spMade c):=by
 obtain⟨fN,fdN,XNode⟩:=F.NX;obtain⟨f,fd,X⟩:=F.TX;have C_Rounds:=F.cR;have T:=F.r.T;have GNode:FnOk P w K mg base CX0 1 fN fdN ["self","level","bears","high","right"] (spNode c.N):=ok_node XNode T;have C_Tree:=X.cl;refine F.r.T_made.go X.m fun sc H Q hr h=>?_;obtain⟨a,h,x,M,lv,pg,ks,gs,hi,rt,rfl,t,s,ok,ln,few,b0,b1,hpg,ed,k⟩:=h;obtain⟨_,_,_,_,cl,n1,n2,n3,n4,n5⟩:=X;have hx:=s _ _ t.x
 have hR:=t.r.same s;have hr0:=hR.x
 refine'⟨_,(pss_cons (ps_expr (pe_d (ok_need_level F) hr (pa1 (pv 1))))
  (pss_cons (ps_expr (pe_d (ok_need_page F) hr (pa2 (pv 1) (pv 2))))
  (pss_cons (ps_expr (pe_m (pv 0) C_Tree (ok_T_need_edge F) hr (pa2 (pv 3) (pv 4))))
  (pss_cons (ps_v sc 5 (pe_m0 (pe_fld (pv 0) rfl) C_Rounds (ok_given F) hr))
  (pss_cons (ps_dput (hu_of hr) (pe_fld (pv 0) rfl) (pv 5) (pe_make XNode.mak GNode (hr.mono (by decide)) rfl XNode.m XNode.bi .nil pass0 (pa4 (pv 1) (pv 2) (pv 3) (pv 4))) rfl)
  (pss_cons (ps_expr (pe_dset (pe_fld (pv 0) rfl) (pv 5) pe_int ⟨rfl,rfl,rfl,rfl⟩))
  (pss_one (ps_ret (pv 5))))))))),?_⟩
 walk;refine⟨lv,rfl,inR_t b0 b1,?_⟩;walk;refine⟨lv,pg,ks,gs,rfl,hpg.same s,?_⟩;walk;refine⟨a,h,x,M,hi,rt,rfl,t,s,ok,ed,?_⟩;walk;refine⟨a.r,a.dr,a.du,a.dk,a.df,a.dc,M.R,rfl,hR,ok,by omega,fun p H1 hp r1 k1=>?_⟩;obtain⟨t1,c1⟩:=t.setR s k1 (by simp) r1
 have hpg1:Pg c.pg (rsH h H1) pg lv ks gs:=hpg.rs s k1 (fun b hb=>by
  simp only[List.mem_cons,List.not_mem_nil,or_false] at hb;rcases hb with rfl|rfl
  ·exact⟨_,t.r.u⟩
  ·exact⟨_,t.r.f⟩)
 have s1:=c1.sm;have hx1:=s1 _ _ t1.x;generalize rsH h H1=h1 at *;clear hx;have fewn:(pK a.nd V.ref).length<sizeLine:=by rw[pK_len,t.l];exact big500 (by omega)
 have fewv:(pK M.ns fun n=>V.int n.ver).length<sizeLine:=by rw[pK_len];exact big500 (by omega)
 walk;intro y dy fy fdy nd;refine⟨y,dy,pg,lv,hi,rt,rfl,upd_same,fun H2 q2 k2=>⟨rfl,?_⟩⟩;have S12:Same H1 H2:=fun b o z=>k2 b o (new_ins fy fdy z) (ne_of_none z fy);have isn:∀v:Int,IsN c (upd h1 y (.ins c.N dy (nF lv pg hi rt none false))) y ⟨lv,ks,gs,hi,rt,v,none,false,false⟩:=fun v=>⟨dy,pg,upd_same,hpg1.same (Same.upd (s1.free fy))⟩;walk
 refine k_dputK (k:=Sum.inl p) (S12 _ _ (s1 _ _ t1.n)) fewn ?_;rcases hp with⟨hf,rfl⟩|⟨hm,hmin⟩
 ·have hv:upd H2 a.dn (.dK (putK (pK a.nd V.ref) (Sum.inl ((M.R.places.length:Nat):Int)) (.ref y))) a.dv=some (.dK (pK M.ns fun n=>V.int n.ver)):=by
   rw[upd_ne (Ne.symm t1.d.2.2)];exact S12 _ _ (s1 _ _ t1.v)
  have hx3:upd H2 a.dn (.dK (putK (pK a.nd V.ref) (Sum.inl ((M.R.places.length:Nat):Int)) (.ref y))) x=some (.ins c.T a.dx (tF M.most a.r a.dn a.dv M.top)):=by
   rw[upd_ne (ne_of t1.x t1.n (fun z=>nomatch z))];exact S12 _ _ hx1
  have tA:=t1.addN (s1.free fy) (isn 0)
  have cA:Chg h1 (upd (upd (upd h1 y (.ins c.N dy (nF lv pg hi rt none false))) a.dn (.dK (pK (a.nd++[y]) V.ref))) a.dv (.dK (pK (M.ns++[⟨lv,ks,gs,hi,rt,0,none,false,false⟩]) fun n=>V.int n.ver))) H1 (upd (upd H2 a.dn (.dK (putK (pK a.nd V.ref) (Sum.inl ((M.R.places.length:Nat):Int)) (.ref y)))) a.dv (.dK (putK (pK M.ns fun n=>V.int n.ver) (Sum.inl ((M.R.places.length:Nat):Int)) (.int 0)))):=by
   have g1:putK (pK a.nd V.ref) (Sum.inl ((M.R.places.length:Nat):Int)) (.ref y)=pK (a.nd++[y]) V.ref:=by rw[ln,<- t.l];exact pK_new
   have g2:putK (pK M.ns fun n=>V.int n.ver) (Sum.inl ((M.R.places.length:Nat):Int)) (.int 0)=pK (M.ns++[⟨lv,ks,gs,hi,rt,0,none,false,false⟩]) fun n=>V.int n.ver:=by rw[ln];exact pK_new (f:=fun n:ND=>V.int n.ver) (x:=⟨lv,ks,gs,hi,rt,0,none,false,false⟩)
   rw[g1,g2];have d1:Chg h1 (upd h1 y (.ins c.N dy (nF lv pg hi rt none false))) H1 H2:=.addS s1 S12 fy q2;have d2:=d1.trans (.mut (o:=.dK (pK (a.nd++[y]) V.ref)) d1.sm (un_f (s1.free fy) t1.n));exact d2.trans (.mut d2.sm (by rw[upd_ne (Ne.symm t1.d.2.2)];exact un_f (s1.free fy) t1.v))
  generalize upd H2 a.dn _=H3 at *;walk;refine r_dset ?_;walk;refine k_ds hv ?_;walk;refine k_dset (k:=Sum.inl ((M.R.places.length:Nat):Int)) hv fewv (fun v e=>?_) fun _=>?_
  ·rw[ln,pK_no (Nat.le_refl _)] at e;cases e
  ·walk;have eM:M.made M.R.places.length lv ks gs hi rt={ M with R:=M.R.take ((M.R.places.length:Nat):Int),ns:=M.ns++[⟨lv,ks,gs,hi,rt,0,none,false,false⟩] }:=by unfold MS.made;rw[if_neg (by omega)]
   exact k _ _ _ _ (.inl ⟨hf,ln⟩) ((congrArg (IsT c _ _ x) eM).mpr tA) (c1.trans cA)
 ·have rg:=ok.rg p (by unfold RS.places;exact List.mem_append_right _ hm);obtain⟨j,rfl⟩:∃j:Nat,p=j:=⟨p.toNat,by omega⟩;have jl:j<M.ns.length:=by omega
  have hn:M.ns[j]?=some M.ns[j]:=List.getElem?_eq_getElem jl;obtain⟨t2,c2⟩:=t1.put s1 (n':=⟨lv,ks,gs,hi,rt,M.ns[j].ver,none,false,false⟩) hn S12 fy q2 (isn _) rfl;have s2:=c2.sm;have hx3:=s2 _ _ t2.x
  have hv:upd H2 a.dn (.dK (putK (pK a.nd V.ref) (Sum.inl (j:Int)) (.ref y))) a.dv=some (.dK (pK M.ns fun n=>V.int n.ver)):=by
   rw[upd_ne (Ne.symm t1.d.2.2)];exact S12 _ _ (s1 _ _ t1.v)
  generalize upd H2 a.dn _=H3 at *;walk;refine r_dset ?_;walk;refine k_ds hv ?_;walk;refine k_dset (k:=Sum.inl (j:Int)) hv fewv (fun v e=>?_) fun e=>?_
  ·walk;have eM:M.made j lv ks gs hi rt={ M with R:=M.R.take j,ns:=M.ns.set j ⟨lv,ks,gs,hi,rt,M.ns[j].ver,none,false,false⟩ }:=by unfold MS.made;rw[if_pos jl,hn];rfl
   exact k j _ _ _ (.inr ⟨hm,hmin⟩) ((congrArg (IsT c _ _ x) eM).mpr t2) (c1.trans c2)
  ·rw[pK_val hn] at e;cases e
theorem mk_page {C}{okg:Nat->List Int->Prop}{Q:VK}{H:Hp}{la lb}{ks gs:List Int}(h1:H la=some (.lst (ks.map V.int)))(h2:H lb=some (.lst (gs.map V.int)))(ok:KeysOk ks)(og:okg ks.length gs)
  (q:∀x dx tk tg H',H x=none->H tk=none->H tg=none->Same H H'->H' x=some (.ins C dx (PgF tk tg))->H' tk=some (.tup (ks.map V.int))->H' tg=some (.tup (gs.map V.int))->Q (.ref x) H'):KMake C (spMake C okg) [] E0 Q [.ref la,.ref lb] H:=by
 intro x dx fx fdx nd;refine⟨x,dx,la,lb,ks,gs,rfl,upd_same,new_ins fx fdx h1,new_ins fx fdx h2,ok,og,fun H' tk tg B f1 f2 e1 e2 e3=>⟨rfl,?_⟩⟩
 have out:∀{b:Addr},upd (upd H dx (.own x)) x (.ins C dx []) b=none->H b=none:=fun {b} z=>by
  cases q0:H b with
  | none=>rfl
  | some o=>rw[new_ins fx fdx q0] at z;cases z
 exact q x dx tk tg H' fx (out f1) (out f2) (fun b o z=>B b o (new_ins fx fdx z) (ne_of_none z fx)) e1 e2 e3
def MS.init (most:Int):MS:=⟨most,some 0,[⟨0,[],[],none,none,0,none,false,false⟩],⟨0,[0],[],[],[]⟩⟩
section
variable {P:Program}{w:World}{K:Frag}{mg:Str->Option Value}{base:Heap}{c:Cs}
theorem sc_Tree___init__:FnScope ["self","most"] ["self","most"] (defScope (inClass (top 53) 0)):=by walk_at "s"
inductive spTInit (c:Cs)(vs:List V)(H:Hp)(Q:VK)(E:XK):Prop
 | mk (x dx:Addr)(most:Int):vs=[.ref x,.int most]->H x=some (.ins c.T dx [])->2<=most->most<=5->(∀a h' H',IsT c a h' x (MS.init most)->Same h' H'->(∀b,h' b=none\/b=x\/H b=none)->But x H H'->Q .non H')->spTInit c vs H Q E
theorem ok_T_init {f fd}(F:Fx P w K mg base c)(X:TrN K mg c.T f fd):FnOk P w K mg base CX0 11 f fd ["self","most"] (spTInit c):=by
 obtain⟨fL,fdL,XLeaf⟩:=F.LX;obtain⟨fR,fdR,XRounds⟩:=F.RX;have T:=F.r.T;have GLeaf:=ok_leaf F XLeaf;have GRounds:FnOk P w K mg base CX0 1 fR fdR ["self"] (spInit c.R):=ok_init XRounds T;have C_Tree:=X.cl;have XX:=X;refine XX.fn.ok sc_Tree___init__ (fun vs H Q E h=>?_) (fun cdv A outer s0 H vs Q E hr h=>?_)
 ·obtain⟨_,_,_,rfl,_⟩:=h;rfl
 ·obtain⟨x,dx,most,rfl,hx,b0,b1,k⟩:=h;have sc:=sc_Tree___init__;obtain⟨_,_,_,_,cl,n1,n2,n3,n4,n5⟩:=X
  refine'⟨_,(pss_cons (ps_expr (pe_d (ok_need_most F) hr (pa1 (pv 1))))
  (pss_cons (ps_fld (pv 0) (pv 1) rfl)
  (pss_cons (ps_fld (pv 0) (pe_make0 XRounds.mak GRounds (hr.mono (by decide)) rfl XRounds.m XRounds.bi .nil pass0) rfl)
  (pss_cons (ps_fld (pv 0) pe_dnewK rfl)
  (pss_cons (ps_fld (pv 0) pe_dnewK rfl)
  (pss_one (ps_fld (pv 0) (pe_m (pv 0) C_Tree (ok_T_made F) hr (pa4 pe_int (pe_make XLeaf.mak GLeaf (hr.mono (by decide)) rfl XLeaf.m XLeaf.bi .nil pass0 (pa2 (pe_lst pa_nil) (pe_lst pa_nil))) pe_non pe_non)) rfl))))))),?_⟩
  walk;refine⟨most,rfl,inR_t b0 b1,?_⟩;walk;have e0:upd H x (.ins c.T dx (putF "most_keys" (.int most) [])) x=some (.ins c.T dx [("most_keys",.int most)]):=upd_same;have B0:But x H (upd H x (.ins c.T dx (putF "most_keys" (.int most) []))):=fun b o z n=>by rw[upd_ne n];exact z
  generalize upd H x _=H1 at *;intro r dr fr fdr nd;refine⟨r,dr,rfl,upd_same,fun du dk df dc H2 z1 z2 z3 z4 r2 k2=>⟨rfl,?_⟩⟩;have S12:Same H1 H2:=fun b o z=>k2 b o (new_ins fr fdr z) (by simp[ne_of_none z fr])
  have out:∀{b:Addr},upd (upd H1 dr (.own r)) r (.ins c.R dr []) b=none->H1 b=none:=fun {b} z=>by
   cases q0:H1 b with
   | none=>rfl
   | some o=>rw[new_ins fr fdr q0] at z;cases z
  replace z1:=out z1;replace z2:=out z2;replace z3:=out z3;replace z4:=out z4;clear out k2;have e2:=S12 _ _ e0;walk;have nx:∀{b:Addr},H1 b=none->x≠b:=fun z=>ne_of_none e0 z;have xn:x∉[r,du,dk,df,dc]:=by simp[nx fr,nx z1,nx z2,nx z3,nx z4]
  have r3:=r2.out (d:=x) (o:=.ins c.T dx (putF "own_rounds" (.ref r) [("most_keys",.int most)])) xn;have e3:upd H2 x (.ins c.T dx (putF "own_rounds" (.ref r) [("most_keys",.int most)])) x=some (.ins c.T dx [("most_keys",.int most),("own_rounds",.ref r)]):=upd_same
  have B3:But x H1 (upd H2 x (.ins c.T dx (putF "own_rounds" (.ref r) [("most_keys",.int most)]))):=fun b o z n=>by rw[upd_ne n];exact S12 _ _ z
  generalize upd H2 x _=H3 at *;intro dn fn;walk;have nn:dn≠x:=(ne_of_none e3 fn).symm;have r4:=(r3.same (Same.upd (o:=.dK []) fn)).out (d:=x) (o:=.ins c.T dx (putF "nodes" (.ref dn) [("most_keys",.int most),("own_rounds",.ref r)])) xn
  have e4:upd (upd H3 dn (.dK [])) x (.ins c.T dx (putF "nodes" (.ref dn) [("most_keys",.int most),("own_rounds",.ref r)])) x=some (.ins c.T dx [("most_keys",.int most),("own_rounds",.ref r),("nodes",.ref dn)]):=upd_same;have d4:upd (upd H3 dn (.dK [])) x (.ins c.T dx (putF "nodes" (.ref dn) [("most_keys",.int most),("own_rounds",.ref r)])) dn=some (.dK []):=by rw[upd_ne nn,upd_same]
  have B4:But x H3 (upd (upd H3 dn (.dK [])) x (.ins c.T dx (putF "nodes" (.ref dn) [("most_keys",.int most),("own_rounds",.ref r)]))):=fun b o z n=>by rw[upd_ne n];exact un_f fn z
  have dnR:dn∉[du,dk,df,dc]:=by simp[(ne_of_none r3.u fn).symm,(ne_of_none r3.k fn).symm,(ne_of_none r3.f fn).symm,(ne_of_none r3.c fn).symm]
  generalize upd (upd H3 dn (.dK [])) x _=H4 at *;intro dv fv;walk;have nv:dv≠x:=(ne_of_none e4 fv).symm;have r5:=(r4.same (Same.upd (o:=.dK []) fv)).out (d:=x) (o:=.ins c.T dx (putF "versions" (.ref dv) [("most_keys",.int most),("own_rounds",.ref r),("nodes",.ref dn)])) xn
  have e5:upd (upd H4 dv (.dK [])) x (.ins c.T dx (putF "versions" (.ref dv) [("most_keys",.int most),("own_rounds",.ref r),("nodes",.ref dn)])) x=some (.ins c.T dx (tF most r dn dv none)):=upd_same;have d5:upd (upd H4 dv (.dK [])) x (.ins c.T dx (putF "versions" (.ref dv) [("most_keys",.int most),("own_rounds",.ref r),("nodes",.ref dn)])) dn=some (.dK []):=by rw[upd_ne nn];exact un_f fv d4
  have v5:upd (upd H4 dv (.dK [])) x (.ins c.T dx (putF "versions" (.ref dv) [("most_keys",.int most),("own_rounds",.ref r),("nodes",.ref dn)])) dv=some (.dK []):=by rw[upd_ne nv,upd_same]
  have B5:But x H4 (upd (upd H4 dv (.dK [])) x (.ins c.T dx (putF "versions" (.ref dv) [("most_keys",.int most),("own_rounds",.ref r),("nodes",.ref dn)]))):=fun b o z n=>by rw[upd_ne n];exact un_f fv z
  have dvR:dv∉[du,dk,df,dc]:=by simp[(ne_of_none r4.u fv).symm,(ne_of_none r4.k fv).symm,(ne_of_none r4.f fv).symm,(ne_of_none r4.c fv).symm]
  have nvn:dn≠dv:=ne_of_none d4 fv;generalize upd (upd H4 dv (.dK [])) x _=H5 at *;have B:But x H H5:=fun b o z n=>B5 b o (B4 b o (B3 b o (B0 b o z n) n) n) n
  have back:∀{b:Addr},b≠x->H5 b=none->H b=none:=fun {b} n z=>by
   cases q0:H b with
   | none=>rfl
   | some o=>rw[B b o q0 n] at z;cases z
  have bk1:∀{b:Addr},H1 b=none->H b=none:=fun {b} z=>by
   cases q0:H b with
   | none=>rfl
   | some o=>rw[B0 b o q0 (Ne.symm (nx z))] at z;cases z
  have bk3:H dn=none:=by
   cases q0:H dn with
   | none=>rfl
   | some o=>rw[B3 dn o (B0 dn o q0 nn) nn] at fn;cases fn
  have bk4:H dv=none:=by
   cases q0:H dv with
   | none=>rfl
   | some o=>rw[B4 dv o (B3 dv o (B0 dv o q0 nv) nv) nv] at fv;cases fv
  walk;refine newL fun la H6 fa S6 ea=>?_;replace ea:H6 la=some (.lst (([]:List Int).map V.int)):=ea;walk;refine newL fun lb H7 fb S7 eb=>?_;replace eb:H7 lb=some (.lst (([]:List Int).map V.int)):=eb;walk;refine mk_page (S7 _ _ ea) eb ⟨fun _ z=>(nomatch z),.nil,by decide⟩ ⟨rfl,fun _ z=>nomatch z⟩ fun pg dg tk tg H8 p1 p2 p3 S8 q1 q2 q3=>?_;have S57:=S6.trans S7;have S58:=S57.trans S8
  have t0:IsT c ⟨dx,r,dr,du,dk,df,dc,dn,dv,[]⟩ (rsL [x,r,du,dk,df,dc,dn,dv] H5) x ⟨most,none,[],⟨0,[],[],[],[]⟩⟩:=by
   refine⟨?_,⟨?_,?_,?_,?_,?_,r5.nd⟩,?_,?_,rfl,fun j p n z=>(by cases z),⟨dnR,dvR,nvn⟩,nx fr⟩
   ·rw[rsL_at (by simp)];exact e5
   ·rw[rsL_at (by simp)];exact r5.x
   ·rw[rsL_at (by simp)];exact r5.u
   ·rw[rsL_at (by simp)];exact r5.k
   ·rw[rsL_at (by simp)];exact r5.f
   ·rw[rsL_at (by simp)];exact r5.c
   ·rw[rsL_at (by simp)];exact d5
   ·rw[rsL_at (by simp)];exact v5
  obtain⟨h2,cg2,hpg,up⟩:=Pg.add (cp:=c.pg) (lv:=0) (ks:=[]) (gs:=[]) (Chg.same rsL_same S58) (S57.free p1) (S57.free p2) (S57.free p3) q1 q2 q3;have t2:=t0.same up;walk;refine⟨_,h2,x,_,0,pg,[],[],none,none,rfl,t2,cg2.sm,⟨.nil,(fun _ z=>by cases z),.nil,(fun _ z=>by cases z)⟩,rfl,(by show 0<=400;decide),by decide,by decide,hpg,.inl ⟨rfl,rfl⟩,fun j a' h' H' gv t' c'=>?_⟩
  have j0:j=0:=by
   rcases gv with⟨_,e⟩|⟨e,_⟩
   ·exact e
   ·cases e
  subst j0;have hx':=c'.sm _ _ t'.x;walk;have ce:=(cg2.trans c').trans (Chg.mut (o:=.ins c.T a'.dx (tF most a'.r a'.dn a'.dv (some 0))) c'.sm t'.x)
  have li:∀{b:Addr},b∈[x,r,du,dk,df,dc,dn,dv]->b=x\/H b=none:=fun {b} hb=>by
   simp only[List.mem_cons,List.not_mem_nil,or_false] at hb;rcases hb with rfl|rfl|rfl|rfl|rfl|rfl|rfl|rfl
   ·exact .inl rfl
   ·exact .inr (bk1 fr)
   ·exact .inr (bk1 z1)
   ·exact .inr (bk1 z2)
   ·exact .inr (bk1 z3)
   ·exact .inr (bk1 z4)
   ·exact .inr bk3
   ·exact .inr bk4
  refine k a' _ _ (t'.setTop 0) ce.sm (fun b=>?_) fun b o z n=>?_
  ·rcases ce.nw b with q|q|q
   ·exact .inl q
   ·exact .inr (li (rsL_in q))
   ·by_cases e:b=x
    ·exact .inr (.inl e)
    ·exact .inr (.inr (back e q))
  ·refine ce.fr b o (B b o z n) ?_;cases q:rsL [x,r,du,dk,df,dc,dn,dv] H5 b with
   | none=>rfl
   | some o'=>
    rcases li (rsL_in (by rw[q];exact fun z=>nomatch z)) with e|e
    ·exact absurd e n
    ·rw[z] at e;cases e
end
def stK (most top:Int)(dn lu lk lf lc:Addr)(lap:Int):List (Key×V):=[(Sum.inr "most",.int most),(Sum.inr "top",.int top),(Sum.inr "nodes",.ref dn),(Sum.inr "used",.ref lu),(Sum.inr "kept",.ref lk),(Sum.inr "free",.ref lf),(Sum.inr "going",.ref lc),(Sum.inr "lap",.int lap)]
section
variable {most top lap:Int}{dn lu lk lf lc:Addr}
theorem st_nd:((stK most top dn lu lk lf lc lap).map (·.1)).Nodup:=by
 show ([Sum.inr "most",Sum.inr "top",Sum.inr "nodes",Sum.inr "used",Sum.inr "kept",Sum.inr "free",Sum.inr "going",Sum.inr "lap"]:List Key).Nodup
 decide +kernel
theorem st_most:valV (stK most top dn lu lk lf lc lap) (Sum.inr "most")=some (.int most):=valV_get (j:=0) st_nd rfl
theorem st_top:valV (stK most top dn lu lk lf lc lap) (Sum.inr "top")=some (.int top):=valV_get (j:=1) st_nd rfl
theorem st_nodes:valV (stK most top dn lu lk lf lc lap) (Sum.inr "nodes")=some (.ref dn):=valV_get (j:=2) st_nd rfl
theorem st_used:valV (stK most top dn lu lk lf lc lap) (Sum.inr "used")=some (.ref lu):=valV_get (j:=3) st_nd rfl
theorem st_kept:valV (stK most top dn lu lk lf lc lap) (Sum.inr "kept")=some (.ref lk):=valV_get (j:=4) st_nd rfl
theorem st_free:valV (stK most top dn lu lk lf lc lap) (Sum.inr "free")=some (.ref lf):=valV_get (j:=5) st_nd rfl
theorem st_going:valV (stK most top dn lu lk lf lc lap) (Sum.inr "going")=some (.ref lc):=valV_get (j:=6) st_nd rfl
theorem st_lap:valV (stK most top dn lu lk lf lc lap) (Sum.inr "lap")=some (.int lap):=valV_get (j:=7) st_nd rfl
theorem st_lt:(stK most top dn lu lk lf lc lap).length<sizeLine:=by show 8<sizeLine;decide
theorem sp_top {z:Int}:putK (stK most top dn lu lk lf lc lap) (Sum.inr "top") (.int z)=stK most z dn lu lk lf lc lap:=putK_set (j:=1) st_nd rfl
theorem sp_used {z}:putK (stK most top dn lu lk lf lc lap) (Sum.inr "used") (.ref z)=stK most top dn z lk lf lc lap:=putK_set (j:=3) st_nd rfl
theorem sp_kept {z}:putK (stK most top dn lu lk lf lc lap) (Sum.inr "kept") (.ref z)=stK most top dn lu z lf lc lap:=putK_set (j:=4) st_nd rfl
theorem sp_free {z}:putK (stK most top dn lu lk lf lc lap) (Sum.inr "free") (.ref z)=stK most top dn lu lk z lc lap:=putK_set (j:=5) st_nd rfl
theorem sp_going {z}:putK (stK most top dn lu lk lf lc lap) (Sum.inr "going") (.ref z)=stK most top dn lu lk lf z lap:=putK_set (j:=6) st_nd rfl
theorem sp_lap {z:Int}:putK (stK most top dn lu lk lf lc lap) (Sum.inr "lap") (.int z)=stK most top dn lu lk lf lc z:=putK_set (j:=7) st_nd rfl
end
local macro_rules | `(tactic| walk_at "st") => `(tactic| first | exact st_most | exact st_top | exact st_nodes | exact st_used | exact st_kept | exact st_free | exact st_going | exact st_lap)
theorem pair_snoc {ks:List Int}{z:Int}(h:ks.Pairwise (· < ·))(b:∀k∈ks,k<z):(ks++[z]).Pairwise (· < ·):=List.pairwise_append.mpr ⟨h,List.pairwise_singleton _ _,fun k hk y hy=>by rw[List.mem_singleton.mp hy];exact b k hk⟩
inductive spKeys (vs:List V)(H:Hp)(Q:VK)(E:XK):Prop
 | mk (p:Addr)(m n:Nat):vs=[.ref p,.int m]->Box H p n->n<=900000->m<=6->(∀l ks H',H l=none->KB p H H'->Box H' p (n+8)->H' l=some (.lst (ks.map V.int))->KeysOk ks->ks.length=m->Q (.ref l) H')->spKeys vs H Q E
theorem ok_keys:Ok F F.r.d__law_keys 2 spKeys:=by
 refine F.r.d__law_keys.go fun sc H Q hr h=>?_;obtain⟨p,m,n,rfl,B,hn,hm,k⟩:=h;have big:=big1000
 refine'⟨_,(pss_cons (ps_v sc 2 (pix ix_list (pe_lst (pa4 (pe_un un_neg pe_int) pe_int (pe_op op_sub pe_int pe_int) (pe_un un_neg pe_int))) (pe_d (ok_take F) hr (pa2 (pv 0) pe_int))))
  (pss_cons (ps_v sc 3 (pix ix_list (pe_lst (pa3 pe_int pe_int pe_int)) (pe_d (ok_take F) hr (pa2 (pv 0) pe_int))))
  (pss_cons (ps_v sc 4 (pe_lst pa_nil))
  (pss_cons (ps_for PassesOwn.never rfl (pi_range1 rfl F.r.T.n_range (pa1 (pv 1))) (pg_v sc 5)
   (pss_cons (ps_expr (pe_bm PySem.F.plainAttrs_list PySem.F.slot_list_append PySem.F.type_list_append mt_append (pv 4) (pa1 (pv 2))))
  (pss_one (ps_v sc 2 (pe_op op_add (pe_op op_add (pv 2) pe_int) (pe_d (ok_take F) hr (pa2 (pv 0) (pv 3))))))))
  (pss_one (ps_ret (pv 4))))))),?_⟩
 walk;refine newL fun l1 H1 f1 S1 e1=>?_;replace e1:H1 l1=some (.lst (([-9,0,999999999 - 60,-999999999]:List Int).map V.int)):=e1;have m1:=B.ne f1;walk;refine⟨p,4,n,rfl,B.same S1,by omega,by decide,by decide,fun r1 H2 a0 a1 B2 k2=>?_⟩;obtain⟨z0,hz0,ez⟩:=atI_ints (ns:=[-9,0,999999999 - 60,-999999999]) a0 a1
 have zb:-999999999<=z0/\z0<=999999939:=by
  simp only[List.mem_cons,List.not_mem_nil,or_false] at hz0;omega
 refine q_ixL (k2 _ _ e1 m1) ez ?_;have K2:KB p H H2:=fun b o z nb=>k2 b o (S1 _ _ z) nb;clear S1 e1 k2 hz0 ez;walk;refine newL fun l3 H3 f3 S3 e3=>?_;replace e3:H3 l3=some (.lst (([1,2,9]:List Int).map V.int)):=e3;have m3:=B2.ne f3;walk;refine⟨p,3,n+1,rfl,B2.same S3,by omega,by decide,by decide,fun r2 H4 a2 a3 B4 k4=>?_⟩;obtain⟨gap,hg,eg⟩:=atI_ints (ns:=[1,2,9]) a2 a3
 have gb:1<=gap/\gap<=9:=by
  simp only[List.mem_cons,List.not_mem_nil,or_false] at hg;omega
 refine q_ixL (k4 _ _ e3 m3) eg ?_;have K4:KB p H H4:=fun b o z nb=>k4 b o (S3 _ _ (K2 b o z nb)) nb;clear S3 e3 k4 hg eg K2 f3 B2;walk;refine⟨sz,fun l f0=>?_⟩;have nl:=B4.ne f0;have fl:H l=none:=kb_back K4 f0 nl;have K5:KB p H (upd H4 l (.lst [])):=kbF K4 fl;have e5:upd H4 l (.lst []) l=some (.lst (([]:List Int).map V.int)):=upd_same;have B5:=B4.same (Same.upd (o:=.lst []) f0)
 generalize upd H4 l _=H5 at *;clear K4 B4 f0;walk;refine k_rng1 (by omega) (by omega) ?_
 refine q_forR (fun i σ Hx=>∃(o5:Option V) (ks:List Int) (key:Int),σ=[some (.ref p),some (.int m),some (.int key),some (.int gap),some (.ref l),o5]/\Hx l=some (.lst (ks.map V.int))/\ks.length=i/\KB p H Hx/\Box Hx p (n+2+i)/\(∀x∈ks,-999999999<=x/\x<key)/\ks.Pairwise (· < ·)/\-999999999<=key/\key<=999999939+9 * i) ⟨none,[],z0,rfl,e5,rfl,K5,B5,(fun _ z=>nomatch z),.nil,zb.1,by omega⟩ ?_ ?_
 ·rintro i σ Hx hi ⟨o5,ks,key,rfl,ex,lx,Kx,Bx,bx,px,b0,b1⟩;have hi':i<m:=by omega
  walk;refine q_append ex (by rw[List.length_map];omega) ?_;have Ky:KB p H (upd Hx l (.lst (ks.map V.int++[.int key]))):=kbF Kx fl;have ey:upd Hx l (.lst (ks.map V.int++[.int key])) l=some (.lst ((ks++[key]).map V.int)):=by rw[upd_same,List.map_append];rfl
  have By:Box (upd Hx l (.lst (ks.map V.int++[.int key]))) p (n+2+i):=Bx.to fun o z=>by rw[upd_ne (Ne.symm nl)];exact z
  generalize upd Hx l _=Hy at *;walk;refine⟨p,gap,n+2+i,rfl,By,by omega,by omega,by omega,fun r H6 c0 c1 B6 k6=>?_⟩;walk;refine⟨_,ks++[key],key+1+r,rfl,k6 _ _ ey nl,by rw[List.length_append,lx];rfl,(fun b o z nb=>k6 b o (Ky b o z nb) nb),B6,fun x hx=>?_,pair_snoc px (fun x hx=>(bx x hx).2),by omega,by omega⟩;rcases List.mem_append.mp hx with hx|hx
  ·have:=bx x hx;omega
  ·rw[List.mem_singleton.mp hx];omega
 ·rintro σ Hx ⟨o5,ks,key,rfl,ex,lx,Kx,Bx,bx,px,b0,b1⟩;have lm:ks.length=m:=by omega
  walk;exact k l ks Hx fl Kx (Bx.mono (by omega)) ex ⟨fun x hx=>by have:=bx x hx;exact⟨this.1,by omega⟩,px,by omega⟩ lm
inductive spOne (vs:List V)(H:Hp)(Q:VK)(E:XK):Prop
 | mk (p l:Addr)(n:Nat)(ns:List Int):vs=[.ref p,.ref l]->Box H p n->n<=900000->H l=some (.lst (ns.map V.int))->l≠p->ns.length<=1000->(∀(v:Option Int) H',(ns=[]->v=none)->(ns≠[]->∃z,v=some z/\z∈ns)->KB p H H'->Box H' p (n+1)->Q (oV v) H')->spOne vs H Q E
theorem ok_one:Ok F F.r.d__law_one 2 spOne:=by
 refine F.r.d__law_one.go fun sc H Q hr h=>?_;obtain⟨p,l,n,ns,rfl,B,hn,hl,nl,few,k⟩:=h;have hu:=hr.units0;refine'⟨_,(pss_one (ps_ret (pe_ifExp (pc (op_neL hu) (pv 1) (pe_lst pa_nil)) (pix ix_list (pv 1) (pe_d (ok_take F) hr (pa2 (pv 0) (pe_callB call_len_seq rfl F.r.T.n_len bt_len (pa1 (pv 1)))))) pe_non))),?_⟩;walk;refine newL fun l1 H1 f1 S1 e1=>?_
 refine⟨l,l1,_,[],rfl,rfl,SqL.of (S1 _ _ hl),SqL.of e1,okPs_nil,?_⟩;rw[if_pos rfl,eqPs_nil];walk;by_cases h0:ns=[]
 ·subst h0;refine iteNS rfl ?_;walk;exact k none H1 (fun _=>rfl) (fun z=>absurd rfl z) S1.kb ((B.same S1).mono (by omega))
 ·refine iteNX (fun z=>h0 (List.map_eq_nil_iff.mp z)) ?_;have lp:0<ns.length:=List.length_pos_iff.mpr h0;walk;refine⟨l,_,rfl,.inl (SqL.of (S1 _ _ hl)),?_⟩;walk;refine⟨p,_,n,rfl,B.same S1,by omega,by rw[List.length_map];omega,by rw[List.length_map];omega,fun r H2 a0 a1 B2 k2=>?_⟩;obtain⟨z,hz,ez⟩:=atI_ints (ns:=ns) a0 (by rw[List.length_map] at a1;exact a1)
  refine q_ixL (k2 _ _ (S1 _ _ hl) nl) ez ?_;exact k (some z) H2 (fun q=>absurd q h0) (fun _=>⟨z,rfl,hz⟩) (fun b o e nb=>k2 b o (S1 _ _ e) nb) B2
inductive spEdge (vs:List V)(H:Hp)(Q:VK)(E:XK):Prop
 | mk (p st lu:Addr)(n:Nat)(us:List Int)(most top lap:Int)(dn lk lf lc:Addr):vs=[.ref p,.ref st]->Box H p n->n<=800000->H st=some (.dK (stK most top dn lu lk lf lc lap))->H lu=some (.lst (us.map V.int))->lu≠p->us≠[]->us.length<=1000->(∀et hi rt H',H et=none->KB p H H'->Box H' p (n+12)->H' et=some (.tup [oV hi,oV rt])->(hi=none/\rt=none\/∃k r:Int,hi=some k/\rt=some r/\KeyR k/\r∈us)->Q (.ref et) H')->spEdge vs H Q E
theorem ok_edge:Ok F F.r.d__law_edge 3 spEdge:=by
 refine F.r.d__law_edge.go fun sc H Q hr h=>?_;obtain⟨p,st,lu,n,us,most,top,lap,dn,lk,lf,lc,rfl,B,hn,hs,hl,nl,ne,few,k⟩:=h;have ns:st≠p:=fun z=>by obtain⟨xs,e⟩:=B.lst;rw[z,e] at hs;cases hs
 refine'⟨_,(pss_cons (ps_if (pc op_eq (pe_d (ok_take F) hr (pa2 (pv 0) pe_int)) pe_int)
   (pss_one (ps_ret (pe_tup (pa2 pe_non pe_non))))
   pss_nil)
  (pss_one (ps_ret (pe_tup (pa2 (pix ix_list (pe_d (ok_keys F) hr (pa2 (pv 0) pe_int)) pe_int) (pix ix_list (pe_gs hr (pv 1)) (pe_d (ok_take F) hr (pa2 (pv 0) (pe_callB call_len_seq rfl F.r.T.n_len bt_len (pa1 (pe_gs hr (pv 1)))))))))))),?_⟩
 walk;refine⟨p,3,n,rfl,B,by omega,by decide,by decide,fun r0 H1 a0 a1 B1 k1=>?_⟩;walk;refine ite2 (fun _=>?_) (fun _=>?_)
 ·walk;refine⟨sz,fun et fe=>?_⟩;exact k et none none _ (kb_back k1 fe (B1.ne fe)) (fun b o z nb=>Same.upd fe _ _ (k1 b o z nb)) ((B1.same (Same.upd fe)).mono (by omega)) upd_same (.inl ⟨rfl,rfl⟩)
 ·walk;refine⟨p,1,n+1,rfl,B1,by omega,by decide,fun l ks H2 f2 k2 B2 e2 ok2 l2=>?_⟩;obtain⟨z,rfl⟩:∃z,ks=[z]:=List.length_eq_one_iff.mp l2;have K2:KB p H H2:=fun b o e nb=>k2 b o (k1 b o e nb) nb;have hs2:=K2 _ _ hs ns;walk;have hl2:=K2 _ _ hl nl;refine⟨lu,_,rfl,.inl (SqL.of hl2),?_⟩;walk;have lp:0<us.length:=List.length_pos_iff.mpr ne
  refine⟨p,_,n+9,rfl,B2,by omega,by rw[List.length_map];omega,by rw[List.length_map];omega,fun r H3 c0 c1 B3 k3=>?_⟩;obtain⟨y,hy,ey⟩:=atI_ints (ns:=us) c0 (by rw[List.length_map] at c1;exact c1);refine q_ixL (k3 _ _ hl2 nl) ey ?_;have K3:KB p H H3:=fun b o e nb=>k3 b o (K2 b o e nb) nb;walk;refine⟨sz,fun et fe=>?_⟩
  exact k et (some z) (some y) _ (kb_back K3 fe (B3.ne fe)) (fun b o z nb=>Same.upd fe _ _ (K3 b o z nb)) ((B3.same (Same.upd fe)).mono (by omega)) upd_same (.inr ⟨z,y,rfl,rfl,ok2.r z (by simp),hy⟩)
theorem ix_seqK {X:Cx}{K}(h:X.K=K):IxR X (rIx K):=by subst h;exact ix_seq
theorem comp_dl {K}{js:List Nat}{te tl:TE}{σ:St}{H:Hp}{Q:VK}{p a}{m0 c:Nat}(xs:List V)(R:V->Prop)(hw:∀R':VK,R' (.ref a) H->tl σ H R')(ha:H a=some (.lst xs))(na:a≠p)(B:Box H p m0)(hn:xs.length<=2000)
  (he:∀x H2 m (Z:VK),Box H2 p m->m<=m0+c * xs.length->(∀v H3,R v->Box H3 p (m+c)->KB p H2 H3->Z v H3)->te (blkSt js σ (some x)) H2 Z)
  (q:∀d H2 vs,H d=none->vs.length=xs.length->(∀v∈vs,R v)->Box H2 p (m0+c * xs.length)->KB p H H2->H2 d=some (.lst vs)->Q (.ref d) H2):tComp js (iList K tl) (fun _ H Q=>Q true H) te σ H Q:=by
 refine hw _ ⟨a,rfl,⟨xs,SqL.of ha⟩,fun D hD=>?_⟩;have nD:D≠p:=B.ne hD;refine⟨fun i m H2=>i+m=xs.length/\KB p H H2/\Box H2 p (m0+c * i)/\∃vs,H2 D=some (.lst vs)/\vs.length=i/\∀v∈vs,R v,⟨xs.length,by omega,(Same.upd hD).kb,B.same (Same.upd hD),[],upd_same,rfl,fun v h=>absurd h (by simp)⟩,?_⟩;rintro i m H2 ⟨hm,k2,B2,vs,e2,l2,r2⟩;have ha2:=k2 _ _ ha na;by_cases hi:i<xs.length
 ·refine .inr ⟨⟨xs,xs[i],SqL.of ha2,List.getElem?_eq_getElem hi⟩,?_⟩;rintro v H3 ⟨rfl,_⟩;have cm:c * i<=c * xs.length:=Nat.mul_le_mul_left _ (by omega);refine iteT (he _ _ _ _ B2 (by omega) fun y H5 hy B5 k5=>⟨vs,k5 _ _ e2 nD,by have:=big1000;omega,m - 1,by omega,by omega,fun b o z nb=>?_,?_,vs++[y],upd_same,by simp[l2],fun u hu=>?_⟩)
  ·rw[upd_ne (ne_of_none z hD)];exact k5 _ _ (k2 _ _ z nb) nb
  ·have e:m0+c * i+c=m0+c * (i+1):=by rw[Nat.mul_add,Nat.mul_one];omega
   rw[e] at B5;exact B5.to fun o z=>by rw[upd_ne (Ne.symm nD)];exact z
  ·rcases List.mem_append.mp hu with hu|hu
   ·exact r2 u hu
   ·rw[List.mem_singleton.mp hu];exact hy
 ·have ei:i=xs.length:=by omega
  subst ei;exact .inl ⟨⟨xs,SqL.of ha2,Nat.le_refl _⟩,q D H2 vs hD l2 r2 B2 k2 e2⟩
theorem ints_of {P:Int->Prop}:∀{vs:List V},(∀v∈vs,∃z:Int,v=.int z/\P z)->∃zs:List Int,vs=zs.map V.int/\∀z∈zs,P z
 | [],_=>⟨[],rfl,fun _ z=>nomatch z⟩
 | v::vs,h=>by
  obtain⟨z,rfl,hz⟩:=h v (List.mem_cons_self ..);obtain⟨zs,rfl,hp⟩:=ints_of fun u hu=>h u (List.mem_cons_of_mem _ hu);exact⟨z::zs,rfl,fun y hy=>by rcases List.mem_cons.mp hy with rfl|hy;exact hz;exact hp y hy⟩
def stepsL (a s:Int)(m:Nat):List Int:=(List.range m).map fun(k:Nat)=>a+s * (k:Int)
theorem steps_ok {a s:Int}{m:Nat}(ha:0<=a)(hs:1<=s):(stepsL a s m).length=m/\(∀z∈stepsL a s m,0<=z)/\(stepsL a s m).Nodup:=by
 refine⟨by simp[stepsL],fun z hz=>?_,?_⟩
 ·obtain⟨k,_,rfl⟩:=List.mem_map.mp hz;have:0<=s * (k:Int):=Int.mul_nonneg (by omega) (by omega);omega
 ·unfold stepsL;rw[List.nodup_iff_pairwise_ne,List.pairwise_map];refine List.Pairwise.imp ?_ List.nodup_range;intro x y hxy e;have e2:s * (x:Int)=s * (y:Int):=by omega
  have:=Int.eq_of_mul_eq_mul_left (by omega) e2;omega
def okG (lv:Int)(n:Nat)(gs:List Int):Prop:=if lv=0 then okL n gs else okI n gs
structure Cont (H:Hp)(tt lk lg:Addr)(lv:Int)(ks gs:List Int):Prop where
 t:H tt=some (.tup [.ref lk,.ref lg])
 k:H lk=some (.lst (ks.map V.int))
 g:H lg=some (.lst (gs.map V.int))
 ok:KeysOk ks
 og:okG lv ks.length gs
 gb:∀z∈gs,z.natAbs<=10 ^ 9
inductive spContent (vs:List V)(H:Hp)(Q:VK)(E:XK):Prop
 | mk (p:Addr)(lv:Int)(n:Nat):vs=[.ref p,.int lv]->Box H p n->n<=800000->(∀tt lk lg ks gs H',H tt=none->H lk=none->H lg=none->p∉[tt,lk,lg]->KB p H H'->Box H' p (n+30)->Cont H' tt lk lg lv ks gs->Q (.ref tt) H')->spContent vs H Q E
theorem ok_content:Ok F F.r.d__law_content 3 spContent:=by
 refine F.r.d__law_content.go fun sc H Q hr h=>?_;obtain⟨p,lv,n,rfl,B,hn,k⟩:=h;have big:=big1000
 refine'⟨_,(pss_cons (ps_v sc 2 (pe_d (ok_keys F) hr (pa2 (pv 0) (pe_d (ok_take F) hr (pa2 (pv 0) pe_int)))))
  (pss_cons (ps_if (pc op_eq (pv 1) pe_int)
   (pss_one (ps_ret (pe_tup (pa2 (pv 2) (pe_comp (blk_mk ["_law_box_here"] [0]) rfl (pi_list (pv 2)) (fun _ _ _ _ _=>PTs.nil) (fun _ _ _ _ _=>(pix (ix_seqK (K:=K) rfl) (pe_lst (pa3 (pe_op op_sub (pe_d (ok_take F) hr (pa2 (pv 1) pe_int)) pe_int) pe_int (pe_un un_neg pe_int))) (pe_d (ok_take F) hr (pa2 (pv 1) pe_int)))))))))
   pss_nil)
  (pss_cons (ps_set (i:=3) sc.nd rfl (Or.inr rfl) (pe_d (ok_take F) hr (pa2 (pv 0) pe_int)))
  (pss_cons (ps_set (i:=4) sc.nd rfl (Or.inr rfl) (pe_op op_add pe_int (pe_d (ok_take F) hr (pa2 (pv 0) pe_int))))
  (pss_cons (ps_setComp (i:=5) (blk_mk ["_law_first","_law_step"] [3,4]) rfl (pi_range1 rfl F.r.T.n_range (pa1 (pe_op op_add (pe_callB call_len_seq rfl F.r.T.n_len bt_len (pa1 (pv 2))) pe_int))) (fun _ _ _ _ _=>PTs.nil) (fun _ _ _ _ _=>(pe_op op_add (pv 1) (pe_op op_mul (pv 2) (pv 0)))) sc.nd rfl rfl)
  (pss_cons (ps_if (pc op_eq (pe_d (ok_take F) hr (pa2 (pv 0) pe_int)) pe_int)
   (pss_one (ps_expr (pe_bm0 PySem.F.plainAttrs_list PySem.F.slot_list_reverse PySem.F.type_list_reverse mt_reverse (pv 5))))
   pss_nil)
  (pss_one (ps_ret (pe_tup (pa2 (pv 2) (pv 5))))))))))),?_⟩
 walk;refine⟨p,7,n,rfl,B,by omega,by decide,by decide,fun r0 H1 a0 a1 B1 k1=>?_⟩;obtain⟨m,rfl⟩:∃m:Nat,r0=m:=⟨r0.toNat,by omega⟩;walk;refine⟨p,m,n+1,rfl,B1,by omega,by omega,fun l ks H2 f2 k2 B2 e2 ok2 l2=>?_⟩;have K2:KB p H H2:=fun b o z nb=>k2 b o (k1 b o z nb) nb;have nl:l≠p:=B1.ne f2;have fl:H l=none:=kb_back k1 f2 nl;clear k1 k2 B1 B f2;walk;by_cases h0:lv=0
 ·subst h0;refine iteD rfl ?_;walk;refine comp_dl (a:=l) (c:=2) (ks.map V.int) (fun v=>∃z:Int,v=.int z/\KeyR z) (fun R' r=>⟨_,rfl,r⟩) e2 nl B2 (by rw[List.length_map];omega) ?_ ?_
  ·intro x H3 i Z B3 hi z;have hi':i<=800100:=by rw[List.length_map] at hi;omega
   walk;refine⟨p,20,i,rfl,B3,by omega,by decide,by decide,fun r1 H4 c0 c1 B4 k4=>?_⟩;walk;refine newL fun l5 H5 f5 S5 e5=>?_;replace e5:H5 l5=some (.lst (([r1 - 10,999999999,-999999999]:List Int).map V.int)):=e5;have n5:=B4.ne f5;walk;refine⟨p,3,i+1,rfl,B4.same S5,by omega,by decide,by decide,fun r2 H6 d0 d1 B6 k6=>?_⟩;obtain⟨y,hy,ey⟩:=atI_ints (ns:=[r1 - 10,999999999,-999999999]) d0 d1
   refine .inl (q_ixL (k6 _ _ e5 n5) ey ?_);refine z _ H6 ⟨y,rfl,?_⟩ B6 fun b o q nb=>k6 b o (S5 _ _ (k4 b o q nb)) nb;simp only[List.mem_cons,List.not_mem_nil,or_false] at hy;unfold KeyR;omega
  ·intro lg H3 vs fg lv' rv B3 k3 e3;obtain⟨gs,rfl,hg⟩:=ints_of rv;rw[List.length_map,List.length_map] at lv';rw[List.length_map] at B3;have K3:KB p H H3:=fun b o z nb=>k3 b o (K2 b o z nb) nb;have ng:lg≠p:=B2.ne fg;walk;refine⟨sz,fun tt ft=>?_⟩;have nt:=B3.ne ft
   refine k tt l lg ks gs _ (kb_back K3 ft nt) fl (kb_back K2 fg ng) (by simp[Ne.symm nt,Ne.symm nl,Ne.symm ng]) (fun b o z nb=>Same.upd ft _ _ (K3 b o z nb)) ((B3.same (Same.upd ft)).mono (by omega)) ⟨upd_same,Same.upd ft _ _ (k3 _ _ e2 nl),Same.upd ft _ _ e3,ok2,?_,fun z hz=>by have:=hg z hz;unfold KeyR at this;omega⟩;unfold okG;rw[if_pos rfl];exact⟨lv',hg⟩
 ·refine iteX (fun z=>h0 (V.int.inj z)) ?_;walk;refine⟨p,9,n+9,rfl,B2,by omega,by decide,by decide,fun fi H3 c0 c1 B3 k3=>?_⟩;walk;refine⟨p,4,n+10,rfl,B3,by omega,by decide,by decide,fun sp H4 d0 d1 B4 k4=>?_⟩;have K4:KB p H H4:=fun b o z nb=>k4 b o (k3 b o (K2 b o z nb) nb) nb;have e4:=k4 _ _ (k3 _ _ e2 nl) nl;clear K2 k3 k4 B2 B3;walk
  refine comp_f (J:=Itr 0 (m+1)) (H1:=H4) (upTo 0 (m+1)) (fun _=>true) (fun v=>match v with|.int z=>.int (fi+(1+sp) * z)|v=>v) (fun R r=>?_) it_rng (fun _ _ H2 R _ r=>r H2 (Same.refl _)) ?_ (by simp[L2.upTo];omega) ?_
  ·walk;refine⟨l,_,rfl,.inl (SqL.of e4),?_⟩;walk;refine k_rng1 (by rw[List.length_map];omega) (by rw[List.length_map];omega) ?_;rw[List.length_map,l2];exact r
  ·intro v hv _ H5 R S5 r;obtain⟨i,hi,rfl⟩:=List.mem_map.mp hv;have hi':=List.mem_range.mp hi;walk;refine q_i (.inl ⟨by omega,by omega⟩) ?_;walk;exact r H5 (Same.refl _)
  ·intro lg H5 fg S5 e5;have ng:lg≠p:=B4.ne fg
   have e5':H5 lg=some (.lst ((stepsL fi (1+sp) (m+1)).map V.int)):=by
    rw[e5,filt_all];unfold L2.upTo stepsL;rw[List.map_map,List.map_map];congr 2;refine List.map_congr_left fun i _=>?_;show V.int (fi+(1+sp) * (0+(i:Int)))=V.int (fi+(1+sp) * (i:Int));rw[Int.zero_add]
   have K5:KB p H H5:=fun b o z nb=>S5 _ _ (K4 b o z nb);have B5:=B4.same S5;have fg':=kb_back K4 fg ng;have el:=S5 _ _ e4;have nlg:l≠lg:=ne_of_none e4 fg;obtain⟨g1,g2,g3⟩:=steps_ok (m:=m+1) c0 (show 1<=1+sp by omega)
   have g4:∀z∈stepsL fi (1+sp) (m+1),z<=1000:=fun z hz=>by
    unfold stepsL at hz;obtain⟨i,hi,rfl⟩:=List.mem_map.mp hz;have:=List.mem_range.mp hi;have q:(1+sp) * (i:Int)<=4 * 7:=Int.mul_le_mul (by omega) (by omega) (by omega) (by omega);omega
   generalize stepsL fi (1+sp) (m+1)=zs at *;clear e5 K4 B4 S5 fg e4;walk_at "o";refine s_join (fun σ6 H6=>∃zs':List Int,σ6=[some (.ref p),some (.int lv),some (.ref l),some (.int fi),some (.int (1+sp)),some (.ref lg)]/\KB p H H6/\Box H6 p (n+12)/\H6 l=some (.lst (ks.map V.int))/\H6 lg=some (.lst (zs'.map V.int))/\zs'.Perm zs) (fun N z=>?_) ?_
   ·walk;refine⟨p,2,n+11,rfl,B5,by omega,by decide,by decide,fun r6 H6 _ _ B6 k6=>?_⟩;have K6:KB p H H6:=fun b o z nb=>k6 b o (K5 b o z nb) nb;have el6:=k6 _ _ el nl;have eg6:=k6 _ _ e5' ng;walk;refine ite2 (fun _=>?_) (fun _=>?_)
    ·walk;refine⟨_,rfl,.inl ⟨rfl,_,SqL.of eg6⟩,lg,_,rfl,rfl,eg6,?_⟩;refine z _ _ ⟨zs.reverse,rfl,kbF K6 fg',B6.to (fun o q=>by rw[upd_ne (Ne.symm ng)];exact q),by rw[upd_ne nlg];exact el6,by rw[upd_same,List.map_reverse],List.reverse_perm _⟩
    ·walk;exact z _ _ ⟨zs,rfl,K6,B6,el6,eg6,.refl _⟩
   ·rintro σ6 H6 ⟨zs',rfl,K6,B6,el6,eg6,pz⟩;walk;refine⟨sz,fun tt ft=>?_⟩;have nt:=B6.ne ft
    refine k tt l lg ks zs' _ (kb_back K6 ft nt) fl fg' (by simp[Ne.symm nt,Ne.symm nl,Ne.symm ng]) (fun b o z nb=>Same.upd ft _ _ (K6 b o z nb)) ((B6.same (Same.upd ft)).mono (by omega)) ⟨upd_same,Same.upd ft _ _ el6,Same.upd ft _ _ eg6,ok2,?_,fun i hi=>by have a:=g2 i (pz.mem_iff.mp hi);have b:=g4 i (pz.mem_iff.mp hi);omega⟩;unfold okG;rw[if_neg h0]
    exact⟨by rw[pz.length_eq,g1,l2],fun i hi=>g2 i (pz.mem_iff.mp hi),pz.nodup_iff.mpr g3⟩
theorem upd_upd {H:Hp}{a o o'}:upd (upd H a o) a o'=upd H a o':=by
 funext b
 unfold upd;by_cases c:b=a
 ·rw[if_pos c,if_pos c]
 ·rw[if_neg c,if_neg c,if_neg c]
theorem merge_app:∀{more acc:List (Key×V)},((acc++more).map (·.1)).Nodup->mergeK acc more=acc++more
 | [],acc,_=>by rw[List.append_nil];rfl
 | kv::r,acc,nd=>by
  have no:valV acc kv.1=none:=by
   cases c:valV acc kv.1 with
   | none=>rfl
   | some v=>
    have m:=valV_in c;rw[List.map_append,List.map_cons,List.nodup_append] at nd;exact absurd rfl (nd.2.2 _ m _ (List.mem_cons_self ..))
  show mergeK (putK acc kv.1 kv.2) r=_;rw[putK_new _ no,merge_app (by rw[List.append_assoc];exact nd),List.append_assoc];rfl
theorem merge_nil {more:List (Key×V)}(nd:(more.map (·.1)).Nodup):mergeK [] more=more:=merge_app (acc:=[]) nd
def lN (n:ND)(k g:Addr):List V:=[.int n.lv,.ref k,.ref g,oV n.hi,oV n.rt,.int n.ver,oV n.ho,.bl n.gone,.bl n.wr]
def LN (h:Hp)(p:Addr)(n:ND):Prop:=∃k g,h p=some (.lst (lN n k g))/\h k=some (.lst (n.ks.map V.int))/\h g=some (.lst (n.gs.map V.int))
structure IsLN (g:Hp)(dn:Addr)(nd:List Addr)(ns:List ND):Prop where
 d:g dn=some (.dK (pK nd V.ref))
 l:nd.length=ns.length
 e:∀(j:Nat) p n,nd[j]?=some p->ns[j]?=some n->LN g p n
 u:nd.Nodup
theorem LN.same {h h':Hp}{p n}(i:LN h p n)(S:Same h h'):LN h' p n:=let⟨k,g,a,b,c⟩:=i;⟨k,g,S _ _ a,S _ _ b,S _ _ c⟩
theorem IsLN.same {g g':Hp}{dn nd}{ns:List ND}(t:IsLN g dn nd ns)(S:Same g g'):IsLN g' dn nd ns:=⟨S _ _ t.d,t.l,fun j p n a b=>(t.e j p n a b).same S,t.u⟩
theorem ints_ne {n k g}{zs:List Int}:HO.lst (zs.map V.int)≠.lst (lN n k g):=fun z=>by
 have e:=congrArg (fun xs:List V=>xs[1]?) (HO.lst.inj z);have e':(zs.map V.int)[1]?=some (V.ref k):=e;rw[List.getElem?_map] at e';cases c:zs[1]? with
 | none=>rw[c] at e';cases e'
 | some y=>rw[c] at e';cases e'
section
variable {g:Hp}{dn:Addr}{nd:List Addr}{ns:List ND}
theorem IsLN.set (t:IsLN g dn nd ns){j:Nat}{p k gg}{n n':ND}(hp:nd[j]?=some p)(hn:ns[j]?=some n)(hk:g k=some (.lst (n'.ks.map V.int)))(hg:g gg=some (.lst (n'.gs.map V.int))) :
  IsLN (upd g p (.lst (lN n' k gg))) dn nd (ns.set j n'):=by
 obtain⟨k0,g0,e0,e1,e2⟩:=t.e j p n hp hn;have jl:j<ns.length:=(List.getElem?_eq_some_iff.mp hn).1;have ni:∀{b:Addr} {zs:List Int},g b=some (.lst (zs.map V.int))->b≠p:=fun e z=>by rw[z,e0] at e;exact ints_ne (Option.some.inj e).symm
 refine⟨by rw[upd_ne (ne_of t.d e0 (fun z=>nomatch z))];exact t.d,by rw[List.length_set];exact t.l,fun i q m a b=>?_,t.u⟩;rw[List.getElem?_set] at b;by_cases c:j=i
 ·subst c;rw[if_pos rfl,if_pos jl] at b;cases Option.some.inj b;rw[hp] at a;cases Option.some.inj a;exact⟨k,gg,upd_same,by rw[upd_ne (ni hk)];exact hk,by rw[upd_ne (ni hg)];exact hg⟩
 ·rw[if_neg c] at b;obtain⟨k1,g1,f0,f1,f2⟩:=t.e i q m a b
  have nq:q≠p:=fun z=>by
   obtain⟨h1,z1⟩:=List.getElem?_eq_some_iff.mp hp;obtain⟨h2,z2⟩:=List.getElem?_eq_some_iff.mp a;exact c ((List.getElem_inj t.u).mp (z1.trans (z.symm.trans z2.symm)))
  exact⟨k1,g1,by rw[upd_ne nq];exact f0,by rw[upd_ne (ni f1)];exact f1,by rw[upd_ne (ni f2)];exact f2⟩
theorem LN.dict {p d n q q'}(i:LN g p n)(e:g d=some (.dK q)):LN (upd g d (.dK q')) p n:=by
 obtain⟨k0,g0,e0,e1,e2⟩:=i;exact⟨k0,g0,by rw[upd_ne (ne_of e0 e (fun z=>nomatch z))];exact e0,by rw[upd_ne (ne_of e1 e (fun z=>nomatch z))];exact e1,by rw[upd_ne (ne_of e2 e (fun z=>nomatch z))];exact e2⟩
theorem nd_set {α:Type}:∀{l:List α} {j:Nat} {x:α},l.Nodup->x∉l->(l.set j x).Nodup
 | [],_,_,h,_=>h
 | a::r,0,x,h,hx=>List.nodup_cons.mpr ⟨fun m=>hx (List.mem_cons_of_mem _ m),(List.nodup_cons.mp h).2⟩
 | a::r,j+1,x,h,hx=>by
  obtain⟨h1,h2⟩:=List.nodup_cons.mp h;refine List.nodup_cons.mpr ⟨fun m=>?_,nd_set h2 fun m=>hx (List.mem_cons_of_mem _ m)⟩;rcases List.mem_or_eq_of_mem_set m with m|m
  ·exact h1 m
  ·exact hx (by rw[<- m];exact List.mem_cons_self ..)
theorem IsLN.put (t:IsLN g dn nd ns){j:Nat}{l n'}(jl:j<ns.length)(nl:l∉nd)(i:LN g l n'):IsLN (upd g dn (.dK (pK (nd.set j l) V.ref))) dn (nd.set j l) (ns.set j n'):=by
 refine⟨upd_same,by rw[List.length_set,List.length_set];exact t.l,fun i' q m a b=>?_,nd_set t.u nl⟩;rw[List.getElem?_set] at a b;by_cases c:j=i'
 ·subst c;rw[if_pos rfl,if_pos (by rw[t.l];exact jl)] at a;rw[if_pos rfl,if_pos jl] at b;cases Option.some.inj a;cases Option.some.inj b;exact i.dict t.d
 ·rw[if_neg c] at a b;exact(t.e i' q m a b).dict t.d
theorem IsLN.add (t:IsLN g dn nd ns){l n'}(nl:l∉nd)(i:LN g l n'):IsLN (upd g dn (.dK (pK (nd++[l]) V.ref))) dn (nd++[l]) (ns++[n']):=by
 refine⟨upd_same,by rw[List.length_append,List.length_append,t.l];rfl,fun j q m a b=>?_,nd_snoc t.u nl⟩;by_cases c0:j<nd.length
 ·rw[List.getElem?_append_left c0] at a;rw[List.getElem?_append_left (by rw[<- t.l];exact c0)] at b;exact(t.e j q m a b).dict t.d
 ·rw[List.getElem?_append_right (by omega)] at a;rw[List.getElem?_append_right (by rw[<- t.l];omega),<- t.l] at b;cases c1:j - nd.length with
  | zero=>
   rw[c1] at a b;cases Option.some.inj a;cases Option.some.inj b;exact i.dict t.d
  | succ q=>rw[c1] at a;cases a
theorem IsLN.out (t:IsLN g dn nd ns){l}(f:g l=none):l∉nd:=fun h=>by
 obtain⟨j,hj,e⟩:=List.getElem_of_mem h;have hj':j<ns.length:=by rw[<- t.l];exact hj
 obtain⟨_,_,a,_⟩:=t.e j l ns[j] (by rw[List.getElem?_eq_getElem hj,e]) (List.getElem?_eq_getElem hj');rw[f] at a;cases a
end
structure LA where
 lu:Addr
 lk:Addr
 lf:Addr
 lc:Addr
 tk:List Addr
 tc:List Addr
structure IsLS (a:LA)(g:Hp)(st dn:Addr)(most top:Int)(R:RS)(us fs:List Int):Prop where
 s:g st=some (.dK (stK most top dn a.lu a.lk a.lf a.lc R.lap))
 u:g a.lu=some (.lst (us.map V.int))
 k:g a.lk=some (.lst (a.tk.map V.ref))
 f:g a.lf=some (.lst (fs.map V.int))
 c:g a.lc=some (.lst (a.tc.map V.ref))
 tk:Tups g a.tk R.ks
 tc:Tups g a.tc R.cs
 nd:[a.lu,a.lk,a.lf,a.lc].Nodup
 pu:us.Perm R.us
 su:us.Pairwise (· <= ·)
 pf:fs.Perm R.fs
 sf:fs.Pairwise (· <= ·)
theorem IsLS.same {a}{g g':Hp}{st dn}{most top:Int}{R us fs}(t:IsLS a g st dn most top R us fs)(S:Same g g'):IsLS a g' st dn most top R us fs:=
 ⟨S _ _ t.s,S _ _ t.u,S _ _ t.k,S _ _ t.f,S _ _ t.c,t.tk.keep (fun b xs z=>S _ _ z),t.tc.keep (fun b xs z=>S _ _ z),t.nd,t.pu,t.su,t.pf,t.sf⟩
inductive spLPage (c:Cs)(vs:List V)(H:Hp)(Q:VK)(E:XK):Prop
 | mk (lv:Int)(tt lk lg:Addr)(ks gs:List Int):vs=[.int lv,.ref tt]->Cont H tt lk lg lv ks gs->0<=lv->(∀x dx tk tg H',H x=none->H tk=none->H tg=none->Same H H'->H' x=some (.ins (c.pg.of lv) dx (PgF tk tg))->H' tk=some (.tup (ks.map V.int))->H' tg=some (.tup (gs.map V.int))->Q (.ref x) H')->spLPage c vs H Q E
theorem ok_lpage:Ok F F.r.d__law_page 10 (spLPage c):=by
 obtain⟨fI,fdI,XInner⟩:=F.IX;obtain⟨fL,fdL,XLeaf⟩:=F.LX;have GLeaf:=ok_leaf F XLeaf;have GInner:=ok_inner F XInner;refine F.r.d__law_page.go fun sc H Q hr h=>?_;obtain⟨lv,tt,lk,lg,ks,gs,rfl,ct,b0,k⟩:=h;obtain⟨c1,c2,c3,ok,og⟩:=ct
 refine'⟨_,(pss_one (ps_ret (pe_ifExp (pc op_gt (pv 0) pe_int) (pe_make XInner.mak GInner (hr.mono (by decide)) rfl XInner.m XInner.bi .nil pass0 (pa2 (pe_callTy call_list_of rfl F.r.T.n_list bt_list (pa1 (pix ix_tup (pv 1) pe_int))) (pe_callTy call_list_of rfl F.r.T.n_list bt_list (pa1 (pix ix_tup (pv 1) pe_int))))) (pe_make XLeaf.mak GLeaf (hr.mono (by decide)) rfl XLeaf.m XLeaf.bi .nil pass0 (pa2 (pe_callTy call_list_of rfl F.r.T.n_list bt_list (pa1 (pix ix_tup (pv 1) pe_int))) (pe_callTy call_list_of rfl F.r.T.n_list bt_list (pa1 (pix ix_tup (pv 1) pe_int)))))))),?_⟩
 unfold okG at og;unfold Cp.of at k;walk;by_cases h0:lv=0
 ·rw[if_pos h0] at og k;refine iteX (by omega) ?_;walk;refine⟨lk,_,rfl,.inl (SqL.of c2),fun l1 f1=>?_⟩;have S1:=Same.upd (o:=.lst (ks.map V.int)) f1;have e1:upd H l1 (.lst (ks.map V.int)) l1=some (.lst (ks.map V.int)):=upd_same;generalize upd H l1 _=H1 at *;walk;refine⟨lg,_,rfl,.inl (SqL.of (S1 _ _ c3)),fun l2 f2=>?_⟩;have S2:=Same.upd (o:=.lst (gs.map V.int)) f2
  have e2:upd H1 l2 (.lst (gs.map V.int)) l2=some (.lst (gs.map V.int)):=upd_same;have S:=S1.trans S2;generalize upd H1 l2 _=H2 at *;walk;exact mk_page (S2 _ _ e1) e2 ok og fun x dx tk tg H3 g1 g2 g3 S3 q1 q2 q3=>k x dx tk tg H3 (S.free g1) (S.free g2) (S.free g3) (S.trans S3) q1 q2 q3
 ·rw[if_neg h0] at og k;refine iteD (by omega) ?_;walk;refine⟨lk,_,rfl,.inl (SqL.of c2),fun l1 f1=>?_⟩;have S1:=Same.upd (o:=.lst (ks.map V.int)) f1;have e1:upd H l1 (.lst (ks.map V.int)) l1=some (.lst (ks.map V.int)):=upd_same;generalize upd H l1 _=H1 at *;walk;refine⟨lg,_,rfl,.inl (SqL.of (S1 _ _ c3)),fun l2 f2=>?_⟩;have S2:=Same.upd (o:=.lst (gs.map V.int)) f2
  have e2:upd H1 l2 (.lst (gs.map V.int)) l2=some (.lst (gs.map V.int)):=upd_same;have S:=S1.trans S2;generalize upd H1 l2 _=H2 at *;walk;exact mk_page (S2 _ _ e1) e2 ok og fun x dx tk tg H3 g1 g2 g3 S3 q1 q2 q3=>k x dx tk tg H3 (S.free g1) (S.free g2) (S.free g3) (S.trans S3) q1 q2 q3
section
variable {a:LA}{g:Hp}{st dn:Addr}{most top:Int}{R:RS}{us fs:List Int}
theorem up_st {b o q q'}(e:g b=some o)(s:g st=some (.dK q))(n:∀q,o≠.dK q):upd g st (.dK q') b=some o:=by
 rw[upd_ne (fun z=>by rw[z,s] at e;cases e;exact n _ rfl)];exact e
theorem tups_st {ts ps d o o'}(h:Tups g ts ps)(s:g d=some o)(n:∀xs,o≠.tup xs):Tups (upd g d o') ts ps:=h.keep fun b xs z=>by
 rw[upd_ne (fun y=>by rw[y,s] at z;cases z;exact n _ rfl)];exact z
theorem IsLS.nds (t:IsLS a g st dn most top R us fs):(a.lu≠a.lk/\a.lu≠a.lf/\a.lu≠a.lc)/\(a.lk≠a.lf/\a.lk≠a.lc)/\a.lf≠a.lc:=by
 have nd:=t.nd;simp only[List.nodup_cons,List.mem_cons,List.not_mem_nil,or_false,not_or] at nd;exact⟨nd.1,nd.2.1,nd.2.2.1⟩
theorem IsLS.upS (t:IsLS a g st dn most top R us fs){a':LA}{top':Int}{R':RS}{us' fs':List Int}(u:g a'.lu=some (.lst (us'.map V.int)))(k:g a'.lk=some (.lst (a'.tk.map V.ref)))(f:g a'.lf=some (.lst (fs'.map V.int)))(c:g a'.lc=some (.lst (a'.tc.map V.ref)))
  (tk:Tups g a'.tk R'.ks) (tc:Tups g a'.tc R'.cs) (nd:[a'.lu,a'.lk,a'.lf,a'.lc].Nodup) (pu:us'.Perm R'.us) (su:us'.Pairwise (· <= ·)) (pf:fs'.Perm R'.fs) (sf:fs'.Pairwise (· <= ·)) :
  IsLS a' (upd g st (.dK (stK most top' dn a'.lu a'.lk a'.lf a'.lc R'.lap))) st dn most top' R' us' fs':=
 ⟨upd_same,up_st u t.s (fun _ z=>nomatch z),up_st k t.s (fun _ z=>nomatch z),up_st f t.s (fun _ z=>nomatch z),up_st c t.s (fun _ z=>nomatch z),tups_st tk t.s (fun _ z=>nomatch z),tups_st tc t.s (fun _ z=>nomatch z),nd,pu,su,pf,sf⟩
theorem IsLS.fresh (t:IsLS a g st dn most top R us fs){l}(f:g l=none):l≠a.lu/\l≠a.lk/\l≠a.lf/\l≠a.lc/\l≠st:=⟨(ne_of_none t.u f).symm,(ne_of_none t.k f).symm,(ne_of_none t.f f).symm,(ne_of_none t.c f).symm,(ne_of_none t.s f).symm⟩
theorem IsLS.newF (t:IsLS a g st dn most top R us fs){l}{fs' F:List Int}(f:g l=none)(p:fs'.Perm F)(so:fs'.Pairwise (· <= ·)) :
  IsLS { a with lf:=l } (upd (upd g l (.lst (fs'.map V.int))) st (.dK (stK most top dn a.lu a.lk l a.lc R.lap))) st dn most top { R with fs:=F } us fs':=by
 have S:=Same.upd (o:=.lst (fs'.map V.int)) f;have t1:=t.same S;obtain⟨f1,f2,f3,f4,f5⟩:=t.fresh f;obtain⟨⟨n1,n2,n3⟩,⟨n4,n5⟩,n6⟩:=t.nds;exact t1.upS (a':={ a with lf:=l }) (R':={ R with fs:=F }) t1.u t1.k upd_same t1.c t1.tk t1.tc (by simp[n1,n3,n5,Ne.symm f1,Ne.symm f2,f4]) t.pu t.su p so
theorem IsLS.newU (t:IsLS a g st dn most top R us fs){l}{us' U:List Int}(f:g l=none)(p:us'.Perm U)(so:us'.Pairwise (· <= ·)) :
  IsLS { a with lu:=l } (upd (upd g l (.lst (us'.map V.int))) st (.dK (stK most top dn l a.lk a.lf a.lc R.lap))) st dn most top { R with us:=U } us' fs:=by
 have S:=Same.upd (o:=.lst (us'.map V.int)) f;have t1:=t.same S;obtain⟨f1,f2,f3,f4,f5⟩:=t.fresh f;obtain⟨⟨n1,n2,n3⟩,⟨n4,n5⟩,n6⟩:=t.nds;exact t1.upS (a':={ a with lu:=l }) (R':={ R with us:=U }) upd_same t1.k t1.f t1.c t1.tk t1.tc (by simp[n4,n5,n6,f2,f3,f4]) p so t.pf t.sf
theorem IsLS.newK (t:IsLS a g st dn most top R us fs){l}{tk:List Addr}{ks}(e:g l=some (.lst (tk.map V.ref)))(n:l∉[a.lu,a.lf,a.lc])(h:Tups g tk ks) :
  IsLS { a with lk:=l,tk:=tk } (upd g st (.dK (stK most top dn a.lu l a.lf a.lc R.lap))) st dn most top { R with ks:=ks } us fs:=by
 simp only[List.mem_cons,List.not_mem_nil,or_false,not_or] at n;obtain⟨⟨n1,n2,n3⟩,⟨n4,n5⟩,n6⟩:=t.nds;exact t.upS (a':={ a with lk:=l,tk:=tk }) (R':={ R with ks:=ks }) t.u e t.f t.c h t.tc (by simp[n2,n3,n6,Ne.symm n.1,n.2.1,n.2.2]) t.pu t.su t.pf t.sf
theorem IsLS.newC (t:IsLS a g st dn most top R us fs){l}{tc:List Addr}{cs}(e:g l=some (.lst (tc.map V.ref)))(n:l∉[a.lu,a.lk,a.lf])(h:Tups g tc cs) :
  IsLS { a with lc:=l,tc:=tc } (upd g st (.dK (stK most top dn a.lu a.lk a.lf l R.lap))) st dn most top { R with cs:=cs } us fs:=by
 simp only[List.mem_cons,List.not_mem_nil,or_false,not_or] at n;obtain⟨⟨n1,n2,n3⟩,⟨n4,n5⟩,n6⟩:=t.nds;exact t.upS (a':={ a with lc:=l,tc:=tc }) (R':={ R with cs:=cs }) t.u t.k t.f e t.tk h (by simp[n1,n2,n4,Ne.symm n.1,Ne.symm n.2.1,Ne.symm n.2.2]) t.pu t.su t.pf t.sf
theorem IsLS.setLap (t:IsLS a g st dn most top R us fs)(l:Int):IsLS a (upd g st (.dK (stK most top dn a.lu a.lk a.lf a.lc l))) st dn most top { R with lap:=l } us fs:=t.upS (R':={ R with lap:=l }) t.u t.k t.f t.c t.tk t.tc t.nd t.pu t.su t.pf t.sf
theorem IsLS.setTop (t:IsLS a g st dn most top R us fs)(p:Int):IsLS a (upd g st (.dK (stK most p dn a.lu a.lk a.lf a.lc R.lap))) st dn most p R us fs:=t.upS t.u t.k t.f t.c t.tk t.tc t.nd t.pu t.su t.pf t.sf
theorem IsLS.setF (t:IsLS a g st dn most top R us fs){fs' F:List Int}(p:fs'.Perm F)(so:fs'.Pairwise (· <= ·)):IsLS a (upd g a.lf (.lst (fs'.map V.int))) st dn most top { R with fs:=F } us fs':=by
 obtain⟨⟨n1,n2,n3⟩,⟨n4,n5⟩,n6⟩:=t.nds;exact⟨by rw[upd_ne (ne_of t.s t.f (fun z=>nomatch z))];exact t.s,by rw[upd_ne n2];exact t.u,by rw[upd_ne n4];exact t.k,upd_same,by rw[upd_ne (Ne.symm n6)];exact t.c,tups_st t.tk t.f (fun _ z=>nomatch z),tups_st t.tc t.f (fun _ z=>nomatch z),t.nd,t.pu,t.su,p,so⟩
theorem IsLS.appK (t:IsLS a g st dn most top R us fs){x}{q:Int×Int}(e:g x=some (.tup [.int q.1,.int q.2])):IsLS { a with tk:=a.tk++[x] } (upd g a.lk (.lst (a.tk.map V.ref++[.ref x]))) st dn most top { R with ks:=R.ks++[q] } us fs:=by
 obtain⟨⟨n1,n2,n3⟩,⟨n4,n5⟩,n6⟩:=t.nds;exact⟨by rw[upd_ne (ne_of t.s t.k (fun z=>nomatch z))];exact t.s,by rw[upd_ne n1];exact t.u,by rw[upd_same,List.map_append];rfl,by rw[upd_ne (Ne.symm n4)];exact t.f,by rw[upd_ne (Ne.symm n5)];exact t.c,tups_st (t.tk.snoc e) t.k (fun _ z=>nomatch z),tups_st t.tc t.k (fun _ z=>nomatch z),t.nd,t.pu,t.su,t.pf,t.sf⟩
theorem IsLS.appC (t:IsLS a g st dn most top R us fs){x}{q:Int×Int}(e:g x=some (.tup [.int q.1,.int q.2])):IsLS { a with tc:=a.tc++[x] } (upd g a.lc (.lst (a.tc.map V.ref++[.ref x]))) st dn most top { R with cs:=R.cs++[q] } us fs:=by
 obtain⟨⟨n1,n2,n3⟩,⟨n4,n5⟩,n6⟩:=t.nds;exact⟨by rw[upd_ne (ne_of t.s t.c (fun z=>nomatch z))];exact t.s,by rw[upd_ne n3];exact t.u,by rw[upd_ne n5];exact t.k,by rw[upd_ne n6];exact t.f,by rw[upd_same,List.map_append];rfl,tups_st t.tk t.c (fun _ z=>nomatch z),tups_st (t.tc.snoc e) t.c (fun _ z=>nomatch z),t.nd,t.pu,t.su,t.pf,t.sf⟩
theorem IsLS.outL (t:IsLS a g st dn most top R us fs){l xs ys}(e:g l=some (.lst xs))(n:l∉[a.lu,a.lk,a.lf,a.lc]):IsLS a (upd g l (.lst ys)) st dn most top R us fs:=by
 simp only[List.mem_cons,List.not_mem_nil,or_false,not_or] at n;obtain⟨n1,n2,n3,n4⟩:=n
 exact⟨by rw[upd_ne (ne_of t.s e (fun z=>nomatch z))];exact t.s,by rw[upd_ne (Ne.symm n1)];exact t.u,by rw[upd_ne (Ne.symm n2)];exact t.k,by rw[upd_ne (Ne.symm n3)];exact t.f,by rw[upd_ne (Ne.symm n4)];exact t.c,tups_st t.tk e (fun _ z=>nomatch z),tups_st t.tc e (fun _ z=>nomatch z),t.nd,t.pu,t.su,t.pf,t.sf⟩
end
theorem erase_at {α:Type}{q:α->Bool}:∀{l:List α} {j:Nat},(∀m x,l[m]?=some x->(q x=true ↔ m≠j))->j<l.length->l.eraseIdx j=l.filter q
 | x::l,0,h,_=>by
  have hx:¬q x=true:=fun z=>absurd rfl ((h 0 x rfl).mp z);rw[List.eraseIdx_cons_zero,List.filter_cons_of_neg hx];refine(List.filter_eq_self.mpr fun y hy=>?_).symm;obtain⟨m,hm,rfl⟩:=List.getElem_of_mem hy;exact(h (m+1) l[m] (List.getElem?_eq_getElem hm)).mpr (Nat.succ_ne_zero _)
 | x::l,j+1,h,hj=>by
  have hx:q x=true:=(h 0 x rfl).mpr (by omega);rw[List.eraseIdx_cons_succ,List.filter_cons_of_pos hx,erase_at (fun m y hy=>by rw[h (m+1) y hy];omega) (Nat.lt_of_succ_lt_succ hj)]
theorem erase_us {us:List Int}(nd:us.Nodup){j:Nat}{p:Int}(h:us[j]?=some p):us.eraseIdx j=us.filter fun n=>decide (n≠p):=by
 obtain⟨hj,e⟩:=List.getElem?_eq_some_iff.mp h;refine erase_at (fun m x hm=>?_) hj;obtain⟨h1,e1⟩:=List.getElem?_eq_some_iff.mp hm;rw[decide_eq_true_iff];constructor
 ·intro n z;subst z;exact n (e1.symm.trans e)
 ·intro n z;exact n ((List.getElem_inj nd).mp (e1.trans (z.trans e.symm)))
theorem map_erase {α β:Type}(f:α->β):∀(l:List α) (j:Nat),(l.map f).eraseIdx j=(l.eraseIdx j).map f
 | [],_=>rfl
 | _::_,0=>rfl
 | x::l,j+1=>by rw[List.map_cons,List.eraseIdx_cons_succ,List.eraseIdx_cons_succ,List.map_cons,map_erase f l j]
abbrev s__law_given:Stmt:=top 61
def GivenL (fs:List Int)(N:Nat)(p:Int):Prop:=fs=[]/\p=N\/p∈fs/\∀n∈fs,p<=n
inductive spGivenL (vs:List V)(H:Hp)(Q:VK)(E:XK):Prop
 | mk (a:LA)(g:Hp)(st dn:Addr)(most top:Int)(R:RS)(us fs:List Int)(kvs:List (Key×V)):vs=[.ref st]->IsLS a g st dn most top R us fs->Same g H->H dn=some (.dK kvs)->R.Ok->us.length<60->fs.length<60->(∀p a' g' us' fs' H',GivenL fs kvs.length p->IsLS a' g' st dn most top (R.take p) us' fs'->Chg g g' H H'->Q (.int p) H')->spGivenL vs H Q E
theorem ok_given_l:Ok F F.r.d__law_given 1 spGivenL:=by
 refine F.r.d__law_given.go @fun f cdv A outer s0 vs E sc H Q hr h=>?_;obtain⟨a,g,st,dn,most,tp,R,us,fs,kvs,rfl,t,s,hdn,ok,fu,ff,k⟩:=h;have hu1:(cxOf CX0 P w K mg base ["_law_state_here","_law_place_here"] "_law_given" (defScope s__law_given) f cdv A outer s0 H E).nox.A.in1.units<cLine:=hu_of hr;have big:=big1000;have hs:=s _ _ t.s;have hf:=s _ _ t.f;have ndf:fs.Nodup:=t.pf.nodup_iff.mpr ok.fsn
 refine'⟨_,(pss_cons (ps_v sc 1 (pe_callBK (call_minDf (hr.hd rfl)) rfl F.r.T.n_min bt_min (pa1 (pe_gs hr (pv 0))) (pk_cons (pe_callB call_lenD rfl F.r.T.n_len bt_len (pa1 (pe_gs hr (pv 0)))) pk_nil)))
  (pss_cons (ps_if (pt_cmpR op_in_seq (pv 1) (pe_gs hr (pv 0)) (by with_unfolding_all rfl))
   (pss_one (ps_expr (pe_bm PySem.F.plainAttrs_list PySem.F.slot_list_remove PySem.F.type_list_remove (mt_remove hu1) (pe_gs hr (pv 0)) (pa1 (pv 1)))))
   pss_nil)
  (pss_cons (ps_dput (hu_of hr) (pv 0) pe_str (pe_callB call_sortL rfl F.r.T.n_sorted bt_sorted (pa1 (pe_op op_cat (pe_gs hr (pv 0)) (pe_lst (pa1 (pv 1)))))) rfl)
  (pss_one (ps_ret (pv 1)))))),?_⟩
 refine s_join (fun σ1 H1=>∃p:Int,σ1=[some (.ref st),some (.int p)]/\H=H1/\GivenL fs kvs.length p) (fun N z=>?_) ?_
 ·walk;refine⟨dn,kvs,rfl,hdn,?_⟩;walk;exact⟨a.lf,fs,_,rfl,rfl,SqL.of hf,fun e=>z _ _ ⟨_,rfl,rfl,.inl ⟨e,rfl⟩⟩,fun m hm mn=>z _ _ ⟨m,rfl,rfl,.inr ⟨hm,mn⟩⟩⟩
 rintro σ1 H1 ⟨p,rfl,rfl,gp⟩;refine s_join (fun σ2 H2=>∃g2,σ2=[some (.ref st),some (.int p)]/\IsLS a g2 st dn most tp { R with fs:=R.fs.filter fun n=>decide (n≠p) } us (fs.filter fun n=>decide (n≠p))/\Chg g g2 H H2) (fun N z=>?_) ?_
 ·walk;refine⟨a.lf,_,rfl,.inl (SqL.of hf),rfl,all_flat,?_⟩;rw[if_neg Bool.false_ne_true,inV_ints];walk;by_cases hp:p∈fs
  ·refine iteD hp ?_;obtain⟨j,hj,ej⟩:=List.getElem_of_mem hp;have hj':fs[j]?=some p:=by rw[List.getElem?_eq_getElem hj,ej]
   walk;refine⟨a.lf,_,.int p,j,rfl,rfl,hf,by rw[List.length_map];exact hj,fun m v hm hv=>.inl ?_,?_⟩
   ·rw[List.getElem?_map] at hv;obtain⟨y,hy,rfl⟩:=Option.map_eq_some_iff.mp hv;refine⟨.inr ⟨rfl,rfl⟩,?_⟩;obtain⟨h1,e1⟩:=List.getElem?_eq_some_iff.mp hy;by_cases c:m=j
    ·subst c;rw[decide_eq_true rfl];have:y=p:=by rw[<- e1,ej]
     subst this;simp[eqP]
    ·rw[decide_eq_false c];have n:y≠p:=fun z=>c ((List.getElem_inj ndf).mp (e1.trans (z.trans ej.symm)));simp[eqP,eqV,n]
   ·rw[map_erase,erase_us ndf hj'];exact z _ _ ⟨_,rfl,t.setF (t.pf.filter _) (t.sf.sublist List.filter_sublist),.mut s t.f⟩
  ·refine iteX hp ?_;walk;have e1:(fs.filter fun n=>decide (n≠p))=fs:=List.filter_eq_self.mpr fun y hy=>decide_eq_true fun z=>hp (z▸hy);have e2:(R.fs.filter fun n=>decide (n≠p))=R.fs:=List.filter_eq_self.mpr fun y hy=>decide_eq_true fun z=>hp (t.pf.mem_iff.mpr (z▸hy));refine z _ _ ⟨g,rfl,?_,.refl s⟩;rw[e1,e2];exact t
 rintro σ2 H2 ⟨g2,rfl,t2,c2⟩;have s2:=c2.sm;have hs2:=s2 _ _ t2.s;walk;refine newL fun l1 H3 f1 S1 e1=>?_;refine q_cat (S1 _ _ (s2 _ _ t2.u)) e1 (by rw[List.length_map];show _+1<=_;omega) fun l2 f2=>?_;have em:us.map V.int++[V.int p]=(us++[p]).map V.int:=by rw[List.map_append];rfl
 rw[em];have S2:=Same.upd (o:=.lst ((us++[p]).map V.int)) f2;have e2:upd H3 l2 (.lst ((us++[p]).map V.int)) l2=some (.lst ((us++[p]).map V.int)):=upd_same;generalize upd H3 l2 _=H4 at *;walk;refine⟨l2,us++[p],rfl,SqL.of e2,by rw[List.length_append];show _+1<64;omega,fun ns p1 p2 l3 f3=>?_⟩;have S3:=Same.upd (o:=.lst (ns.map V.int)) f3;have S13:=S1.trans S2;have f3':=S13.free f3
 have e3:upd H4 l3 (.lst (ns.map V.int)) l3=some (.lst (ns.map V.int)):=upd_same;have S:=S13.trans S3;generalize upd H4 l3 _=H5 at *;walk;refine k_dputS (S _ _ hs2) st_lt sp_used ?_;walk;have t3:=t2.newU (s2.free f3') (p1.trans (t.pu.append_right [p])) p2
 have c3:=(c2.trans (.addS s2 S f3' e3)).trans (.mut (o:=.dK (stK most tp dn l3 a.lk a.lf a.lc R.lap)) (Chg.addS s2 S f3' e3).sm (un_f (s2.free f3') t2.s));exact k p _ _ _ _ _ gp t3 c3
inductive spLF (vs:List V)(H:Hp)(Q:VK)(E:XK):Prop
 | mk (a:LA)(g:Hp)(st dn:Addr)(most top:Int)(R:RS)(us fs:List Int):vs=[.ref st]->IsLS a g st dn most top R us fs->Same g H->fs.length+R.ks.length<60->R.cs.length<=500->(∀a' g' fs' H',IsLS a' g' st dn most top R.rel us fs'->Chg g g' H H'->Q .non H')->spLF vs H Q E
def leV (l:Int)(v:V):Bool:=match v with|.int z=>decide (z<=l)|_=>false
theorem none_past (cs:List (Int×Int))(l:Int):decide (((cs.map fun c=>V.int c.2).filter (leV l))=[])=pastL cs l:=by
 unfold pastL;rw[Bool.eq_iff_iff,decide_eq_true_iff,List.all_eq_true,List.filter_eq_nil_iff];constructor
 ·intro h c hc;have:=h (.int c.2) (List.mem_map.mpr ⟨c,hc,rfl⟩);refine decide_eq_true ?_;have n:¬c.2<=l:=fun z=>this (decide_eq_true z);omega
 ·intro h v hv;obtain⟨c,hc,rfl⟩:=List.mem_map.mp hv;have:=of_decide_eq_true (h c hc);intro z;have z':c.2<=l:=of_decide_eq_true z;omega
theorem ok_lf:Ok F F.r.d__law_let_free 1 spLF:=by
 refine F.r.d__law_let_free.ok (N:=["_law_state_here","_law_laps","_law_rest","_law_place_here","_law_lap"]) @fun f cdv A outer s0 vs E sc H Q hr h=>?_;obtain⟨a,g,st,dn,most,tp,R,us,fs,rfl,t,s,few,fewc,k⟩:=h;have hu:=hr.units0;have big:=big1000;have hs:=s _ _ t.s
 refine'⟨_,(pss_cons (ps_setComp22 (i:=1) (blk_mk [] []) rfl (pi_list (pe_gs hr (pv 0))) (fun _ _ _ _ _=>PTs.nil) (fun _ _ _ _ _=>(pv 1)) sc.nd rfl rfl)
  (pss_cons (ps_v sc 2 (pe_lst pa_nil))
  (pss_cons (ps_for PassesOwn.never rfl (pi_list (pe_gs hr (pv 0))) (pg_tup rfl (pgs_cons (pg_v sc 3) (pgs_cons (pg_name (i:=4) sc.nd rfl (Or.inr rfl)) pgs_nil)))
   (pss_one (ps_if (pc (op_neL hu) (pe_comp (blk_mk ["_law_lap"] [4]) rfl (pi_list (pv 1)) (fun _ _ _ _ _=>(PTs.one (pc op_le (pv 0) (pv 1)))) (fun _ _ _ _ _=>(pv 0))) (pe_lst pa_nil))
   (pss_one (ps_expr (pe_bm PySem.F.plainAttrs_list PySem.F.slot_list_append PySem.F.type_list_append mt_append (pv 2) (pa1 (pe_tup (pa2 (pv 3) (pv 4)))))))
   (pss_one (ps_dput (hu_of hr) (pv 0) pe_str (pe_callB call_sortL rfl F.r.T.n_sorted bt_sorted (pa1 (pe_op op_cat (pe_gs hr (pv 0)) (pe_lst (pa1 (pv 3)))))) rfl)))))
  (pss_one (ps_dput (hu_of hr) (pv 0) pe_str (pv 2) rfl))))),?_⟩
 walk;refine comp_list (l:=a.lc) (ts:=a.tc) (ps:=R.cs) (fun R' z=>?_) (s _ _ t.c) (t.tc.keep fun b xs z=>s _ _ z) (by omega) (fun _=>true) (fun c=>.int c.2) (fun c _ H2 R' _ z=>z H2 (Same.refl _)) (fun c _ _ H2 R' _ z=>⟨_,rfl,z H2 (Same.refl _)⟩) fun ll H1 fll S1 ell=>?_
 ·walk;exact z
 rw[filt_all] at ell;walk;refine⟨sz,fun lr fr=>?_⟩;have S2:=Same.upd (o:=.lst []) fr;have er:upd H1 lr (.lst []) lr=some (.lst (([]:List Addr).map V.ref)):=upd_same;have nll:ll≠lr:=ne_of_none ell fr;have ell2:=S2 _ _ ell;have c0:Chg g (upd g lr (.lst [])) H (upd H1 lr (.lst [])):=.addS s (S1.trans S2) (S1.free fr) er;have frg:g lr=none:=s.free (S1.free fr);have fllg:g ll=none:=s.free fll
 have t0:IsLS a (upd g lr (.lst [])) st dn most tp R us fs:=t.same (Same.upd frg);obtain⟨q1,q2,q3,q4,q5⟩:=t.fresh frg;generalize upd H1 lr (.lst [])=H2 at *;have g0l:upd g lr (.lst []) ll=none:=by rw[upd_ne nll];exact fllg
 have g0r:upd g lr (.lst []) lr=some (.lst (([]:List Addr).map V.ref)):=upd_same;generalize upd g lr (.lst [])=g0 at *;have s2:=c0.sm;have hs2:=s2 _ _ t0.s;walk;refine k_il (s2 _ _ t0.k) ?_
 refine q_forL (xs:=a.tk.map V.ref) (fun i σ H3=>∃(o3 o4:Option V) (lf:Addr) (fs':List Int) (tk':List Addr) (g3:Hp),σ=[some (.ref st),some (.ref ll),some (.ref lr),o3,o4]/\IsLS { a with lf:=lf } g3 st dn most tp { R with fs:=R.fs++((R.ks.take i).filter fun k=>pastL R.cs k.2).map (·.1) } us fs'/\fs'.length<=fs.length+i/\Chg g0 g3 H2 H3/\g3 lr=some (.lst (tk'.map V.ref))/\Tups g3 tk' ((R.ks.take i).filter fun k=>!pastL R.cs k.2)/\lr≠lf/\H3 ll=some (.lst (R.cs.map fun c=>V.int c.2))) ⟨none,none,a.lf,fs,[],g0,rfl,?_,by omega,.refl s2,g0r,⟨rfl,fun j t x z _=>by cases z⟩,q3,ell2⟩ (fun i σ H3 _ ⟨_,_,_,_,_,g3,_,t3,_,c3,_⟩=>c3.sm _ _ t3.k) ?_ ?_
 ·rw[List.take_zero,List.filter_nil,List.map_nil,List.append_nil];exact t0
 ·rintro i v σ H3 hi ⟨o3,o4,lf,fs',tk',g3,rfl,t3,l3,c3,er3,tt3,nlf,el3⟩;rw[List.getElem?_map] at hi;obtain⟨x,hx,rfl⟩:=Option.map_eq_some_iff.mp hi;have hil:i<R.ks.length:=by rw[<- t.tk.1];exact(List.getElem?_eq_some_iff.mp hx).1
  have hk:=List.getElem?_eq_getElem hil;generalize R.ks[i]=q at hk;have s3:=c3.sm;have ex3:=s3 _ _ (t3.tk.2 i x q hx hk);have hs3:=s3 _ _ t3.s;have tka:R.ks.take (i+1)=R.ks.take i++[q]:=by rw[List.take_add_one,hk];rfl
  walk;have row:RowAt false H3 ll (R.cs.map fun c=>V.int c.2):=el3;refine comp_f (J:=ItB K false ll) (H1:=H3) (R.cs.map fun c=>V.int c.2) (leV q.2) (fun y=>y) (fun R' z=>⟨_,rfl,ll,rfl,⟨_,SqL.of el3⟩,z⟩) (it_row row) ?_ ?_ (by rw[List.length_map];omega) ?_
  ·intro y hy H4 R' S4 z;obtain⟨c,_,rfl⟩:=List.mem_map.mp hy;exact⟨_,rfl,_,rfl,_,_,rfl,rfl,_,rfl,z H4 (Same.refl _)⟩
  ·exact fun y hy _ H4 R' S4 z=>⟨_,rfl,z H4 (Same.refl _)⟩
  intro d H4 fd4 S4 ed;rw[List.map_id'] at ed;walk;refine⟨sz,fun l0 f0=>?_⟩;have S5:=Same.upd (o:=.lst []) f0;have e0:upd H4 l0 (.lst []) l0=some (.lst []):=upd_same;have ed5:=S5 _ _ ed;have S45:=S4.trans S5;generalize upd H4 l0 (.lst [])=H5 at *;refine⟨d,l0,_,[],rfl,rfl,SqL.of ed5,SqL.of e0,okPs_nil,?_⟩;rw[if_pos rfl,eqPs_nil,none_past];have c5:=c3.and S45;have s5:=c5.sm;have el5:=S45 _ _ el3
  have hs5:=s5 _ _ t3.s;have g3l:g3 ll=none:=c3.out g0l ell2;walk;cases hp:pastL R.cs q.2 with
  | true=>
   walk;refine newL fun l6 H6 f6 S6 e6=>?_;refine q_cat (S6 _ _ (s5 _ _ t3.f)) e6 (by rw[List.length_map];show _+1<=_;omega) fun l7 f7=>?_;have em:fs'.map V.int++[V.int q.1]=(fs'++[q.1]).map V.int:=by rw[List.map_append];rfl
   rw[em];have S7:=Same.upd (o:=.lst ((fs'++[q.1]).map V.int)) f7;have e7:upd H6 l7 (.lst ((fs'++[q.1]).map V.int)) l7=some (.lst ((fs'++[q.1]).map V.int)):=upd_same;generalize upd H6 l7 _=H7 at *;walk;refine⟨l7,fs'++[q.1],rfl,SqL.of e7,by rw[List.length_append];show _+1<64;omega,fun ns p1 p2 l8 f8=>?_⟩;have S8:=Same.upd (o:=.lst (ns.map V.int)) f8;have S67:=S6.trans S7
   have f8':H5 l8=none:=S67.free f8;have e8:upd H7 l8 (.lst (ns.map V.int)) l8=some (.lst (ns.map V.int)):=upd_same;have S68:=S67.trans S8;generalize upd H7 l8 _=H8 at *;walk;refine k_dputS (S68 _ _ hs5) st_lt sp_free ?_;have f8g:=s5.free f8'
   have t4:=t3.newF f8g (F:=R.fs++(((R.ks.take (i+1)).filter fun k=>pastL R.cs k.2).map (·.1))) (p1.trans ((t3.pf.append_right [q.1]).trans (by rw[tka,List.filter_append,List.map_append,List.append_assoc];simp[hp]))) p2;have cA:Chg g3 (upd g3 l8 (.lst (ns.map V.int))) H5 H8:=.addS s5 S68 f8' e8
   have c4:=(c5.trans cA).trans (.mut (o:=.dK (stK most tp dn a.lu a.lk l8 a.lc R.lap)) cA.sm (un_f f8g t3.s));have n8r:lr≠l8:=ne_of_none er3 f8g;refine⟨_,_,l8,ns,tk',_,rfl,t4,by have:=p1.length_eq;rw[List.length_append] at this;have:ns.length=fs'.length+1:=this;omega,c4,?_,?_,n8r,?_⟩
   ·rw[upd_ne (ne_of er3 t3.s (fun z=>nomatch z))];exact un_f f8g er3
   ·rw[tka,List.filter_append];have:([q].filter fun k=>!pastL R.cs k.2)=[]:=by simp[hp]
    rw[this,List.append_nil];exact tups_st (tt3.keep fun b xs z=>un_f f8g z) (un_f f8g t3.s) (fun _ z=>nomatch z)
   ·rw[upd_ne (fun z=>by rw[z,hs5] at el5;cases el5)];exact S68 _ _ el5
  | false=>
   walk;refine newT fun x6 H6 f6 S6 e6=>?_;have lt:=tt3.1;have fl2:((R.ks.take i).filter fun k=>!pastL R.cs k.2).length<=i:=Nat.le_trans (List.length_filter_le _ _) (by rw[List.length_take];omega);walk;refine q_append (S6 _ _ (s5 _ _ er3)) (by rw[List.length_map];omega) ?_;have f6g:=s5.free f6;have cA:Chg g3 (upd g3 x6 (.tup [.int q.1,.int q.2])) H5 H6:=.addS s5 S6 f6 e6
   have er4:upd g3 x6 (.tup [.int q.1,.int q.2]) lr=some (.lst (tk'.map V.ref)):=un_f f6g er3;have c4:=(c5.trans cA).trans (.mut (o:=.lst (tk'.map V.ref++[.ref x6])) cA.sm er4)
   have t4:IsLS { a with lf:=lf } (upd (upd g3 x6 (.tup [.int q.1,.int q.2])) lr (.lst (tk'.map V.ref++[.ref x6]))) st dn most tp { R with fs:=R.fs++((R.ks.take (i+1)).filter fun k=>pastL R.cs k.2).map (·.1) } us fs':=by
    have e:((R.ks.take (i+1)).filter fun k=>pastL R.cs k.2)=(R.ks.take i).filter fun k=>pastL R.cs k.2:=by rw[tka,List.filter_append];simp[hp]
    rw[e];exact(t3.same (Same.upd f6g)).outL er4 (by simp[q1,q2,nlf,q4])
   refine⟨_,_,lf,fs',tk'++[x6],_,rfl,t4,by omega,c4,by rw[upd_same,List.map_append];rfl,?_,nlf,?_⟩
   ·rw[tka,List.filter_append];have:([q].filter fun k=>!pastL R.cs k.2)=[q]:=by simp[hp]
    rw[this];exact tups_st ((tt3.keep fun b xs z=>un_f f6g z).snoc upd_same) er4 (fun _ z=>nomatch z)
   ·rw[upd_ne nll];exact S6 _ _ el5
 ·rintro σ H3 ⟨o3,o4,lf,fs',tk',g3,rfl,t3,l3,c3,er3,tt3,nlf,el3⟩;rw[List.length_map,t.tk.1,List.take_length] at t3 tt3;have s3:=c3.sm;have hs3:=s3 _ _ t3.s;walk;refine k_dputS hs3 st_lt sp_kept ?_;have t4:=t3.newK er3 (by simp[q1,nlf,q4]) tt3;exact k _ _ _ _ t4 ((c0.trans c3).trans (.mut s3 t3.s))
theorem swaps_list {es p}{t:Option Expr}{l:Nat}{env:Env}:swapsWith (.List es p) t l env=pure false:=by rfl
abbrev s__law_state:Stmt:=top 60
inductive spState (vs:List V)(H:Hp)(Q:VK)(E:XK):Prop
 | mk (most:Int):vs=[.int most]->(∀gN gS st dn nd a H',Same H H'->IsLN gN dn nd (MS.init most).ns->IsLS a gS st dn most 0 (MS.init most).R [0] []->Dis gN gS->Same gN H'->Same gS H'->(∀b,gN b=none\/H b=none)->(∀b,gS b=none\/H b=none)->Q (.ref st) H')->spState vs H Q E
theorem ok_state:Ok F F.r.d__law_state 1 spState:=by
 refine F.r.d__law_state.ok (N:=["_law_most","_law_node"]) @fun f cdv A outer s0 vs E sc H Q hr h=>?_;obtain⟨most,rfl,k⟩:=h;have hp0:∀pos:Pos,PE (cxOf CX0 P w K mg base ["_law_most","_law_node"] "_law_state" (defScope s__law_state) f cdv A outer s0 H E).nox (.Name "_law_most" pos) (tVar 0):=fun pos=>pv 0
 have hp1:∀pos:Pos,PE (cxOf CX0 P w K mg base ["_law_most","_law_node"] "_law_state" (defScope s__law_state) f cdv A outer s0 H E).nox (.Name "_law_node" pos) (tVar 1):=fun pos=>pv 1;refine'⟨_,?h,?r⟩
 case h=>
  refine' pss_cons ?a ?b0
  case a=>
   with_reducible refine' ps_set (i:=1) ?h0 ?h1 ?h2 ?e swaps_list ?h3
   case h0=>exact sc.nd
   case h1=>rfl
   case h2=>exact Or.inl rfl
   case h3=>exact Or.inr rfl
   case e=>with_reducible exact pe_lst (pa_int (pa_lst pa_nil (pa_lst pa_nil (pa_non (pa_non (pa_int (pa_non (pa_bl (pa_bl pa_nil)))))))))
  case b0=>
   with_reducible refine' pss_one (ps_ret ?b)
   case b=>
    with_reducible refine' pe_disp (pps_cons pe_str (hp0 _) (pps_cons pe_str pe_int (pps_cons pe_str (pe_disp (pps_cons pe_int (hp1 _) pps_nil) ?b1 ?b2 ?b3 ?b4) (pps_cons pe_str (pe_lst (pa_int pa_nil)) (pps_cons pe_str (pe_lst pa_nil) (pps_cons pe_str (pe_lst pa_nil) (pps_cons pe_str (pe_lst pa_nil) (pps_cons pe_str pe_int pps_nil)))))))) ?a1 ?a2 ?a3 ?a4
    case a1=>rfl
    case a2=>rfl
    case a3=>exact List.cons_ne_nil _ _
    case a4=>exact Nat.le_of_ble_eq_true rfl
    case b1=>rfl
    case b2=>rfl
    case b3=>exact List.cons_ne_nil _ _
    case b4=>exact Nat.le_of_ble_eq_true rfl
 case r=>
 walk;refine newL fun k0 H0 f0 S0 e0=>?_;replace e0:H0 k0=some (.lst (([]:List Int).map V.int)):=e0;walk;refine newL fun g0 H1 f1 S1 e1=>?_;replace e1:H1 g0=some (.lst (([]:List Int).map V.int)):=e1;have T1:=S0.trans S1;replace e0:=S1 _ _ e0;have z1:=S0.free f1;walk;refine⟨sz,fun l0 f2=>?_⟩;have S2:=Same.upd (o:=.lst (lN ⟨0,[],[],none,none,0,none,false,false⟩ k0 g0)) f2
 have e2:upd H1 l0 (.lst (lN ⟨0,[],[],none,none,0,none,false,false⟩ k0 g0)) l0=some (.lst (lN ⟨0,[],[],none,none,0,none,false,false⟩ k0 g0)):=upd_same;have T2:=T1.trans S2;replace e0:=S2 _ _ e0;replace e1:=S2 _ _ e1;have z2:=T1.free f2;walk_at "o";change tRet _ _ _ (upd H1 l0 (.lst (lN ⟨0,[],[],none,none,0,none,false,false⟩ k0 g0)));generalize upd H1 l0 _=H2 at *;clear S0 S1 S2 T1 f1 f2
 refine s_ret ?_;intro st f3;have S3:=Same.upd (o:=.dK []) f3;have e3:upd H2 st (.dK []) st=some (.dK []):=upd_same;have T3:=T2.trans S3;replace e0:=S3 _ _ e0;replace e1:=S3 _ _ e1;replace e2:=S3 _ _ e2;have z3:=T2.free f3;generalize upd H2 st _=H3 at *;walk;intro dn f4;have S4:=Same.upd (o:=.dK []) f4;have e4:upd H3 dn (.dK []) dn=some (.dK []):=upd_same;have T4:=T3.trans S4
 have n34:st≠dn:=ne_of_none e3 f4;replace e0:=S4 _ _ e0;replace e1:=S4 _ _ e1;replace e2:=S4 _ _ e2;replace e3:=S4 _ _ e3;have z4:=T3.free f4;generalize upd H3 dn _=H4 at *;clear T2 T3 S3 S4 f3 f4;walk;refine⟨e4,[(Sum.inl 0,.ref l0)],rfl,by show 1<=15;decide,?_⟩;have B5:∀b o,H4 b=some o->b≠dn->upd H4 dn (.dK (mergeK [] [((Sum.inl 0:Key),V.ref l0)])) b=some o:=fun b o z n=>by rw[upd_ne n];exact z
 have e5:upd H4 dn (.dK (mergeK [] [((Sum.inl 0:Key),V.ref l0)])) dn=some (.dK (pK [l0] V.ref)):=upd_same;have T5:Same H (upd H4 dn (.dK (mergeK [] [((Sum.inl 0:Key),V.ref l0)]))):=fun b o z=>B5 b o (T4 _ _ z) (ne_of_none z z4);have nd0:k0≠dn:=ne_of e0 e4 (fun z=>nomatch z);have nd1:g0≠dn:=ne_of e1 e4 (fun z=>nomatch z);have nd2:l0≠dn:=ne_of e2 e4 (fun z=>nomatch z);replace e0:=B5 _ _ e0 nd0
 replace e1:=B5 _ _ e1 nd1;replace e2:=B5 _ _ e2 nd2;replace e3:=B5 _ _ e3 n34;generalize upd H4 dn _=H5 at *;clear e4 B5 T4;walk;refine⟨sz,fun lu f6=>?_⟩;have S6:=Same.upd (o:=.lst [.int 0]) f6;have e6:upd H5 lu (.lst [.int 0]) lu=some (.lst (([0]:List Int).map V.int)):=upd_same;have T6:=T5.trans S6;have z6:=T5.free f6;have m60:=ne_of_none e0 f6;have m61:=ne_of_none e1 f6
 have m62:=ne_of_none e2 f6;have m63:=ne_of_none e3 f6;have m65:=ne_of_none e5 f6;replace e0:=S6 _ _ e0;replace e1:=S6 _ _ e1;replace e2:=S6 _ _ e2;replace e3:=S6 _ _ e3;replace e5:=S6 _ _ e5;generalize upd H5 lu _=H6 at *;walk;refine⟨sz,fun lk f7=>?_⟩;have S7:=Same.upd (o:=.lst []) f7;have e7:upd H6 lk (.lst []) lk=some (.lst (([]:List Addr).map V.ref)):=upd_same;have T7:=T6.trans S7
 have z7:=T6.free f7;have m70:=ne_of_none e0 f7;have m71:=ne_of_none e1 f7;have m72:=ne_of_none e2 f7;have m73:=ne_of_none e3 f7;have m75:=ne_of_none e5 f7;have m76:=ne_of_none e6 f7;replace e0:=S7 _ _ e0;replace e1:=S7 _ _ e1;replace e2:=S7 _ _ e2;replace e3:=S7 _ _ e3;replace e5:=S7 _ _ e5;replace e6:=S7 _ _ e6;generalize upd H6 lk _=H7 at *;walk;refine⟨sz,fun lf f8=>?_⟩
 have S8:=Same.upd (o:=.lst []) f8;have e8:upd H7 lf (.lst []) lf=some (.lst (([]:List Int).map V.int)):=upd_same;have T8:=T7.trans S8;have z8:=T7.free f8;have m80:=ne_of_none e0 f8;have m81:=ne_of_none e1 f8;have m82:=ne_of_none e2 f8;have m83:=ne_of_none e3 f8;have m85:=ne_of_none e5 f8;have m86:=ne_of_none e6 f8;have m87:=ne_of_none e7 f8;replace e0:=S8 _ _ e0;replace e1:=S8 _ _ e1
 replace e2:=S8 _ _ e2;replace e3:=S8 _ _ e3;replace e5:=S8 _ _ e5;replace e6:=S8 _ _ e6;replace e7:=S8 _ _ e7;generalize upd H7 lf _=H8 at *;walk;refine⟨sz,fun lc f9=>?_⟩;have S9:=Same.upd (o:=.lst []) f9;have e9:upd H8 lc (.lst []) lc=some (.lst (([]:List Addr).map V.ref)):=upd_same;have T9:=T8.trans S9;have z9:=T8.free f9;have m90:=ne_of_none e0 f9;have m91:=ne_of_none e1 f9
 have m92:=ne_of_none e2 f9;have m93:=ne_of_none e3 f9;have m95:=ne_of_none e5 f9;have m96:=ne_of_none e6 f9;have m97:=ne_of_none e7 f9;have m98:=ne_of_none e8 f9;replace e0:=S9 _ _ e0;replace e1:=S9 _ _ e1;replace e2:=S9 _ _ e2;replace e3:=S9 _ _ e3;replace e5:=S9 _ _ e5;replace e6:=S9 _ _ e6;replace e7:=S9 _ _ e7;replace e8:=S9 _ _ e8;generalize upd H8 lc _=H9 at *;walk
 refine⟨e3,stK most 0 dn lu lk lf lc 0,rfl,by show 8<=15;decide,?_⟩;rw[merge_nil st_nd];have d30:k0≠st:=ne_of e0 e3 (fun z=>nomatch z);have d31:g0≠st:=ne_of e1 e3 (fun z=>nomatch z);have d32:l0≠st:=ne_of e2 e3 (fun z=>nomatch z);have U:∀{b:Addr} {o:HO},H9 b=some o->b≠st->upd H9 st (.dK (stK most 0 dn lu lk lf lc 0)) b=some o:=fun z n=>by rw[upd_ne n];exact z
 refine k (rsL [dn,l0,k0,g0] (upd H9 st (.dK (stK most 0 dn lu lk lf lc 0)))) (rsL [st,lu,lk,lf,lc] (upd H9 st (.dK (stK most 0 dn lu lk lf lc 0)))) st dn [l0] ⟨lu,lk,lf,lc,[],[]⟩ _ (fun b o z=>U (T9 _ _ z) (ne_of_none z z3)) ⟨?_,rfl,?_,by simp⟩ ⟨?_,?_,?_,?_,?_,⟨rfl,fun j t x z=>(by cases z)⟩,⟨rfl,fun j t x z=>(by cases z)⟩,?_,.refl _,by simp,.refl _,.nil⟩ ?_ rsL_same rsL_same ?_ ?_
 ·rw[rsL_at (by simp)];exact U e5 (Ne.symm n34)
 ·intro j p n a b;cases j with
  | succ j=>cases a
  | zero=>
   cases Option.some.inj a;cases Option.some.inj b;refine⟨k0,g0,?_,?_,?_⟩
   ·rw[rsL_at (by simp)];exact U e2 d32
   ·rw[rsL_at (by simp)];exact U e0 d30
   ·rw[rsL_at (by simp)];exact U e1 d31
 ·rw[rsL_at (by simp)];exact upd_same
 ·rw[rsL_at (by simp)];exact U e6 (Ne.symm m63)
 ·rw[rsL_at (by simp)];exact U e7 (Ne.symm m73)
 ·rw[rsL_at (by simp)];exact U e8 (Ne.symm m83)
 ·rw[rsL_at (by simp)];exact U e9 (Ne.symm m93)
 ·simp[m76,m86,m87,m96,m97,m98]
 ·intro b;by_cases c:b∈[dn,l0,k0,g0]
  ·right
   cases q:rsL [st,lu,lk,lf,lc] (upd H9 st (.dK (stK most 0 dn lu lk lf lc 0))) b with
   | none=>rfl
   | some o=>
    have i2:=rsL_in (by rw[q];exact fun z=>nomatch z)
    exfalso
    simp only[List.mem_cons,List.not_mem_nil,or_false] at c i2;rcases c with rfl|rfl|rfl|rfl<;>rcases i2 with e|e|e|e|e
    ·exact n34 e.symm
    ·exact m65 e
    ·exact m75 e
    ·exact m85 e
    ·exact m95 e
    ·exact d32 e
    ·exact m62 e
    ·exact m72 e
    ·exact m82 e
    ·exact m92 e
    ·exact d30 e
    ·exact m60 e
    ·exact m70 e
    ·exact m80 e
    ·exact m90 e
    ·exact d31 e
    ·exact m61 e
    ·exact m71 e
    ·exact m81 e
    ·exact m91 e
  ·left
   unfold rsL;rw[if_neg c]
 ·intro b;by_cases c:b∈[dn,l0,k0,g0]
  ·right
   simp only[List.mem_cons,List.not_mem_nil,or_false] at c;rcases c with rfl|rfl|rfl|rfl<;>assumption
  ·left
   unfold rsL;rw[if_neg c]
 ·intro b;by_cases c:b∈[st,lu,lk,lf,lc]
  ·right
   simp only[List.mem_cons,List.not_mem_nil,or_false] at c;rcases c with rfl|rfl|rfl|rfl|rfl<;>assumption
  ·left
   unfold rsL;rw[if_neg c]
theorem upd_comm {H:Hp}{a b o o'}(n:a≠b):upd (upd H a o) b o'=upd (upd H b o') a o:=by
 funext c
 unfold upd;by_cases h1:c=b
 ·rw[if_pos h1,if_neg (fun z=>n (z.symm.trans h1)),if_pos h1]
 ·rw[if_neg h1];by_cases h2:c=a
  ·rw[if_pos h2,if_pos h2]
  ·rw[if_neg h2,if_neg h2,if_neg h1]
def IsL (g:Hp)(st:Addr)(M:MS):Prop:=∃(gN gS:Hp) (dn:Addr) (nd:List Addr) (a:LA) (us fs:List Int) (tp:Int),g=uH gN gS/\Dis gN gS/\IsLN gN dn nd M.ns/\IsLS a gS st dn M.most tp M.R us fs/\M.top=some tp
inductive spFreed (vs:List V)(H:Hp)(Q:VK)(E:XK):Prop
 | mk (g:Hp)(st:Addr)(M:MS)(j:Nat)(n:ND):vs=[.ref st,.int j]->IsL g st M->Same g H->M.ns[j]?=some n->(∀g' H',IsL g' st { M with ns:=M.ns.set j { n with ver:=n.ver+(if n.wr then 1 else 0),ho:=none,wr:=false } }->Chg g g' H H'->Q .non H')->spFreed vs H Q E
theorem ok_freed:Ok F F.r.d__law_freed 1 spFreed:=by
 refine F.r.d__law_freed.go fun sc H Q hr h=>?_;obtain⟨g,st,M,j,n,rfl,⟨gN,gS,dn,nd,a,us,fs,tp,rfl,ds,tn,ts,htp⟩,s,hn,k⟩:=h;have sN:Same gN H:=uH_sl.trans s;have sS:Same gS H:=(uH_sr ds).trans s;have hs:=sS _ _ ts.s;obtain⟨p,hp⟩:=nth tn.l hn;obtain⟨k0,g0,e0,e1,e2⟩:=tn.e j p n hp hn;have h0:=sN _ _ e0
 refine'⟨_,(pss_cons (ps_v sc 2 (pe_dget (hu_of hr) (pe_gs hr (pv 0)) (pv 1) (fun _ _=>rfl)))
  (pss_cons (ps_asg (pe_op op_add (pix ix_list (pv 2) pe_int) (pe_callTy call_int1 rfl F.r.T.n_int bt_int (pa1 (pix ix_list (pv 2) pe_int)))) (pg_sub (pv 2) pe_int set_list))
  (pss_cons (ps_asg pe_non (pg_sub (pv 2) pe_int set_list))
  (pss_one (ps_asg pe_bl (pg_sub (pv 2) pe_int set_list)))))),?_⟩
 walk;refine k_dgetK (k:=Sum.inl (j:Int)) (sN _ _ tn.d) (pK_val hp) ?_;walk;refine .inr ⟨_,rfl,?_⟩;walk;rw[upd_upd,upd_upd];have c:=Chg.mut (o:=.lst (lN { n with ver:=n.ver+(if n.wr then 1 else 0),ho:=none,wr:=false } k0 g0)) sN e0;exact k _ _ ⟨_,gS,dn,nd,a,us,fs,tp,rfl,c.dis ds sS,tn.set hp hn e1 e2,ts,htp⟩ (c.uL ds sS)
inductive spLeft (vs:List V)(H:Hp)(Q:VK)(E:XK):Prop
 | mk (g:Hp)(st:Addr)(M:MS)(w0:Int):vs=[.ref st,.int w0]->IsL g st M->Same g H->M.R.places.length<60->M.R.cs.length<=500->(∀g' H',IsL g' st { M with R:=(M.R.left w0).rel }->Chg g g' H H'->Q .non H')->spLeft vs H Q E
def notV (H:Hp)(w0:Int)(v:V):Bool:=match v with|.ref t=>(match H t with|some (.tup (.int z::_))=>!decide (V.int z=V.int w0)|_=>false)|_=>false
theorem filt_tups {H:Hp}{w0:Int}:∀{ts:List Addr} {ps:List (Int×Int)},Tups H ts ps->∃ts',(ts.map V.ref).filter (notV H w0)=ts'.map V.ref/\Tups H ts' (ps.filter fun c=>decide (c.1≠w0))/\∀t∈ts',t∈ts
 | [],[],_=>⟨[],rfl,⟨rfl,fun j t x z=>(by cases z)⟩,fun _ z=>nomatch z⟩
 | [],_::_,h=>absurd h.1 (by simp)
 | _::_,[],h=>absurd h.1 (by simp)
 | t::ts,x::ps,h=>by
  have h1:Tups H ts ps:=⟨by have:=h.1;simpa using this,fun j t' x' a b=>h.2 (j+1) t' x' a b⟩;obtain⟨ts',e,tt,sub⟩:=filt_tups (w0:=w0) h1;have et:=h.2 0 t x rfl rfl;have en:notV H w0 (.ref t) = !decide (V.int x.1=V.int w0):=by unfold notV;dsimp only;rw[et]
  by_cases c:x.1=w0
  ·refine⟨ts',?_,?_,fun u hu=>List.mem_cons_of_mem _ (sub u hu)⟩
   ·rw[List.map_cons,List.filter_cons_of_neg (by rw[en,c];simp),e]
   ·rw[List.filter_cons_of_neg (by simpa using c)];exact tt
  ·refine⟨t::ts',?_,?_,fun u hu=>?_⟩
   ·rw[List.map_cons,List.filter_cons_of_pos (by rw[en];simpa using c),e];rfl
   ·rw[List.filter_cons_of_pos (by simpa using c)];refine⟨by rw[List.length_cons,List.length_cons,tt.1],fun j t' x' a b=>?_⟩;cases j with
    | zero=>cases Option.some.inj a;cases Option.some.inj b;exact et
    | succ j=>exact tt.2 j t' x' a b
   ·rcases List.mem_cons.mp hu with rfl|hu
    ·exact List.mem_cons_self ..
    ·exact List.mem_cons_of_mem _ (sub u hu)
theorem ok_left:Ok F F.r.d__law_left 2 spLeft:=by
 refine F.r.d__law_left.go fun sc H Q hr h=>?_;obtain⟨g,st,M,w0,rfl,⟨gN,gS,dn,nd,a,us,fs,tp,rfl,ds,tn,ts,htp⟩,s,few,fewc,k⟩:=h;have sN:Same gN H:=uH_sl.trans s;have sS:Same gS H:=(uH_sr ds).trans s;have hs:=sS _ _ ts.s;have tcH:Tups H a.tc M.R.cs:=ts.tc.keep fun b xs z=>sS _ _ z;have lf:=ts.pf.length_eq
 have lp:M.R.fs.length+M.R.ks.length<=M.R.places.length:=by unfold RS.places;simp only[List.length_append,List.length_map];omega
 refine'⟨_,(pss_cons (ps_dput (hu_of hr) (pv 0) pe_str (pe_comp (blk_mk ["_law_number"] [1]) rfl (pi_list (pe_gs hr (pv 0))) (fun _ _ _ _ _=>(PTs.one (pc op_ne (pix (ix_seqK (K:=K) rfl) (pv 0) pe_int) (pv 1)))) (fun _ _ _ _ _=>(pv 0))) rfl)
  (pss_one (ps_expr (pe_d (ok_lf F) hr (pa1 (pv 0)))))),?_⟩
 walk;have row:RowAt false H a.lc (a.tc.map V.ref):=sS _ _ ts.c;refine comp_f (J:=ItB K false a.lc) (H1:=H) (a.tc.map V.ref) (notV H w0) (fun y=>y) (fun R' z=>?_) (it_row row) ?_ ?_ (by rw[List.length_map,ts.tc.1];omega) ?_
 ·walk;exact z
 ·intro y hy H4 R' S4 z;obtain⟨x,hx,rfl⟩:=List.mem_map.mp hy;obtain⟨c,hc,ec⟩:=tcH.mem hx;have en:notV H w0 (.ref x) = !decide (V.int c.1=V.int w0):=by unfold notV;dsimp only;rw[ec]
  rw[en] at z;have ec4:=S4 _ _ ec;exact⟨_,rfl,.inr (.inl (q_ixT ec4 rfl ⟨_,rfl,rfl,_,rfl,z H4 (Same.refl _)⟩))⟩
 ·exact fun y hy _ H4 R' S4 z=>⟨_,rfl,z H4 (Same.refl _)⟩
 intro l H1 fl S1 el;rw[List.map_id'] at el;obtain⟨tc',etc,tt,sub⟩:=filt_tups (w0:=w0) tcH;rw[etc] at el;have flg:=sS.free fl
 have ttg:Tups gS tc' (M.R.cs.filter fun c=>decide (c.1≠w0)):=by
  refine⟨tt.1,fun j x q b1 b2=>?_⟩;have e1:=tt.2 j x q b1 b2;obtain⟨i,hi,e⟩:=List.getElem_of_mem (sub x (List.mem_of_getElem? b1));have hi':i<M.R.cs.length:=by rw[<- ts.tc.1];exact hi
  have e2:=ts.tc.2 i x M.R.cs[i] (by rw[List.getElem?_eq_getElem hi,e]) (List.getElem?_eq_getElem hi');have e3:=sS _ _ e2;rw[e1] at e3;rw[e2,e3]
 have c1:Chg gS (upd gS l (.lst (tc'.map V.ref))) H H1:=.addS sS S1 fl el;have t1:=ts.same (Same.upd (o:=.lst (tc'.map V.ref)) flg);obtain⟨q1,q2,q3,q4,q5⟩:=ts.fresh flg;have t2:=t1.newC (l:=l) (tc:=tc') (cs:=M.R.cs.filter fun c=>decide (c.1≠w0)) upd_same (by simp[q1,q2,q3]) (ttg.keep fun b xs z=>un_f flg z);have c2:=c1.trans (.mut (o:=.dK (stK M.most tp dn a.lu a.lk a.lf l M.R.lap)) c1.sm t1.s)
 generalize upd (upd gS l _) st _=g2 at *;walk;refine k_dputS (S1 _ _ hs) st_lt sp_going ?_;walk;refine⟨_,g2,st,dn,_,_,_,us,fs,rfl,t2,c2.sm,by rw[lf];show M.R.fs.length+M.R.ks.length<60;omega,Nat.le_trans (List.length_filter_le _ _) fewc,fun a' g' fs' H' t3 c3=>?_⟩;walk;have c:=c2.trans c3;exact k _ _ ⟨gN,g',dn,nd,a',us,fs',tp,rfl,(c.dis ds.symm sN).symm,tn,t3,htp⟩ (c.uR ds sN)
inductive spLGone (vs:List V)(H:Hp)(Q:VK)(E:XK):Prop
 | mk (g:Hp)(st:Addr)(M:MS)(j:Nat)(n:ND):vs=[.ref st,.int j]->IsL g st M->Same g H->M.ns[j]?=some n->M.R.Ok->(j:Int)∈M.R.us->M.R.places.length<59->M.R.cs.length<=500->(∀g' H',IsL g' st { M with ns:=M.ns.set j { n with ver:=n.ver+1,ho:=none,gone:=true,wr:=false },R:=(M.R.gone j).rel }->Chg g g' H H'->Q .non H')->spLGone vs H Q E
theorem ok_lgone:Ok F F.r.d__law_gone 2 spLGone:=by
 refine F.r.d__law_gone.go fun sc H Q hr h=>?_;obtain⟨g,st,M,j,n,rfl,⟨gN,gS,dn,nd,a,us,fs,tp,rfl,ds,tn,ts,htp⟩,s,hn,ok,hu,few,fewc,k⟩:=h;have big:=big1000;have sN:Same gN H:=uH_sl.trans s;have sS:Same gS H:=(uH_sr ds).trans s;have hs:=sS _ _ ts.s;have lf:=ts.pf.length_eq;have lu:=ts.pu.length_eq
 have lp:M.R.us.length+M.R.ks.length+M.R.fs.length=M.R.places.length:=by unfold RS.places;simp only[List.length_append,List.length_map]
 obtain⟨p,hp⟩:=nth tn.l hn;obtain⟨k0,g0,e0,e1,e2⟩:=tn.e j p n hp hn;have h0:=sN _ _ e0
 refine'⟨_,(pss_cons (ps_v sc 2 (pe_dget (hu_of hr) (pe_gs hr (pv 0)) (pv 1) (fun _ _=>rfl)))
  (pss_cons (ps_asg (pe_op op_add (pix ix_list (pv 2) pe_int) pe_int) (pg_sub (pv 2) pe_int set_list))
  (pss_cons (ps_asg pe_non (pg_sub (pv 2) pe_int set_list))
  (pss_cons (ps_asg pe_bl (pg_sub (pv 2) pe_int set_list))
  (pss_cons (ps_asg pe_bl (pg_sub (pv 2) pe_int set_list))
  (pss_cons (ps_dput (hu_of hr) (pv 0) pe_str (pe_comp (blk_mk ["_law_place_here"] [1]) rfl (pi_list (pe_gs hr (pv 0))) (fun _ _ _ _ _=>(PTs.one (pc op_ne (pv 0) (pv 1)))) (fun _ _ _ _ _=>(pv 0))) rfl)
  (pss_cons (ps_expr (pe_bm PySem.F.plainAttrs_list PySem.F.slot_list_append PySem.F.type_list_append mt_append (pe_gs hr (pv 0)) (pa1 (pe_tup (pa2 (pv 1) (pe_gs hr (pv 0)))))))
  (pss_cons (ps_dput (hu_of hr) (pv 0) pe_str (pe_op op_add (pe_gs hr (pv 0)) pe_int) rfl)
  (pss_one (ps_expr (pe_d (ok_lf F) hr (pa1 (pv 0))))))))))))),?_⟩
 have nps:st≠p:=ne_of hs h0 (fun z=>nomatch z);walk;refine k_dgetK (k:=Sum.inl (j:Int)) (sN _ _ tn.d) (pK_val hp) ?_;walk;have c:=Chg.mut (o:=.lst (lN { n with ver:=n.ver+1,ho:=none,gone:=true,wr:=false } k0 g0)) sN e0;have sS1:=c.keep ds sS;have ds1:=c.dis ds sS;have tn1:=tn.set (n':={ n with ver:=n.ver+1,ho:=none,gone:=true,wr:=false }) hp hn e1 e2;have cu:=c.uL ds sS;rw[upd_upd,upd_upd,upd_upd]
 change tComp _ _ _ _ _ (upd H p (.lst (lN { n with ver:=n.ver+1,ho:=none,gone:=true,wr:=false } k0 g0))) _;generalize upd H p _=H1 at *;generalize upd gN p _=gN1 at *;have hs1:=sS1 _ _ ts.s;clear hs h0 sS ds c sN s;have row:RowAt false H1 a.lu (us.map V.int):=sS1 _ _ ts.u
 refine comp_f (J:=ItB K false a.lu) (H1:=H1) (us.map V.int) (fun v=>!decide (v=V.int j)) (fun y=>y) (fun R' z=>?_) (it_row row) ?_ ?_ (by rw[List.length_map,lu];omega) ?_
 ·walk;exact z
 ·intro y hy H4 R' S4 z;obtain⟨x,hx,rfl⟩:=List.mem_map.mp hy;exact⟨_,rfl,_,rfl,rfl,_,rfl,z H4 (Same.refl _)⟩
 ·exact fun y hy _ H4 R' S4 z=>⟨_,rfl,z H4 (Same.refl _)⟩
 intro l H2 fl S2 el
 have ef:((us.map V.int).filter fun v=>!decide (v=V.int j)).map (fun y=>y)=(us.filter fun n=>decide (n≠(j:Int))).map V.int:=by
  rw[List.map_id',List.filter_map];congr 1;refine List.filter_congr fun x _=>?_;show (!decide (V.int x=V.int j))=_;by_cases c:x=(j:Int)
  ·rw[decide_eq_true (congrArg V.int c),decide_eq_false (fun z=>z c)];rfl
  ·rw[decide_eq_false (fun z=>c (V.int.inj z)),decide_eq_true c];rfl
 rw[ef] at el;have flg:=sS1.free fl;have c1:Chg gS (upd gS l (.lst ((us.filter fun n=>decide (n≠(j:Int))).map V.int))) H1 H2:=.addS sS1 S2 fl el;have t1:=ts.newU flg (ts.pu.filter fun n=>decide (n≠(j:Int))) (ts.su.sublist List.filter_sublist);have c2:=c1.trans (.mut (o:=.dK (stK M.most tp dn l a.lk a.lf a.lc M.R.lap)) c1.sm (un_f flg ts.s));generalize upd (upd gS l _) st _=g2 at *;walk
 refine k_dputS (S2 _ _ hs1) st_lt sp_used ?_;have hs2:=c2.sm _ _ t1.s;have hk2:=c2.sm _ _ t1.k;generalize upd H2 st _=H3 at *;clear hs1 c1 S2 fl el;walk;refine⟨sz,fun x fx=>?_⟩;have S4:=Same.upd (o:=.tup [.int (j:Int),.int M.R.lap]) fx;have ex:upd H3 x (.tup [.int (j:Int),.int M.R.lap]) x=some (.tup [.int (j:Int),.int M.R.lap]):=upd_same;have fxg:=c2.sm.free fx
 have c3:=c2.trans (.addS c2.sm S4 fx ex);have t2:=(t1.same (Same.upd (o:=.tup [.int (j:Int),.int M.R.lap]) fxg)).appK (x:=x) (q:=((j:Int),M.R.lap)) upd_same;have c4:=c3.trans (.mut (o:=.lst (a.tk.map V.ref++[.ref x])) c3.sm (un_f fxg t1.k));generalize upd (upd g2 x _) a.lk _=g4 at *;generalize upd H3 x _=H4 at *;walk;refine q_append (S4 _ _ hk2) (by rw[List.length_map,ts.tk.1];omega) ?_
 have hs4:=c4.sm _ _ t2.s;generalize upd H4 a.lk _=H5 at *;clear hs2 hk2;walk;refine k_dputS hs4 st_lt sp_lap ?_;have t3:=t2.setLap (M.R.lap+1);have c5:=c4.trans (.mut (o:=.dK (stK M.most tp dn l a.lk a.lf a.lc (M.R.lap+1))) c4.sm t2.s);generalize upd H5 st _=H6 at *;generalize upd g4 st _=g5 at *;walk
 refine⟨_,g5,st,dn,_,_,_,_,fs,rfl,t3,c5.sm,by rw[lf];show M.R.fs.length+(M.R.ks++[((j:Int),M.R.lap)]).length<60;rw[List.length_append];show _+(_+1)<60;omega,fewc,fun a' g' fs' H' t4 c6=>?_⟩;walk;have c7:=c5.trans c6;have sN1:=cu.sm;have sN2:Same gN1 H1:=uH_sl.trans cu.sm;exact k _ _ ⟨gN1,g',dn,nd,a',_,fs',tp,rfl,(c7.dis ds1.symm sN2).symm,tn1,t4,htp⟩ (cu.trans (c7.uR ds1 sN2))
inductive spWritten (vs:List V)(H:Hp)(Q:VK)(E:XK):Prop
 | mk (g:Hp)(st:Addr)(M:MS)(j:Nat)(n:ND)(tt lk lg et:Addr)(ks gs:List Int)(hi rt:Option Int):vs=[.ref st,.int j,.ref tt,.ref et]->IsL g st M->Same g H->M.ns[j]?=some n->Cont H tt lk lg n.lv ks gs->H et=some (.tup [oV hi,oV rt])->g lk=none->g lg=none->(∀g' H',IsL g' st { M with ns:=M.ns.set j { n with ks:=ks,gs:=gs,hi:=hi,rt:=rt,wr:=true } }->Chg g g' H H'->Q .non H')->spWritten vs H Q E
theorem ok_written:Ok F F.r.d__law_written 1 spWritten:=by
 refine F.r.d__law_written.go fun sc H Q hr h=>?_;obtain⟨g,st,M,j,n,tt,lk,lg,et,ks,gs,hi,rt,rfl,⟨gN,gS,dn,nd,a,us,fs,tp,rfl,ds,tn,ts,htp⟩,s,hn,ct,he,nk,ng,k⟩:=h;have sN:Same gN H:=uH_sl.trans s;have sS:Same gS H:=(uH_sr ds).trans s;have hs:=sS _ _ ts.s;obtain⟨p,hp⟩:=nth tn.l hn;obtain⟨k0,g0,e0,e1,e2⟩:=tn.e j p n hp hn;have h0:=sN _ _ e0;obtain⟨c1,c2,c3,ok,og⟩:=ct
 have q1:tt≠p:=ne_of c1 h0 (fun z=>nomatch z);have q2:lk≠p:=fun z=>by rw[<- z,(uH_none.mp nk).1] at e0;cases e0
 have q3:lg≠p:=fun z=>by rw[<- z,(uH_none.mp ng).1] at e0;cases e0
 have q4:et≠p:=ne_of he h0 (fun z=>nomatch z)
 refine'⟨_,(pss_cons (ps_v sc 4 (pe_dget (hu_of hr) (pe_gs hr (pv 0)) (pv 1) (fun _ _=>rfl)))
  (pss_cons (ps_asg (pe_callTy call_list_of rfl F.r.T.n_list bt_list (pa1 (pix ix_tup (pv 2) pe_int))) (pg_sub (pv 4) pe_int set_list))
  (pss_cons (ps_asg (pe_callTy call_list_of rfl F.r.T.n_list bt_list (pa1 (pix ix_tup (pv 2) pe_int))) (pg_sub (pv 4) pe_int set_list))
  (pss_cons (ps_asg (pix ix_tup (pv 3) pe_int) (pg_sub (pv 4) pe_int set_list))
  (pss_cons (ps_asg (pix ix_tup (pv 3) pe_int) (pg_sub (pv 4) pe_int set_list))
  (pss_one (ps_asg pe_bl (pg_sub (pv 4) pe_int set_list)))))))),?_⟩
 walk;refine k_dgetK (k:=Sum.inl (j:Int)) (sN _ _ tn.d) (pK_val hp) ?_;walk;refine⟨lk,_,rfl,.inl (SqL.of c2),fun l1 f1=>?_⟩;have n1:p≠l1:=ne_of_none h0 f1;have h1:=un_f (o:=.lst (ks.map V.int)) f1 h0;walk;have up:∀{b:Addr} {o x:HO},H b=some o->b≠p->upd (upd H l1 (.lst (ks.map V.int))) p x b=some o:=fun z n=>by rw[upd_ne n];exact un_f f1 z
 have d1:=up (x:=.lst ((lN n k0 g0).set (Int.toNat 1) (.ref l1))) c1 q1;refine q_ixT d1 rfl ?_;walk;refine⟨lg,_,rfl,.inl (SqL.of (up c3 q3)),fun l2 f2=>?_⟩;have n2:p≠l2:=ne_of_none upd_same f2;have f2':=f2;rw[upd_ne (Ne.symm n2)] at f2';have n21:l1≠l2:=ne_of_none upd_same f2';rw[upd_ne (Ne.symm n21)] at f2'
 have d3:∀{x:HO},upd (upd (upd (upd H l1 (.lst (ks.map V.int))) p (.lst ((lN n k0 g0).set (Int.toNat 1) (.ref l1)))) l2 (.lst (gs.map V.int))) p x et=some (.tup [oV hi,oV rt]):=fun {x}=>by rw[upd_ne q4];exact un_f f2 (up he q4)
 walk;refine q_ixT d3 rfl ?_;walk;refine q_ixT (by rw[upd_upd];exact d3) rfl ?_;walk;rw[upd_upd,upd_upd,upd_upd,upd_comm n2,upd_upd];have f1g:=sN.free f1;have f2g:=sN.free f2';have a1:Chg gN (upd gN l1 (.lst (ks.map V.int))) H (upd H l1 (.lst (ks.map V.int))):=.add sN f1;have a2:=a1.trans (.add (l:=l2) (o:=.lst (gs.map V.int)) a1.sm (by rw[upd_ne (Ne.symm n21)];exact f2'))
 have S2:Same gN (upd (upd gN l1 (.lst (ks.map V.int))) l2 (.lst (gs.map V.int))):=(Same.upd f1g).trans (Same.upd (by rw[upd_ne (Ne.symm n21)];exact f2g));have tn1:=(tn.same S2).set (n':={ n with ks:=ks,gs:=gs,hi:=hi,rt:=rt,wr:=true }) (k:=l1) (gg:=l2) hp hn (by rw[upd_ne n21,upd_same]) upd_same
 have a3:=a2.trans (.mut (o:=.lst (lN { n with ks:=ks,gs:=gs,hi:=hi,rt:=rt,wr:=true } l1 l2)) a2.sm (S2 _ _ e0));exact k _ _ ⟨_,gS,dn,nd,a,us,fs,tp,rfl,a3.dis ds sS,tn1,ts,htp⟩ (a3.uL ds sS)
inductive spLMade (vs:List V)(H:Hp)(Q:VK)(E:XK):Prop
 | mk (g:Hp)(st:Addr)(M:MS)(lv:Int)(tt lk lg et:Addr)(ks gs:List Int)(hi rt:Option Int):vs=[.ref st,.int lv,.ref tt,.ref et]->IsL g st M->Same g H->M.R.Ok->M.R.places.length=M.ns.length->M.ns.length<55->Cont H tt lk lg lv ks gs->H et=some (.tup [oV hi,oV rt])->(∀b∈[tt,lk,lg,et],g b=none)->(∀j g' H',Given M j->IsL g' st (M.made j lv ks gs hi rt)->Chg g g' H H'->Q (.int j) H')->spLMade vs H Q E
theorem ok_lmade:Ok F F.r.d__law_made 2 spLMade:=by
 refine F.r.d__law_made.go fun sc H Q hr h=>?_;obtain⟨g,st,M,lv,tt,lk,lg,et,ks,gs,hi,rt,rfl,⟨gN,gS,dn,nd,a,us,fs,tp,rfl,ds,tn,ts,htp⟩,s,ok,ln,few,ct,he,no,k⟩:=h;have big:=big1000;have sN:Same gN H:=uH_sl.trans s;have sS:Same gS H:=(uH_sr ds).trans s;have hs:=sS _ _ ts.s;have lf:=ts.pf.length_eq;have lu:=ts.pu.length_eq
 have lp:M.R.us.length+M.R.ks.length+M.R.fs.length=M.R.places.length:=by unfold RS.places;simp only[List.length_append,List.length_map]
 obtain⟨t1,t2,t3,okk,og⟩:=ct
 refine'⟨_,(pss_cons (ps_v sc 4 (pe_d (ok_given_l F) hr (pa1 (pv 0))))
  (pss_cons (ps_v sc 5 pe_int)
  (pss_cons (ps_if (pt_cmpR (op_inD (hu_of hr)) (pv 4) (pe_gs hr (pv 0)) (by with_unfolding_all rfl))
   (pss_one (ps_v sc 5 (pix ix_list (pe_dget (hu_of hr) (pe_gs hr (pv 0)) (pv 4) (fun _ _=>rfl)) pe_int)))
   pss_nil)
  (pss_cons (ps_asg (pv 2) (pg_tup rfl (pgs_cons (pg_v sc 6) (pgs_cons (pg_v sc 7) pgs_nil))))
  (pss_cons (ps_dput (hu_of hr) (pe_gs hr (pv 0)) (pv 4) (pe_lst (pa_c (pv 1) (pa_c (pe_callTy call_list_of rfl F.r.T.n_list bt_list (pa1 (pv 6))) (pa_c (pe_callTy call_list_of rfl F.r.T.n_list bt_list (pa1 (pv 7))) (pa_c (pix ix_tup (pv 3) pe_int) (pa_c (pix ix_tup (pv 3) pe_int) (pa_c (pv 5) (pa_c pe_non (pa_c pe_bl (pa_c pe_bl pa_nil)))))))))) rfl)
  (pss_one (ps_ret (pv 4)))))))),?_⟩
 walk;refine⟨a,gS,st,dn,M.most,tp,M.R,us,fs,_,rfl,ts,sS,sN _ _ tn.d,ok,by omega,by omega,fun p a' gS' us' fs' H1 gp ts1 c1=>?_⟩;rw[pK_len,tn.l] at gp
 obtain⟨j,rfl,gj,jle⟩:∃j:Nat,p=j/\Given M j/\j<=M.ns.length:=by
  rcases gp with⟨e1,e2⟩|⟨e1,e2⟩
  ·have e3:M.R.fs=[]:=by rw[e1] at lf;exact List.length_eq_zero_iff.mp lf.symm
   exact⟨M.ns.length,e2,.inl ⟨e3,rfl⟩,Nat.le_refl _⟩
  ·have m:=ts.pf.mem_iff.mp e1;have rg:=ok.rg p (by unfold RS.places;exact List.mem_append_right _ m);exact⟨p.toNat,by omega,.inr ⟨by rw[show ((p.toNat:Nat):Int)=p by omega];exact m,fun n hn=>by rw[show ((p.toNat:Nat):Int)=p by omega];exact e2 n (ts.pf.mem_iff.mpr hn)⟩,by omega⟩
 have sN1:=c1.keep ds.symm sN;have ds1:=(c1.dis ds.symm sN).symm;have sS1:=c1.sm;have cu:=c1.uR ds sN;have keep:∀{b:Addr} {o:HO},b∈[tt,lk,lg,et]->H b=some o->H1 b=some o:=fun m e=>c1.fr _ _ e (uH_none.mp (no _ m)).2;replace t1:=keep (by simp) t1;replace t2:=keep (by simp) t2;replace t3:=keep (by simp) t3;replace he:=keep (by simp) he;have hs1:=sS1 _ _ ts1.s;have hd1:=sN1 _ _ tn.d
 clear hs keep c1 ts;walk_at "o";refine s_seqG fun _ _=>s_set (r_c ?_);walk_at "o";refine s_join (fun σ2 H2=>σ2=[some (.ref st),some (.int lv),some (.ref tt),some (.ref et),some (.int j),some (.int ((M.ns[j]?.map (·.ver)).getD 0)),none,none]/\H1=H2) (fun N z=>?_) ?_
 ·walk;refine⟨dn,_,rfl,DGet.k (k:=Sum.inl (j:Int)) hd1,?_⟩;walk;by_cases jl:j<M.ns.length
  ·have hn:=List.getElem?_eq_getElem jl;obtain⟨q,hq⟩:∃q,nd[j]?=some q:=⟨_,List.getElem?_eq_getElem (by rw[tn.l];exact jl)⟩;obtain⟨k0,g0,e0,e1,e2⟩:=tn.e j q _ hq hn;have h0:=sN1 _ _ e0;rw[pK_val hq];refine iteT ?_;walk;refine k_dgetK (k:=Sum.inl (j:Int)) hd1 (pK_val hq) ?_;walk;refine z _ _ ⟨?_,rfl⟩;rw[hn];rfl
  ·rw[pK_no (by rw[tn.l];omega)];refine iteF ?_;walk;refine z _ _ ⟨?_,rfl⟩;rw[List.getElem?_eq_none (by omega)];rfl
 rintro σ2 H2 ⟨rfl,rfl⟩;walk;refine⟨lk,_,rfl,.inl (SqL.of t2),fun l1 f1=>?_⟩;have S1:=Same.upd (o:=.lst (ks.map V.int)) f1;have e1:upd H1 l1 (.lst (ks.map V.int)) l1=some (.lst (ks.map V.int)):=upd_same;have a1:Chg gN (upd gN l1 (.lst (ks.map V.int))) H1 (upd H1 l1 (.lst (ks.map V.int))):=.add sN1 f1;have f1g:=sN1.free f1;generalize upd H1 l1 _=H2 at *;walk
 refine⟨lg,_,rfl,.inl (SqL.of (S1 _ _ t3)),fun l2 f2=>?_⟩;have S2:=Same.upd (o:=.lst (gs.map V.int)) f2;have n12:l1≠l2:=ne_of_none e1 f2;have a2:=a1.trans (.add (l:=l2) (o:=.lst (gs.map V.int)) a1.sm f2);have f2g:=a1.sm.free f2;have S12:=S1.trans S2;generalize upd H2 l2 _=H3 at *;have he3:=S12 _ _ he;walk;refine⟨sz,fun l3 f3=>?_⟩
 have S3:=Same.upd (o:=.lst (lN ⟨lv,ks,gs,hi,rt,(M.ns[j]?.map (·.ver)).getD 0,none,false,false⟩ l1 l2)) f3;have a3:=a2.trans (.add (l:=l3) (o:=.lst (lN ⟨lv,ks,gs,hi,rt,(M.ns[j]?.map (·.ver)).getD 0,none,false,false⟩ l1 l2)) a2.sm f3);have f3g:=a2.sm.free f3;have S13:=S12.trans S3
 have G:Same gN (upd (upd (upd gN l1 (.lst (ks.map V.int))) l2 (.lst (gs.map V.int))) l3 (.lst (lN ⟨lv,ks,gs,hi,rt,(M.ns[j]?.map (·.ver)).getD 0,none,false,false⟩ l1 l2))):=((Same.upd f1g).trans (Same.upd f2g)).trans (Same.upd f3g)
 have isn:LN (upd (upd (upd gN l1 (.lst (ks.map V.int))) l2 (.lst (gs.map V.int))) l3 (.lst (lN ⟨lv,ks,gs,hi,rt,(M.ns[j]?.map (·.ver)).getD 0,none,false,false⟩ l1 l2))) l3 ⟨lv,ks,gs,hi,rt,(M.ns[j]?.map (·.ver)).getD 0,none,false,false⟩:=⟨l1,l2,upd_same,un_f f3g (un_f f2g upd_same),un_f f3g upd_same⟩;have out:l3∉nd:=(tn.same ((Same.upd f1g).trans (Same.upd f2g))).out f3g;have tn1:=tn.same G
 have hd4:=S13 _ _ hd1;have hs4:=S13 _ _ hs1;change tDGet _ _ _ (upd H3 l3 (.lst (lN ⟨lv,ks,gs,hi,rt,(M.ns[j]?.map (·.ver)).getD 0,none,false,false⟩ l1 l2))) _;generalize upd H3 l3 _=H4 at *;generalize upd (upd (upd gN l1 _) l2 _) l3 _=g3 at *;walk;refine k_dputK (k:=Sum.inl (j:Int)) hd4 (by rw[pK_len,tn.l];omega) ?_;walk
 have c4:=a3.trans (.mut (o:=.dK (putK (pK nd V.ref) (Sum.inl (j:Int)) (.ref l3))) a3.sm tn1.d);by_cases jl:j<M.ns.length
 ·have e:=pK_set (f:=V.ref) (x:=l3) (xs:=nd) (j:=j) (by rw[tn.l];exact jl);have eM:M.made j lv ks gs hi rt={ M with R:=M.R.take j,ns:=M.ns.set j ⟨lv,ks,gs,hi,rt,(M.ns[j]?.map (·.ver)).getD 0,none,false,false⟩ }:=by unfold MS.made;rw[if_pos jl]
  refine k j _ _ gj ⟨_,gS',dn,nd.set j l3,a',us',fs',tp,rfl,c4.dis ds1 sS1,?_,?_,?_⟩ (cu.trans (c4.uL ds1 sS1))
  ·rw[e,eM];exact tn1.put jl out isn
  ·rw[eM];exact ts1
  ·rw[eM];exact htp
 ·have ej:j=M.ns.length:=by omega
  have e:putK (pK nd V.ref) (Sum.inl (j:Int)) (.ref l3)=pK (nd++[l3]) V.ref:=by rw[ej,<- tn.l];exact pK_new
  have eM:M.made j lv ks gs hi rt={ M with R:=M.R.take j,ns:=M.ns++[⟨lv,ks,gs,hi,rt,(M.ns[j]?.map (·.ver)).getD 0,none,false,false⟩] }:=by unfold MS.made;rw[if_neg jl,List.getElem?_eq_none (by omega)];rfl
  refine k j _ _ gj ⟨_,gS',dn,nd++[l3],a',us',fs',tp,rfl,c4.dis ds1 sS1,?_,?_,?_⟩ (cu.trans (c4.uL ds1 sS1))
  ·rw[e,eM];exact tn1.add out isn
  ·rw[eM];exact ts1
  ·rw[eM];exact htp
structure Small (d:PyData):Prop where
 ok:Okd 150 d
 dp:d.depth<=2
theorem log_le {z:Int}{k:Nat}(h:z.natAbs<2 ^ k)(hk:0<k):z.natAbs.log2<k:=by
 by_cases e:z.natAbs=0
 ·rw[e];simpa using hk
 ·exact(Nat.log2_lt e).mpr h
theorem small_int {i:Int}(h:i.natAbs<=10 ^ 30):Small (.int i):=by
 have b:i.natAbs<2 ^ 101:=by omega
 have l:=log_le b (by decide);refine⟨⟨?_,?_,by simp[PyData.depth],?_⟩,by simp[PyData.depth]⟩
 ·simp only[PyData.showable,decide_eq_true_eq];omega
 ·simp only[PyData.leavesShort,decide_eq_true_eq];have e:=int_text_length_le10 (k:=31) (by decide) (a:=i) (by omega);show (Str.ofString (toString i)).length<=40;rw[ofString_length];omega
 ·simp only[PyData.weight];split<;>omega
theorem small_bool {b}:Small (.bool b):=⟨⟨rfl,rfl,by simp[PyData.depth],by simp[PyData.weight]⟩,by simp[PyData.depth]⟩
theorem small_none:Small .none:=⟨⟨rfl,rfl,by simp[PyData.depth],by simp[PyData.weight]⟩,by simp[PyData.depth]⟩
theorem smalls_row:∀{ds:List PyData},(∀d∈ds,Okd 2000 d/\d.depth<=4)->PyData.showableAll ds=true/\PyData.leavesShortAll 40 ds=true/\PyData.depthAll ds<=4/\PyData.weightAll ds<=2001 * ds.length
 | [],_=>⟨rfl,rfl,by simp[PyData.depthAll],by simp[PyData.weightAll]⟩
 | d::ds,h=>by
  obtain⟨a,b,c,e⟩:=smalls_row fun y hy=>h y (List.mem_cons_of_mem _ hy);have s:=h d (List.mem_cons_self ..);refine⟨?_,?_,?_,?_⟩
  ·simp only[PyData.showableAll,s.1.sh,a,Bool.and_self]
  ·simp only[PyData.leavesShortAll,s.1.lv,b,Bool.and_self]
  ·simp only[PyData.depthAll];have:=s.2;omega
  ·simp only[PyData.weightAll,List.length_cons];have:=s.1.wt;omega
theorem small_up {d:PyData}(s:Small d):Okd 2000 d/\d.depth<=4:=⟨⟨s.ok.sh,s.ok.lv,s.ok.dp,by have:=s.ok.wt;omega⟩,by have:=s.dp;omega⟩
theorem ints_row:∀{zs:List Int},(∀z∈zs,z.natAbs<=10 ^ 30)->PyData.showableAll (zs.map PyData.int)=true/\PyData.leavesShortAll 40 (zs.map PyData.int)=true/\PyData.depthAll (zs.map PyData.int)<=2/\PyData.weightAll (zs.map PyData.int)<=151 * zs.length
 | [],_=>⟨rfl,rfl,by simp[PyData.depthAll],by simp[PyData.weightAll]⟩
 | z::zs,h=>by
  obtain⟨a,b,c,e⟩:=ints_row fun y hy=>h y (List.mem_cons_of_mem _ hy);have s:=small_int (h z (List.mem_cons_self ..));refine⟨?_,?_,?_,?_⟩
  ·simp only[List.map_cons,PyData.showableAll,s.ok.sh,a,Bool.and_self]
  ·simp only[List.map_cons,PyData.leavesShortAll,s.ok.lv,b,Bool.and_self]
  ·simp only[List.map_cons,PyData.depthAll];have:=s.dp;omega
  ·simp only[List.map_cons,PyData.weightAll,List.length_cons];have:=s.ok.wt;omega
theorem ok_ints {zs:List Int}(h:∀z∈zs,z.natAbs<=10 ^ 30)(l:zs.length<=10):Okd 2000 (.list (zs.map PyData.int))/\(PyData.list (zs.map PyData.int)).depth<=4:=by
 obtain⟨a,b,c,e⟩:=ints_row h;refine⟨⟨by simpa only [PyData.showable] using a,by simpa only [PyData.leavesShort] using b,?_,?_⟩,?_⟩
 ·simp only[PyData.depth];omega
 ·simp only[PyData.weight];have:151 * zs.length<=1510:=by omega
  omega
 ·simp only[PyData.depth];omega
def oD:Option Int->PyData|none=>.none|some i=>.int i
theorem small_o {o:Option Int}(h:∀i,o=some i->i.natAbs<=10 ^ 30):Small (oD o):=by
 cases o with
 | none=>exact small_none
 | some i=>exact small_int (h i rfl)
theorem dv_o {N:Addr->Prop}{H:Hp}{o:Option Int}:DV N H (oV o) (oD o):=by
 cases o with
 | none=>exact .non
 | some i=>exact .int i
theorem dvs_ints {N:Addr->Prop}{H:Hp}:∀{zs:List Int},DVs N H (zs.map V.int) (zs.map PyData.int)
 | []=>.nil
 | z::zs=>.cons (.int z) dvs_ints
structure NOk (b:Nat)(n:ND):Prop where
 lv:0<=n.lv/\n.lv<=60
 ks:KeysOk n.ks
 gl:n.gs.length<=7
 gs:∀z∈n.gs,z.natAbs<=10 ^ 9
 hi:∀z,n.hi=some z->z.natAbs<=10 ^ 9
 rt:∀z,n.rt=some z->z.natAbs<=10 ^ 9
 ver:0<=n.ver/\n.ver<=b
 ho:∀z,n.ho=some z->0<=z/\z<=2
 wr:n.ho=none->n.wr=false
def dN (n:ND):PyData:=.tuple [.int n.lv,.list (n.ks.map PyData.int),.list (n.gs.map PyData.int),oD n.hi,oD n.rt,.int n.ver,oD n.ho,.bool n.gone]
theorem ok_dN {b:Nat}{n}(o:NOk b n)(hb:b<=1000):Okd 100000 (dN n):=by
 have big:∀{z:Int} {m:Nat},z.natAbs<=m->m<=10 ^ 10->z.natAbs<=10 ^ 30:=fun {z m} a b=>by
  have:(10:Nat) ^ 10<=10 ^ 30:=Nat.pow_le_pow_right (by decide) (by decide);omega
 have r:∀d∈[PyData.int n.lv,.list (n.ks.map PyData.int),.list (n.gs.map PyData.int),oD n.hi,oD n.rt,.int n.ver,oD n.ho,.bool n.gone],Okd 2000 d/\d.depth<=4:=by
  intro d hd;simp only[List.mem_cons,List.not_mem_nil,or_false] at hd;rcases hd with rfl|rfl|rfl|rfl|rfl|rfl|rfl|rfl
  ·exact small_up (small_int (big (m:=60) (by have:=o.lv;omega) (by decide)))
  ·exact ok_ints (fun z hz=>big (m:=999999999) (by have:=o.ks.r z hz;unfold KeyR at this;omega) (by decide)) (by have:=o.ks.l;omega)
  ·exact ok_ints (fun z hz=>big (o.gs z hz) (by decide)) (by have:=o.gl;omega)
  ·exact small_up (small_o fun i e=>big (o.hi i e) (by decide))
  ·exact small_up (small_o fun i e=>big (o.rt i e) (by decide))
  ·exact small_up (small_int (big (m:=1000) (by have:=o.ver;omega) (by decide)))
  ·exact small_up (small_o fun i e=>big (m:=2) (by have:=o.ho i e;omega) (by decide))
  ·exact small_up small_bool
 obtain⟨a,b',c,e⟩:=smalls_row r;refine⟨by simpa only [dN,PyData.showable] using a,by simpa only [dN,PyData.leavesShort] using b',?_,?_⟩
 ·simp only[dN,PyData.depth];omega
 ·simp only[dN,PyData.weight];have:2001 * ([PyData.int n.lv,.list (n.ks.map PyData.int),.list (n.gs.map PyData.int),oD n.hi,oD n.rt,.int n.ver,oD n.ho,.bool n.gone]:List PyData).length=16008:=rfl;omega
theorem dv_dN {H:Hp}{n:ND}{t l1 l2}(e:H t=some (.tup [.int n.lv,.ref l1,.ref l2,oV n.hi,oV n.rt,.int n.ver,oV n.ho,.bl n.gone]))(e1:H l1=some (.lst (n.ks.map V.int)))(e2:H l2=some (.lst (n.gs.map V.int))):DV (fun _=>False) H (.ref t) (dN n):=
 .tup (fun z=>z) e (.cons (.int _) (.cons (.lst (fun z=>z) e1 dvs_ints) (.cons (.lst (fun z=>z) e2 dvs_ints) (.cons dv_o (.cons dv_o (.cons (.int _) (.cons dv_o (.cons (.bl _) .nil))))))))
structure MOk (b:Nat)(M:MS):Prop where
 r:M.R.Ok
 ln:M.R.places.length=M.ns.length
 few:M.ns.length<=b+1
 cs:M.R.cs.length<=b
 tp:∃p,M.top=some p/\p∈M.R.us
 nz:∀(j:Nat) n,M.ns[j]?=some n->NOk b n
 gu:∀(j:Nat) n,M.ns[j]?=some n->(j:Int)∈M.R.us->n.gone=false
 gk:∀(j:Nat) n,M.ns[j]?=some n->(j:Int)∈M.R.ks.map (·.1)->n.gone=true
theorem sort_eq:∀{xs ys:List Int},xs.Perm ys->xs.Pairwise (· <= ·)->ys.Pairwise (· <= ·)->xs=ys:=fun p a b=>p.eq_of_pairwise (fun x y _ _ h1 h2=>Int.le_antisymm h1 h2) a b
theorem plain_ints {zs:List Int}:(zs.map V.int).all plainV=true:=by
 rw[List.all_eq_true];intro v hv;obtain⟨z,_,rfl⟩:=List.mem_map.mp hv;rfl
theorem q_neI {K}{H:Hp}{Q a b}{zs:List Int}(h1:H a=some (.lst (zs.map V.int)))(h2:H b=some (.lst (zs.map V.int)))(q:Q (.bl false) H):rEqL K true (.ref a) (.ref b) H Q:=⟨a,b,_,_,rfl,rfl,SqL.of h1,SqL.of h2,okPs_self plain_ints,by rw[if_pos rfl,eqPs_self];exact q⟩
theorem tps_of {H:Hp}{ts}{ps:List (Int×Int)}(h:Tups H ts ps):Tps H ts (ps.map fun q=>[.int q.1,.int q.2]):=⟨by rw[List.length_map];exact h.1,fun j t xs a b=>by
 rw[List.getElem?_map] at b;obtain⟨q,hq,rfl⟩:=Option.map_eq_some_iff.mp b
 exact h.2 j t q a hq⟩
theorem q_neP {K}{H:Hp}{Q a b}{ts us:List Addr}{ps}(h1:H a=some (.lst (ts.map V.ref)))(h2:H b=some (.lst (us.map V.ref)))(t1:Tups H ts ps)(t2:Tups H us ps)(q:Q (.bl false) H):rNeLT K (.ref a) (.ref b) H Q:=
 ⟨a,b,ts,us,_,rfl,rfl,SqL.of h1,SqL.of h2,tps_of t1,tps_of t2,fun xs hx=>by obtain⟨q,_,rfl⟩:=List.mem_map.mp hx;rfl,q⟩
theorem MOk.at {b:Nat}{M:MS}(o:MOk b M){p:Int}(h:p∈M.R.us\/p∈M.R.ks.map (·.1)):∃(j:Nat) (n:ND),p=(j:Int)/\M.ns[j]?=some n/\NOk b n/\n.gone=decide (p∈M.R.ks.map (·.1)):=by
 have hp:p∈M.R.places:=by
  unfold RS.places;rcases h with h|h
  ·exact List.mem_append_left _ (List.mem_append_left _ h)
  ·exact List.mem_append_left _ (List.mem_append_right _ h)
 have r:=o.r.rg p hp;obtain⟨j,rfl⟩:∃j:Nat,p=(j:Int):=⟨p.toNat,by omega⟩;have jl:j<M.ns.length:=by rw[<- o.ln];omega
 have hn:=List.getElem?_eq_getElem jl;refine⟨j,_,rfl,hn,o.nz _ _ hn,?_⟩;rcases h with h|h
 ·rw[o.gu _ _ hn h,decide_eq_false (fun z=>o.r.uk h z)]
 ·rw[o.gk _ _ hn h,decide_eq_true h]
inductive spStands (c:Cs)(vs:List V)(H:Hp)(Q:VK)(E:XK):Prop
 | mk (a:TA)(h:Hp)(x:Addr)(g:Hp)(st:Addr)(M:MS)(b:Nat):vs=[.ref x,.ref st]->IsT c a h x M->Same h H->IsL g st M->Same g H->MOk b M->b<=50->(∀H',Same H H'->Q (.bl true) H')->spStands c vs H Q E
theorem ok_stands:Ok F F.r.d__law_stands 6 (spStands c):=by
 have T:=F.r.T;have C_Tree:=F.cT;have C_Rounds:=F.cR;have KF:=F.KF;obtain⟨fK,fdK,MP_all_keys,GP_all_keys,BP_all_keys⟩:=bk F;obtain⟨fG,fdG,MP_goods,GP_goods,BP_goods⟩:=bg F;have MLeaf:=KF.mL;have MInner:=KF.mI;refine F.r.d__law_stands.go fun sc H Q hr h=>?_;obtain⟨a,h,x,g,st,M,b,rfl,t,s,⟨gN,gS,dn,nd,la,us,fs,tp,rfl,ds,tn,ts,htp⟩,sg0,ok,b50,k⟩:=h;have hu:=hr.units0;have big:=big1000
 have sN:Same gN H:=uH_sl.trans sg0;have sS:Same gS H:=(uH_sr ds).trans sg0;have hs:=sS _ _ ts.s;have hx:=s _ _ t.x;have lf:=ts.pf.length_eq;have lu:=ts.pu.length_eq;have lp:M.R.us.length+M.R.ks.length+M.R.fs.length=M.R.places.length:=by unfold RS.places;simp only[List.length_append,List.length_map]
 have few:=ok.few;have ln:=ok.ln
 refine'⟨_,(pss_cons (ps_if (PW.pt (pw_or (pc op_ne (pe_m0 (pv 0) C_Tree (ok_T_most F) hr) (pe_gs hr (pv 1))) (pw_or (pc op_ne (pe_m0 (pv 0) C_Tree (ok_T_top F) hr) (pe_gs hr (pv 1))) (pw_or1 (pc (op_neL hu) (pe_m0 (pv 0) C_Tree (ok_T_places F) hr) (pe_gs hr (pv 1)))))))
   (pss_one (ps_ret pe_bl))
   pss_nil)
  (pss_cons (ps_v sc 2 (pe_m0 (pv 0) C_Tree (ok_T_rounds F) hr))
  (pss_cons (ps_if (PW.pt (pw_or (pc op_ne (pe_m0 (pv 2) C_Rounds (ok_lap F) hr) (pe_gs hr (pv 1))) (pw_or (pc (op_neL hu) (pe_m0 (pv 2) C_Rounds (ok_used F) hr) (pe_gs hr (pv 1))) (pw_or1 (pc (op_neL hu) (pe_m0 (pv 2) C_Rounds (ok_free F) hr) (pe_gs hr (pv 1)))))))
   (pss_one (ps_ret pe_bl))
   pss_nil)
  (pss_cons (ps_if (PW.pt (pw_or (pc (op_neLT (hu_of hr)) (pe_m0 (pv 2) C_Rounds (ok_kept F) hr) (pe_gs hr (pv 1))) (pw_or1 (pc (op_neLT (hu_of hr)) (pe_m0 (pv 2) C_Rounds (ok_going F) hr) (pe_gs hr (pv 1))))))
   (pss_one (ps_ret pe_bl))
   pss_nil)
  (pss_cons (ps_for PassesOwn.never rfl (pi_list (pe_op op_cat (pe_gs hr (pv 1)) (pe_comp2 (blk_mk [] []) rfl (pi_list (pe_gs hr (pv 1))) (fun _ _ _ _ _=>PTs.nil) (fun _ _ _ _ _=>(pv 0))))) (pg_v sc 3)
   (pss_cons (ps_v sc 4 (pe_dget (hu_of hr) (pe_gs hr (pv 1)) (pv 3) (fun _ _=>rfl)))
  (pss_cons (ps_if (pc op_ne (pe_callB (call_reprD hr.gd hr.units) rfl T.n_repr bt_repr (pa1 (pe_m (pv 0) C_Tree (ok_T_node F) hr (pa1 (pv 3))))) (pe_callB (call_reprD hr.gd hr.units) rfl T.n_repr bt_repr (pa1 (pe_callTy call_tuple_of rfl T.n_tuple bt_tuple (pa1 (pe_slice sl_list (pv 4) po_none (po_some pe_int)))))))
   (pss_one (ps_ret pe_bl))
   pss_nil)
  (pss_cons (ps_v sc 5 (pe_m (pv 0) C_Tree (ok_T_page F) hr (pa1 (pv 3))))
  (pss_cons (ps_if (PW.pt (pw_or (pc (op_neL hu) (pe_methP0 (pv 5) MP_all_keys GP_all_keys (hr.mono (by decide)) BP_all_keys .nil pass0) (pix ix_list (pv 4) pe_int)) (pw_or1 (pc (op_neL hu) (pe_methP0 (pv 5) MP_goods GP_goods (hr.mono (by decide)) BP_goods .nil pass0) (pix ix_list (pv 4) pe_int)))))
   (pss_one (ps_ret pe_bl))
   pss_nil)
  (pss_one (ps_if (PW.pt (pw_or (pc op_ne (pe_callB call_instO rfl T.n_isinstance bt_isinstance (pa2 (pv 5) (pe_glob (v:=.ref c.pg.cI) rfl MInner rfl))) (pe_cmpR op_gt (pix ix_list (pv 4) pe_int) pe_int (nomark _))) (pw_or1 (pc op_ne (pe_callB call_instO rfl T.n_isinstance bt_isinstance (pa2 (pv 5) (pe_glob (v:=.ref c.pg.cL) rfl MLeaf rfl))) (pe_cmpR op_eq (pix ix_list (pv 4) pe_int) pe_int (nomark _))))))
   (pss_one (ps_ret pe_bl))
   pss_nil)))))))
  (pss_one (ps_ret pe_bl))))))),?_⟩
 walk;refine⟨a,h,x,M,rfl,t,s,?_⟩;walk;refine iteNS rfl ?_;walk;refine⟨a,h,x,M,rfl,t,s,tp,htp,?_⟩;walk;refine iteNS rfl ?_;walk;refine⟨a,h,x,M,rfl,t,s,by omega,fun ns p1 p2 l fl=>?_⟩;obtain rfl:=sort_eq (p1.trans ts.pu.symm) p2 ts.su;have S1:=Same.upd (o:=.lst (ns.map V.int)) fl;have e1:upd H l (.lst (ns.map V.int)) l=some (.lst (ns.map V.int)):=upd_same;generalize upd H l _=H1 at *;walk
 refine q_neI e1 (S1 _ _ (sS _ _ ts.u)) ?_;walk;refine⟨a,h,x,M,rfl,t,s.trans S1,fun y dy du dk df dc H2 fy fb S2 r=>?_⟩;have S12:=S1.trans S2;have hs2:=S12 _ _ hs;have hy:=r.x;walk;refine⟨y,dy,du,dk,df,dc,M.R,rfl,r,?_⟩;walk;refine iteNS rfl ?_;walk;refine⟨y,dy,du,dk,df,dc,M.R,rfl,r,(by show M.R.us.length<64;omega),fun ns' p1' p2' l3 f3=>?_⟩;obtain rfl:=sort_eq (p1'.trans ts.pu.symm) p2' ts.su
 have S3:=Same.upd (o:=.lst (ns'.map V.int)) f3;have e3:upd H2 l3 (.lst (ns'.map V.int)) l3=some (.lst (ns'.map V.int)):=upd_same;have S13:=S12.trans S3;have hs3:=S13 _ _ hs;have hy3:=S3 _ _ hy;generalize upd H2 l3 _=H3 at *;walk;refine q_neI e3 (S13 _ _ (sS _ _ ts.u)) ?_;walk;refine⟨y,dy,du,dk,df,dc,M.R,rfl,r.same S3,(by show M.R.fs.length<64;omega),fun fs' q1 q2 l4 f4=>?_⟩
 obtain rfl:=sort_eq (q1.trans ts.pf.symm) q2 ts.sf;have S4:=Same.upd (o:=.lst (fs'.map V.int)) f4;have e4:upd H3 l4 (.lst (fs'.map V.int)) l4=some (.lst (fs'.map V.int)):=upd_same;have S14:=S13.trans S4;have hs4:=S14 _ _ hs;have hy4:=S4 _ _ hy3;have r4:=(r.same S3).same S4;generalize upd H3 l4 _=H4 at *;walk;refine q_neI e4 (S14 _ _ (sS _ _ ts.f)) ?_;walk
 refine⟨y,dy,du,dk,df,dc,M.R,rfl,r4,fun l5 ts5 H5 f5 S5 e5 tt5=>?_⟩;have S15:=S14.trans S5;have hs5:=S15 _ _ hs;have hy5:=S5 _ _ hy4;walk;refine q_neP e5 (S15 _ _ (sS _ _ ts.k)) tt5 (ts.tk.keep fun b xs z=>S15 _ _ (sS _ _ z)) ?_;walk;refine⟨y,dy,du,dk,df,dc,M.R,rfl,r4.same S5,fun l6 ts6 H6 f6 S6 e6 tt6=>?_⟩;have S16:=S15.trans S6;have hs6:=S16 _ _ hs;walk
 refine q_neP e6 (S16 _ _ (sS _ _ ts.c)) tt6 (ts.tc.keep fun b xs z=>S16 _ _ (sS _ _ z)) ?_;walk;clear e1 e3 e4 e5 e6 tt5 tt6 S13 S14 S15 S12 hy hy3 hy4 hy5 hs2 hs3 hs4 hs5
 refine comp_list (l:=la.lk) (ts:=la.tk) (ps:=M.R.ks) (fun R' z=>?_) (S16 _ _ (sS _ _ ts.k)) (ts.tk.keep fun b xs z=>S16 _ _ (sS _ _ z)) (by omega) (fun _=>true) (fun c=>.int c.1) (fun c _ H2 R' _ z=>z H2 (Same.refl _)) (fun c _ _ H2 R' _ z=>⟨_,rfl,z H2 (Same.refl _)⟩) fun ll H7 fll S7 ell=>?_
 ·walk;exact z
 rw[filt_all] at ell;have S17:=S16.trans S7;refine q_cat (S17 _ _ (sS _ _ ts.u)) ell (by rw[List.length_map,List.length_map];omega) fun l8 f8=>?_;have S8:=Same.upd (o:=.lst (ns'.map V.int++M.R.ks.map fun c=>V.int c.1)) f8;have e8:upd H7 l8 (.lst (ns'.map V.int++M.R.ks.map fun c=>V.int c.1)) l8=some (.lst (ns'.map V.int++M.R.ks.map fun c=>V.int c.1)):=upd_same;have S18:=S17.trans S8
 generalize upd H7 l8 _=H8 at *;walk;refine q_forL (xs:=ns'.map V.int++M.R.ks.map fun c=>V.int c.1) (fun i σ H9=>∃o3 o4 o5:Option V,σ=[some (.ref x),some (.ref st),some (.ref y),o3,o4,o5]/\Same H8 H9) ⟨none,none,none,rfl,Same.refl _⟩ ?_ ?_ ?_
 ·rintro i σ H9 _ ⟨_,_,_,_,S9⟩;exact S9 _ _ e8
 ·rintro i v σ H9 hi ⟨o3,o4,o5,rfl,S9⟩
  obtain⟨p,rfl,hp⟩:∃p:Int,v=.int p/\(p∈M.R.us\/p∈M.R.ks.map (·.1)):=by
   rcases List.mem_append.mp (List.mem_of_getElem? hi) with h|h
   ·obtain⟨p,hp,rfl⟩:=List.mem_map.mp h;exact⟨p,rfl,.inl (ts.pu.mem_iff.mp hp)⟩
   ·obtain⟨q,hq,rfl⟩:=List.mem_map.mp h;exact⟨q.1,rfl,.inr (List.mem_map.mpr ⟨q,hq,rfl⟩)⟩
  obtain⟨j,n,rfl,hn,on,hg⟩:=ok.at hp;have S:=S18.trans S9;have hs9:=S _ _ hs;have hx9:=S _ _ hx;obtain⟨pj,hpj⟩:=nth tn.l hn;obtain⟨k0,g0,n0,n1,n2⟩:=tn.e j pj n hpj hn;have h0:=S _ _ (sN _ _ n0);walk;refine k_dgetK (k:=Sum.inl (j:Int)) (S _ _ (sN _ _ tn.d)) (pK_val hpj) ?_;walk;refine⟨a,h,x,M,j,n,rfl,t,s.trans S,ok.r,hp,hn,fun u1 u2 tt HA _ _ _ SA a1 a2 a3=>?_⟩;rw[<- hg] at a3;walk
  obtain⟨sh,esh⟩:∃sh,(dN n).shown=sh:=⟨_,rfl⟩;refine⟨_,_,_,rfl,dv_dN (n:=n) a3 a1 a2,ok_dN on (by omega),?_⟩;rw[esh];have SA':=S.trans SA;have hA:=SA _ _ h0;walk;refine r_var rfl ⟨8,rfl,pj,_,rfl,SqL.of hA,fun lB fB=>?_⟩;have SB:=Same.upd (o:=.lst ((lN n k0 g0).take 8)) fB;have eB:upd HA lB (.lst ((lN n k0 g0).take 8)) lB=some (.lst ((lN n k0 g0).take 8)):=upd_same
  rw[show cutV (lN n k0 g0) none (some 8)=(lN n k0 g0).take 8 from rfl];generalize upd HA lB _=HB at *;walk;refine⟨lB,_,rfl,.inl ⟨SqL.of eB,fun lC fC=>?_⟩⟩;have SC:=Same.upd (o:=.tup ((lN n k0 g0).take 8)) fC;have eC:upd HB lC (.tup ((lN n k0 g0).take 8)) lC=some (.tup ((lN n k0 g0).take 8)):=upd_same;have SAC:=SA.trans (SB.trans SC);have SC':=S.trans SAC;generalize upd HB lC _=HC at *;walk
  refine⟨_,_,_,rfl,dv_dN (n:=n) eC (SC' _ _ (sN _ _ n1)) (SC' _ _ (sN _ _ n2)),ok_dN on (by omega),?_⟩;rw[esh];clear esh;have hC:=SAC _ _ h0;have hxC:=SAC _ _ hx9;walk;refine iteNS rfl ?_;walk;refine⟨a,h,x,M,j,n,rfl,t,s.trans SC',ok.r,hp,hn,fun pg hpg=>?_⟩;obtain⟨dg,tk,tg,g1,g2,g3⟩:=id hpg;walk;refine k_methP g1 (c.pg.of_is _) rfl ⟨pg,n.lv,n.ks,n.gs,rfl,hpg,fun lD fD=>?_⟩
  have SD:=Same.upd (o:=.lst (n.ks.map V.int)) fD;have eD:upd HC lD (.lst (n.ks.map V.int)) lD=some (.lst (n.ks.map V.int)):=upd_same;have SD':=SC'.trans SD;have hD:=SD _ _ hC;have g1D:=SD _ _ g1;have hpgD:=hpg.same SD;generalize upd HC lD _=HD at *;walk;refine q_neI eD (SD' _ _ (sN _ _ n1)) ?_;walk;refine k_methP g1D (c.pg.of_is _) rfl ⟨pg,n.lv,n.ks,n.gs,rfl,hpgD,fun lE fE=>?_⟩
  have SE:=Same.upd (o:=.lst (n.gs.map V.int)) fE;have eE:upd HD lE (.lst (n.gs.map V.int)) lE=some (.lst (n.gs.map V.int)):=upd_same;have SE':=SD'.trans SE;have hE:=SE _ _ hD;have g1E:=SE _ _ g1D;have SF:=SAC.trans (SD.trans SE);generalize upd HD lE _=HE at *;walk;refine q_neI eE (SE' _ _ (sN _ _ n2)) ?_;walk;have lv0:=on.lv;unfold Cp.of at g1E;by_cases h0:n.lv=0
  ·rw[if_pos h0] at g1E;refine⟨pg,c.pg.cL,c.pg.cI,dg,_,false,rfl,g1E,KF.iL,KF.LI,?_⟩;walk;refine iteNS (by rw[decide_eq_false (by omega)]) ?_;walk;refine⟨pg,c.pg.cL,c.pg.cL,dg,_,true,rfl,g1E,KF.iL,KF.LL,?_⟩;walk;refine iteNS (by rw[decide_eq_true (by rw[h0])]) ?_;walk;exact⟨_,_,_,rfl,S9.trans SF⟩
  ·rw[if_neg h0] at g1E;refine⟨pg,c.pg.cI,c.pg.cI,dg,_,true,rfl,g1E,KF.iI,KF.II,?_⟩;walk;refine iteNS (by rw[decide_eq_true (by omega)]) ?_;walk;refine⟨pg,c.pg.cI,c.pg.cL,dg,_,false,rfl,g1E,KF.iI,KF.IL,?_⟩;walk;refine iteNS (by rw[decide_eq_false (fun z=>h0 (V.int.inj z))]) ?_;walk;exact⟨_,_,_,rfl,S9.trans SF⟩
 ·rintro σ H9 ⟨_,_,_,rfl,S9⟩;walk;exact k _ (S18.trans S9)
theorem NOk.mono {b b':Nat}{n}(o:NOk b n)(h:b<=b'):NOk b' n:=⟨o.lv,o.ks,o.gl,o.gs,o.hi,o.rt,⟨o.ver.1,by have:=o.ver.2;omega⟩,o.ho,o.wr⟩
theorem MOk.mono {b b':Nat}{M}(o:MOk b M)(h:b<=b'):MOk b' M:=⟨o.r,o.ln,by have:=o.few;omega,by have:=o.cs;omega,o.tp,fun j n e=>(o.nz j n e).mono h,o.gu,o.gk⟩
theorem set_at {ns:List ND}{j i:Nat}{n' m}(e:(ns.set j n')[i]?=some m):i=j/\m=n'\/i≠j/\ns[i]?=some m:=by
 rw[List.getElem?_set] at e;by_cases c:j=i
 ·subst c;rw[if_pos rfl] at e;by_cases l:j<ns.length
  ·rw[if_pos l] at e;exact .inl ⟨rfl,(Option.some.inj e).symm⟩
  ·rw[if_neg l] at e;cases e
 ·rw[if_neg c] at e;exact .inr ⟨Ne.symm c,e⟩
theorem MOk.setN {b b':Nat}{M:MS}(o:MOk b M){j:Nat}{n n':ND}(hn:M.ns[j]?=some n)(h:NOk b' n')(hb:b<=b')(hg:n'.gone=n.gone):MOk b' { M with ns:=M.ns.set j n' }:=by
 have o':=o.mono hb;refine⟨o.r,by rw[List.length_set];exact o.ln,by rw[List.length_set];exact o'.few,o'.cs,o.tp,fun i m e=>?_,fun i m e hu=>?_,fun i m e hu=>?_⟩
 ·rcases set_at e with⟨rfl,rfl⟩|⟨_,e⟩
  ·exact h
  ·exact o'.nz i m e
 ·rcases set_at e with⟨rfl,rfl⟩|⟨_,e⟩
  ·rw[hg];exact o.gu _ _ hn hu
  ·exact o.gu i m e hu
 ·rcases set_at e with⟨rfl,rfl⟩|⟨_,e⟩
  ·rw[hg];exact o.gk _ _ hn hu
  ·exact o.gk i m e hu
theorem MOk.lead {b:Nat}{M:MS}(o:MOk b M){p:Int}(h:p∈M.R.us):MOk b { M with top:=some p }:=⟨o.r,o.ln,o.few,o.cs,⟨p,rfl,h⟩,o.nz,o.gu,o.gk⟩
theorem MOk.come {b:Nat}{M:MS}(o:MOk b M){w0:Int}(h0:0<=w0)(h1:w0<=1000000)(hn:w0∉M.R.cs.map (·.1)):MOk (b+1) { M with R:=M.R.come w0 }:=by
 have o':=o.mono (Nat.le_succ b);exact⟨o.r.come h0 h1 hn,o.ln,o'.few,by show (M.R.cs++[(w0,M.R.lap)]).length<=_;rw[List.length_append];have:=o.cs;show _+1<=_;omega,o.tp,o'.nz,o.gu,o.gk⟩
theorem rel_ks {S:RS}{p:Int}(h:p∈S.rel.ks.map (·.1)):p∈S.ks.map (·.1):=by
 obtain⟨q,hq,rfl⟩:=List.mem_map.mp h;exact List.mem_map.mpr ⟨q,(List.mem_filter.mp hq).1,rfl⟩
theorem MOk.left {b:Nat}{M}(o:MOk b M)(w0:Int):MOk b { M with R:=(M.R.left w0).rel }:=
 ⟨(o.r.left w0).rel,(RS.rel_perm (M.R.left w0)).length_eq.trans o.ln,o.few,Nat.le_trans (List.length_filter_le _ _) o.cs,o.tp,o.nz,o.gu,fun j n e h=>o.gk j n e (rel_ks (S:=M.R.left w0) h)⟩
theorem MOk.gone {b:Nat}{M:MS}(o:MOk b M){j:Nat}{n n':ND}(hn:M.ns[j]?=some n)(hu:(j:Int)∈M.R.us)(h:NOk (b+1) n')(hg:n'.gone=true)(ht:∃p:Int,M.top=some p/\(j:Int)≠p):MOk (b+1) { M with ns:=M.ns.set j n',R:=(M.R.gone j).rel }:=by
 have o':=o.mono (Nat.le_succ b);refine⟨(o.r.gone hu).rel,?_,by rw[List.length_set];exact o'.few,o'.cs,?_,fun i m e=>?_,fun i m e hi=>?_,fun i m e hi=>?_⟩
 ·rw[List.length_set,<- o.ln];exact(RS.rel_perm _).length_eq.trans (RS.gone_perm o.r hu).length_eq
 ·obtain⟨p,e1,n1⟩:=ht;obtain⟨p',e2,h2⟩:=o.tp;rw[e1] at e2;cases Option.some.inj e2;exact⟨p,e1,List.mem_filter.mpr ⟨h2,decide_eq_true (Ne.symm n1)⟩⟩
 ·rcases set_at e with⟨rfl,rfl⟩|⟨_,e⟩
  ·exact h
  ·exact o'.nz i m e
 ·have hi':=List.mem_filter.mp (show (i:Int)∈M.R.us.filter (fun n=>decide (n≠(j:Int))) from hi);rcases set_at e with⟨rfl,rfl⟩|⟨_,e⟩
  ·exact absurd rfl (of_decide_eq_true hi'.2)
  ·exact o.gu i m e hi'.1
 ·rcases set_at e with⟨rfl,rfl⟩|⟨ne,e⟩
  ·exact hg
  ·refine o.gk i m e ?_;have h1:=rel_ks (S:=M.R.gone j) hi;have h2:(i:Int)∈(M.R.ks++[((j:Int),M.R.lap)]).map (·.1):=h1;rw[List.map_append] at h2;rcases List.mem_append.mp h2 with h3|h3
   ·exact h3
   ·have:=List.mem_singleton.mp h3;exact absurd (Int.ofNat.inj this) ne
theorem MOk.made {b:Nat}{M:MS}(o:MOk b M){j:Nat}(gj:Given M j){lv:Int}{ks gs}{hi rt:Option Int}(h:∀v:Int,0<=v/\v<=b->NOk b ⟨lv,ks,gs,hi,rt,v,none,false,false⟩):MOk (b+1) (M.made j lv ks gs hi rt):=by
 have o':=o.mono (Nat.le_succ b);have few:=o.few;have lp:M.R.us.length+M.R.ks.length+M.R.fs.length=M.R.places.length:=by unfold RS.places;simp only[List.length_append,List.length_map]
 have tp:∃p,M.top=some p/\p∈(M.R.take j).us:=let⟨p,a,c⟩:=o.tp;⟨p,a,List.mem_append_left _ c⟩
 have nk:(j:Int)∉M.R.ks.map (·.1):=fun z=>by
  rcases gj with⟨_,e⟩|⟨e,_⟩
  ·have:=(o.r.rg j (List.mem_append_left _ (List.mem_append_right _ z))).2;rw[o.ln,e] at this;omega
  ·exact o.r.kf z e
 rcases gj with⟨e,ej⟩|⟨e,_⟩
 ·have okR:(M.R.take j).Ok:=by
   have:=o.r.new e;rw[o.ln,<- ej] at this;exact this
  have eM:M.made j lv ks gs hi rt={ M with R:=M.R.take j,ns:=M.ns++[⟨lv,ks,gs,hi,rt,0,none,false,false⟩] }:=by unfold MS.made;rw[if_neg (by omega)]
  rw[eM]
  have at':∀{i:Nat} {m:ND},(M.ns++[⟨lv,ks,gs,hi,rt,0,none,false,false⟩])[i]?=some m->i=j/\m=⟨lv,ks,gs,hi,rt,0,none,false,false⟩\/i≠j/\M.ns[i]?=some m:=fun {i m} q=>by
   by_cases c:i<M.ns.length
   ·rw[List.getElem?_append_left c] at q;exact .inr ⟨by omega,q⟩
   ·rw[List.getElem?_append_right (by omega)] at q;cases c1:i - M.ns.length with
    | zero=>rw[c1] at q;exact .inl ⟨by omega,(Option.some.inj q).symm⟩
    | succ k=>rw[c1] at q;cases q
  refine⟨okR,?_,by rw[List.length_append];show _+1<=_;omega,o'.cs,tp,fun i m q=>?_,fun i m q hi=>?_,fun i m q hi=>?_⟩
  ·rw[List.length_append,<- o.ln];unfold RS.places RS.take;simp only[e,List.filter_nil,List.length_append,List.length_map,List.length_cons,List.length_nil];omega
  ·rcases at' q with⟨_,rfl⟩|⟨_,q⟩
   ·exact(h 0 ⟨Int.le_refl _,by omega⟩).mono (Nat.le_succ b)
   ·exact o'.nz i m q
  ·rcases at' q with⟨_,rfl⟩|⟨ne,q⟩
   ·rfl
   ·rcases List.mem_append.mp (show (i:Int)∈M.R.us++[(j:Int)] from hi) with z|z
    ·exact o.gu i m q z
    ·exact absurd (Int.ofNat.inj (List.mem_singleton.mp z)) ne
  ·rcases at' q with⟨rfl,rfl⟩|⟨ne,q⟩
   ·exact absurd hi nk
   ·exact o.gk i m q hi
 ·have okR:(M.R.take j).Ok:=o.r.take e
  have jl:j<M.ns.length:=by
   have:=(o.r.rg j (List.mem_append_right _ e)).2;rw[o.ln] at this;omega
  have eM:M.made j lv ks gs hi rt={ M with R:=M.R.take j,ns:=M.ns.set j ⟨lv,ks,gs,hi,rt,(M.ns[j]?.map (·.ver)).getD 0,none,false,false⟩ }:=by unfold MS.made;rw[if_pos jl]
  rw[eM];have hn:=List.getElem?_eq_getElem jl;refine⟨okR,?_,by rw[List.length_set];exact o'.few,o'.cs,tp,fun i m q=>?_,fun i m q hi=>?_,fun i m q hi=>?_⟩
  ·rw[List.length_set,<- o.ln,<- lp];have:=(filter_out o.r.fsn e).length_eq;rw[List.length_cons] at this;unfold RS.places RS.take;simp only[List.length_append,List.length_map,List.length_cons,List.length_nil];omega
  ·rcases set_at q with⟨_,rfl⟩|⟨_,q⟩
   ·refine(h _ ?_).mono (Nat.le_succ b);rw[hn];exact(o.nz _ _ hn).ver
   ·exact o'.nz i m q
  ·rcases set_at q with⟨_,rfl⟩|⟨ne,q⟩
   ·rfl
   ·rcases List.mem_append.mp (show (i:Int)∈M.R.us++[(j:Int)] from hi) with z|z
    ·exact o.gu i m q z
    ·exact absurd (Int.ofNat.inj (List.mem_singleton.mp z)) ne
  ·rcases set_at q with⟨rfl,rfl⟩|⟨ne,q⟩
   ·exact absurd hi nk
   ·exact o.gk i m q hi
theorem MOk.init (most:Int):MOk 0 (MS.init most):=by
 have n0:NOk 0 ⟨0,[],[],none,none,0,none,false,false⟩:=⟨by decide,⟨fun _ z=>(by cases z),List.Pairwise.nil,by decide⟩,by decide,fun _ z=>(by cases z),fun _ z=>(by cases z),fun _ z=>(by cases z),by decide,fun _ z=>(by cases z),fun _=>rfl⟩;have nd:([0]:List Int).Nodup:=by decide
 refine⟨⟨nd,fun p hp=>?_,List.nodup_nil,fun c hc=>(by cases hc)⟩,rfl,Nat.le_refl 1,Nat.le_refl 0,⟨0,rfl,List.mem_singleton.mpr rfl⟩,fun j n e=>?_,fun j n e _=>?_,fun j n e h=>(by cases h)⟩
 ·have e:p=0:=List.mem_singleton.mp (show p∈([0]:List Int) from hp);rw[e];exact⟨Int.le_refl _,show (0:Int)<((1:Nat):Int) by decide⟩
 ·cases j with
  | zero=>cases Option.some.inj e;exact n0
  | succ j=>cases e
 ·cases j with
  | zero=>cases Option.some.inj e;rfl
  | succ j=>cases e
theorem NOk.cont {b:Nat}{M}(o:MOk b M)(hb:b<=50){H:Hp}{tt lk lg}{lv:Int}{ks gs}{hi rt:Option Int}(ct:Cont H tt lk lg lv ks gs)(ed:EdgeOk M hi rt)(l0:0<=lv)(l1:lv<=60){v:Int}(hv:0<=v/\v<=b){ho:Option Int}{gone wr}(h1:∀z,ho=some z->0<=z/\z<=2)(h2:ho=none->wr=false):NOk b ⟨lv,ks,gs,hi,rt,v,ho,gone,wr⟩:=by
 obtain⟨_,_,_,ok,og,gb0⟩:=ct;have l:=ok.l
 have gl:gs.length<=7:=by
  unfold okG at og;by_cases c:lv=0
  ·rw[if_pos c] at og;rw[og.1];omega
  ·rw[if_neg c] at og;rw[og.1];omega
 refine⟨⟨l0,l1⟩,ok,gl,gb0,fun z e=>?_,fun z e=>?_,hv,h1,h2⟩
 ·rcases ed with⟨rfl,_⟩|⟨k,p,rfl,_,hk,_⟩
  ·cases e
  ·cases Option.some.inj e;unfold KeyR at hk;omega
 ·rcases ed with⟨_,rfl⟩|⟨k,p,_,rfl,_,hp⟩
  ·cases e
  ·cases Option.some.inj e;have:=o.r.rg _ (List.mem_append_left _ (List.mem_append_left _ hp));have l2:=o.ln;have l3:=o.few;omega
structure Inv (c:Cs)(a:TA)(h g:Hp)(x st:Addr)(M:MS)(H:Hp):Prop where
 t:IsT c a h x M
 l:IsL g st M
 d:Dis h g
 sh:Same h H
 sg:Same g H
def Stp (h g h' g':Hp)(p:Addr)(H H':Hp):Prop:=∀b o,H b=some o->h b=none->g b=none->b≠p->H' b=some o/\h' b=none/\g' b=none
def Stb (h g h' g':Hp)(p:Addr)(H H':Hp):Prop:=Stp h g h' g' p H H'/\h' p=none/\g' p=none/\∃n,n<=500000/\Box H' p n
theorem Stb.kb {h g h' g':Hp}{p}{H H1 H':Hp}(s:Stb h g h' g' p H1 H')(k:KB p H H1):Stb h g h' g' p H H':=⟨fun b o z n1 n2 n3=>s.1 b o (k.get z n3) n1 n2 n3,s.2⟩
theorem Stb.of {h g h' g':Hp}{p}{H H1 H':Hp}{n:Nat}(s:∀q,Stp h g h' g' q H1 H')(k:KB p H H1)(hp:h p=none)(gp:g p=none)(B:Box H1 p n)(hn:n<=500000):Stb h g h' g' p H H':=by
 obtain⟨xs,e⟩:=B.lst;have z:=s (p+1) p _ e hp gp (Nat.ne_of_lt (Nat.lt_succ_self p));exact Stb.kb ⟨s p,z.2.1,z.2.2,n,hn,B.to fun o q=>(s (p+1) p _ q hp gp (Nat.ne_of_lt (Nat.lt_succ_self p))).1⟩ k
theorem two1 {h g h' g' H H1 H2:Hp}(d:Dis h g)(sh:Same h H)(sg:Same g H)(c1:Chg g g' H H1)(c2:Chg h h' H1 H2):Dis h' g'/\Same h' H2/\Same g' H2/\∀q,Stp h g h' g' q H H2:=by
 have d1:=(c1.dis d.symm sh).symm;refine⟨c2.dis d1 c1.sm,c2.sm,c2.keep d1 c1.sm,fun q b o e n1 n2 _=>?_⟩;have e1:=c1.get n2 e;exact⟨c2.get n1 e1,c2.out n1 e1,c1.out n2 e⟩
theorem two2 {h g h' g' H H1 H2:Hp}(d:Dis h g)(sh:Same h H)(sg:Same g H)(c1:Chg h h' H H1)(c2:Chg g g' H1 H2):Dis h' g'/\Same h' H2/\Same g' H2/\∀q,Stp h g h' g' q H H2:=by
 obtain⟨a,b,c,e⟩:=two1 d.symm sg sh c1 c2;exact⟨a.symm,c,b,fun q b o z n1 n2 nq=>let⟨u,v,w⟩:=e q b o z n2 n1 nq;⟨u,w,v⟩⟩
inductive spCalled (c:Cs)(vs:List V)(H:Hp)(Q:VK)(E:XK):Prop
 | mk (a:TA)(h g:Hp)(x st:Addr)(M:MS)(b:Nat)(v0:V)(w0:Int):vs=[v0,.ref x,.ref st,.int w0]->Inv c a h g x st M H->MOk b M->b<=45->0<=w0->w0<=2->(∀a' h' g' M' H',Inv c a' h' g' x st M' H'->MOk (b+1) M'->(∀q,Stp h g h' g' q H H')->Q (.bl true) H')->spCalled c vs H Q E
theorem ok_called:Ok F F.r.d__law_called 8 (spCalled c):=by
 have C_Tree:=F.cT;refine F.r.d__law_called.go fun sc H Q hr h=>?_;obtain⟨a,h,g,x,st,M,b,v0,w0,rfl,⟨t,il,d,sh,sg0⟩,ok,b45,w1,w2,k⟩:=h;obtain⟨gN,gS,dn,nd,la,us,fs,tp,rfl,ds,tn,ts,htp⟩:=id il;have hu:=hr.units0;have big:=big1000;have sN:Same gN H:=uH_sl.trans sg0;have sS:Same gS H:=(uH_sr ds).trans sg0;have hs:=sS _ _ ts.s;have few:=ok.few;have ln:=ok.ln;have lc:=ok.cs
 refine'⟨_,(pss_cons (ps_if (pt_cmpR op_in_seq (pv 3) (pe_comp2 (blk_mk [] []) rfl (pi_list (pe_gs hr (pv 2))) (fun _ _ _ _ _=>PTs.nil) (fun _ _ _ _ _=>(pv 0))) (by with_unfolding_all rfl))
   (pss_cons (ps_expr (pe_d (ok_left F) hr (pa2 (pv 2) (pv 3))))
  (pss_one (ps_ret (pe_cmpR op_isN (pe_m (pv 1) C_Tree (ok_T_leave F) hr (pa1 (pv 3))) pe_non (nomark _)))))
   pss_nil)
  (pss_cons (ps_expr (pe_bm PySem.F.plainAttrs_list PySem.F.slot_list_append PySem.F.type_list_append mt_append (pe_gs hr (pv 2)) (pa1 (pe_tup (pa2 (pv 3) (pe_gs hr (pv 2)))))))
  (pss_one (ps_ret (pe_cmpR op_isN (pe_m (pv 1) C_Tree (ok_T_enter F) hr (pa1 (pv 3))) pe_non (nomark _)))))),?_⟩
 walk;refine comp_list (l:=la.lc) (ts:=la.tc) (ps:=M.R.cs) (fun R' z=>?_) (sS _ _ ts.c) (ts.tc.keep fun b xs z=>sS _ _ z) (by omega) (fun _=>true) (fun c=>.int c.1) (fun c _ H2 R' _ z=>z H2 (Same.refl _)) (fun c _ _ H2 R' _ z=>⟨_,rfl,z H2 (Same.refl _)⟩) fun ll H1 fll S1 ell=>?_
 ·walk;exact z
 rw[filt_all,show (M.R.cs.map fun c=>V.int c.1)=(M.R.cs.map (·.1)).map V.int by rw[List.map_map];rfl] at ell;refine⟨ll,_,rfl,.inl (SqL.of ell),rfl,all_flat,?_⟩;rw[if_neg Bool.false_ne_true,inV_ints];walk;have hs1:=S1 _ _ hs;have hx1:=S1 _ _ (sh _ _ t.x);by_cases hm:w0∈M.R.cs.map (·.1)
 ·refine iteD hm ?_;walk;refine⟨_,st,M,w0,rfl,il,sg0.trans S1,by omega,by omega,fun g' H2 il2 c2=>?_⟩;have c2':Chg (uH gN gS) g' H H2:=(Chg.same sg0 S1).trans c2;have sh2:=c2'.keep d.symm sh;have hx2:=sh2 _ _ t.x;walk;refine⟨a,h,x,M,w0,rfl,t,sh2,ok.r,by omega,by omega,hm,fun h' H3 t3 c3=>?_⟩;obtain⟨q1,q2,q3,q4⟩:=two1 d sh sg0 c2' c3;walk;refine⟨rfl,?_⟩;rw[decide_eq_true rfl]
  exact k _ _ _ _ _ ⟨t3,il2,q1,q2,q3⟩ ((ok.left w0).mono (Nat.le_succ b)) q4
 ·refine iteX hm ?_;have hc1:=S1 _ _ (sS _ _ ts.c);walk;refine⟨sz,fun y fy=>?_⟩;have S2:=Same.upd (o:=.tup [.int w0,.int M.R.lap]) fy;have ey:upd H1 y (.tup [.int w0,.int M.R.lap]) y=some (.tup [.int w0,.int M.R.lap]):=upd_same;have S12:=S1.trans S2;have fyH:=S1.free fy;have fyg:=sS.free fyH
  have c1:Chg gS (upd gS y (.tup [.int w0,.int M.R.lap])) H (upd H1 y (.tup [.int w0,.int M.R.lap])):=.addS sS S12 fyH ey;have t2:=(ts.same (Same.upd (o:=.tup [.int w0,.int M.R.lap]) fyg)).appC (x:=y) (q:=(w0,M.R.lap)) upd_same;have c2:=c1.trans (.mut (o:=.lst (la.tc.map V.ref++[.ref y])) c1.sm (un_f fyg ts.c));generalize upd (upd gS y _) la.lc _=g2 at *;generalize upd H1 y _=H2 at *;walk
  refine q_append (S2 _ _ hc1) (by rw[List.length_map,ts.tc.1];omega) ?_;generalize upd H2 la.lc _=H3 at *;have c3:=c2.uR ds sN;have il2:IsL (uH gN g2) st { M with R:=M.R.come w0 }:=⟨gN,g2,dn,nd,_,us,fs,tp,rfl,(c2.dis ds.symm sN).symm,tn,t2,htp⟩;have sh3:=c3.keep d.symm sh;have hx3:=sh3 _ _ t.x;clear hs1 hx1 hc1;walk;refine⟨a,h,x,M,w0,rfl,t,sh3,by omega,by omega,by omega,hm,fun h' H4 t4 c4=>?_⟩
  obtain⟨q1,q2,q3,q4⟩:=two1 d sh sg0 c3 c4;walk;refine⟨rfl,?_⟩;rw[decide_eq_true rfl];exact k _ _ _ _ _ ⟨t4,il2,q1,q2,q3⟩ (ok.come (by omega) (by omega) hm) q4
inductive spMore (c:Cs)(vs:List V)(H:Hp)(Q:VK)(E:XK):Prop
 | mk (a:TA)(h g:Hp)(x st:Addr)(M:MS)(b:Nat)(p et:Addr)(nb:Nat)(lv:Int)(hi rt:Option Int):vs=[.ref p,.ref x,.ref st,.int lv,.ref et]->Inv c a h g x st M H->MOk b M->b<=45->Box H p nb->nb<=400000->h p=none->g p=none->0<=lv->lv<=60->H et=some (.tup [oV hi,oV rt])->h et=none->g et=none->et≠p->EdgeOk M hi rt->(∀a' h' g' M' H',Inv c a' h' g' x st M' H'->MOk (b+1) M'->Stb h g h' g' p H H'->Q (.bl true) H')->spMore c vs H Q E
theorem ok_more:Ok F F.r.d__law_more 11 (spMore c):=by
 have C_Tree:=F.cT;refine F.r.d__law_more.go fun sc H Q hr h=>?_;obtain⟨a,h,g,x,st,M,b,p,et,nb,lv,hi,rt,rfl,⟨t,il,d,sh,sg0⟩,ok,b45,B,hnb,hp,gp,l0,l1,he,h_e,g_e,nep,ed,k⟩:=h;have big:=big1000;have few:=ok.few;have ln:=ok.ln
 refine'⟨_,(pss_cons (ps_v sc 5 (pe_d (ok_content F) hr (pa2 (pv 0) (pv 3))))
  (pss_cons (ps_v sc 6 (pe_d (ok_lpage F) hr (pa2 (pv 3) (pv 5))))
  (pss_one (ps_ret (pe_cmpR op_eq (pe_m (pv 1) C_Tree (ok_T_made F) hr (pa4 (pv 3) (pv 6) (pix ix_tup (pv 4) pe_int) (pix ix_tup (pv 4) pe_int))) (pe_d (ok_lmade F) hr (pa4 (pv 2) (pv 3) (pv 5) (pv 4))) (nomark _)))))),?_⟩
 walk;refine⟨p,lv,nb,rfl,B,by omega,fun tt lk lg ks gs H1 f1 f2 f3 np k1 B1 ct=>?_⟩;have sh1:=k1.same sh hp;have sg1:=k1.same sg0 gp;have he1:=k1.get he nep;simp only[List.mem_cons,List.not_mem_nil,or_false,not_or] at np;walk;refine⟨lv,tt,lk,lg,ks,gs,rfl,ct,l0,fun pg dx tk tg H2 y1 y2 y3 S2 e1 e2 e3=>?_⟩;have sh2:=sh1.trans S2;have sg2:=sg1.trans S2
 obtain⟨h2,ch2,pg2,ext⟩:=Pg.add (cp:=c.pg) (lv:=lv) (ks:=ks) (gs:=gs) (Chg.same sh1 S2) y1 y2 y3 e1 e2 e3;have d2:=ch2.dis d sg1;have t2:IsT c a h2 x M:=t.same fun b o z=>ext b o z;have hx2:=ch2.sm _ _ t2.x;have he2:=S2 _ _ he1;have out2:∀{b o},H1 b=some o->h b=none->h2 b=none:=fun e n=>ch2.out n e;walk
 refine⟨a,h2,x,M,lv,pg,ks,gs,hi,rt,rfl,t2,ch2.sm,ok.r,ln,by omega,l0,l1,pg2,ed,fun j a3 h3 H3 gj t3 c3=>?_⟩;have sg3:=c3.keep d2 sg2;have o2:∀{b o},H1 b=some o->h b=none->H3 b=some o:=fun e n=>c3.get (out2 e n) (S2 _ _ e);have hn:∀{b},H b=none->h b=none:=fun f=>sh.free f;have gn:∀{b},H b=none->g b=none:=fun f=>sg0.free f;have he3:=o2 he1 h_e;walk
 refine⟨g,st,M,lv,tt,lk,lg,et,ks,gs,hi,rt,rfl,il,sg3,ok.r,ln,by omega,⟨o2 ct.t (hn f1),o2 ct.k (hn f2),o2 ct.g (hn f3),ct.ok,ct.og,ct.gb⟩,he3,?_,fun j' g4 H4 gj' il4 c4=>?_⟩
 ·intro b hb;simp only[List.mem_cons,List.not_mem_nil,or_false] at hb;rcases hb with rfl|rfl|rfl|rfl
  ·exact gn f1
  ·exact gn f2
  ·exact gn f3
  ·exact g_e
 have ej:j=j':=by
  rcases gj with⟨u1,u2⟩|⟨u1,u2⟩
  ·rcases gj' with⟨v1,v2⟩|⟨v1,v2⟩
   ·rw[u2,v2]
   ·rw[u1] at v1;cases v1
  ·rcases gj' with⟨v1,v2⟩|⟨v1,v2⟩
   ·rw[v1] at u1;cases u1
   ·have:=u2 _ v1;have:=v2 _ u1;omega
 subst ej;have c13:=ch2.trans c3;obtain⟨q1,q2,q3,q4⟩:=two2 d sh1 sg1 c13 c4;walk;rw[decide_eq_true rfl];refine k _ _ _ _ _ ⟨t3,il4,q1,q2,q3⟩ (ok.made gj fun v hv=>NOk.cont ok (by omega) ct ed l0 l1 hv (fun _ z=>nomatch z) fun _=>rfl) (.of q4 k1 hp gp B1 (by omega))
theorem op_notInK {X:Cx}{K}(e:X.K=K):OpR X (compareOp .NotIn) (rIn K true):=by subst e;exact op_notIn_seq
theorem r_andB {tt tu:TT}{σ:St}{H:Hp}{Q:Bool->Hp->Prop}(b1 b2:Bool)(h1:∀R:Bool->Hp->Prop,R b1 H->tt σ H R)(h2:∀R:Bool->Hp->Prop,R b2 H->tu σ H R)(q:Q (b1&&b2) H):tAnd tt tu σ H Q:=h1 _ (by
 cases b1 with
 | true=>exact iteT (h2 _ q)
 | false=>exact iteF q)
theorem oV_non {o:Option Int}:(!decide (oV o=V.non))=o.isSome:=by
 cases o with
 | none=>rfl
 | some i=>rw[decide_eq_false (fun z=>nomatch z)];rfl
def hoM (M:MS)(z:Int):Option Int:=(M.ns[z.toNat]?).bind (·.ho)
def heldV (M:MS)(v:V):Bool:=match v with|.int z=>(hoM M z).isSome|_=>false
inductive spDone (c:Cs)(vs:List V)(H:Hp)(Q:VK)(E:XK):Prop
 | mk (a:TA)(h g:Hp)(x st:Addr)(M:MS)(b:Nat)(p:Addr)(nb:Nat):vs=[.ref p,.ref x,.ref st]->Inv c a h g x st M H->MOk b M->b<=45->Box H p nb->nb<=100->h p=none->g p=none->(∀a' h' g' M' H',Inv c a' h' g' x st M' H'->MOk (b+1) M'->Stb h g h' g' p H H'->Q (.bl true) H')->spDone c vs H Q E
theorem ok_done:Ok F F.r.d__law_done 12 (spDone c):=by
 have C_Tree:=F.cT;refine F.r.d__law_done.ok (N:=["_law_box_here","_law_tree","_law_state_here","_law_way","_law_who","_law_held","_law_loose","_law_place_here","_law_spot","_law_level","_law_edge_here","_law_content_here","_law_page_here","_law_told","_law_old","_law_new","_law_led"]) fun sc H Q hr h=>?_;obtain⟨a,h,g,x,st,M,b,p,nb,rfl,⟨t,il,d,sh,sg0⟩,ok,b45,B,hnb,hp,gp,k⟩:=h
 obtain⟨gN,gS,dn,nd,la,us,fs,tp,rfl,ds,tn,ts,htp⟩:=id il;have big:=big1000;have sN0:Same gN (uH gN gS):=uH_sl;have sS0:Same gS (uH gN gS):=uH_sr ds;have few:=ok.few;have ln:=ok.ln;have lu:=ts.pu.length_eq;have lp:M.R.us.length+M.R.ks.length+M.R.fs.length=M.R.places.length:=by unfold RS.places;simp only[List.length_append,List.length_map]
 have nop:∀{b o},uH gN gS b=some o->b≠p:=fun {b o} e z=>by rw[z,gp] at e;cases e
 refine'⟨_,(pss_cons (ps_v sc 3 (pe_d (ok_take F) hr (pa2 (pv 0) pe_int)))
  (pss_cons (ps_v sc 4 (pe_d (ok_take F) hr (pa2 (pv 0) pe_int)))
  (pss_cons (ps_set (i:=5) sc.nd rfl (Or.inr rfl) (pe_comp (blk_mk ["_law_state_here"] [2]) rfl (pi_list (pe_gs hr (pv 2))) (fun _ _ _ _ _=>(PTs.one (pc op_notN (pix (ix_seqK (K:=K) rfl) (pe_dget (hu_of hr) (pe_dget (hu_of hr) (pv 1) pe_str (fun _ _=>rfl)) (pv 0) (fun _ _=>rfl)) pe_int) pe_non))) (fun _ _ _ _ _=>(pv 0))))
  (pss_cons (ps_setComp (i:=6) (blk_mk ["_law_held"] [5]) rfl (pi_list (pe_gs hr (pv 2))) (fun _ _ _ _ _=>(PTs.one (pt_cmpR (op_notInK (K:=K) rfl) (pv 0) (pv 1) (by with_unfolding_all rfl)))) (fun _ _ _ _ _=>(pv 0)) sc.nd rfl rfl)
  (pss_cons (ps_v sc 7 (pe_d (ok_one F) hr (pa2 (pv 0) (pv 5))))
  (pss_cons (ps_v sc 8 (pe_d (ok_one F) hr (pa2 (pv 0) (pv 6))))
  (pss_cons (ps_v sc 9 (pix ix_list (pe_lst (pa5 pe_int pe_int pe_int pe_int pe_int)) (pe_d (ok_take F) hr (pa2 (pv 0) pe_int))))
  (pss_cons (ps_v sc 10 (pe_d (ok_edge F) hr (pa2 (pv 0) (pv 2))))
  (pss_cons (ps_if (PW.pt (pw_and (pc op_lt (pv 3) pe_int) (pw_and1 (pc op_notN (pv 8) pe_non))))
   (pss_cons (ps_asg (pv 4) (pg_sub (pe_dget (hu_of hr) (pe_gs hr (pv 2)) (pv 8) (fun _ _=>rfl)) pe_int set_list))
  (pss_one (ps_ret (pe_cmpR op_isN (pe_m (pv 1) C_Tree (ok_T_hold F) hr (pa2 (pv 8) (pv 4))) pe_non (nomark _)))))
   pss_nil)
  (pss_cons (ps_if (PW.pt (pw_and (pc op_lt (pv 3) pe_int) (pw_and1 (pc op_notN (pv 7) pe_non))))
   (pss_cons (ps_v sc 11 (pe_d (ok_content F) hr (pa2 (pv 0) (pix ix_list (pe_dget (hu_of hr) (pe_gs hr (pv 2)) (pv 7) (fun _ _=>rfl)) pe_int))))
  (pss_cons (ps_v sc 12 (pe_d (ok_lpage F) hr (pa2 (pix ix_list (pe_dget (hu_of hr) (pe_gs hr (pv 2)) (pv 7) (fun _ _=>rfl)) pe_int) (pv 11))))
  (pss_cons (ps_v sc 13 (pe_m (pv 1) C_Tree (ok_T_write F) hr (pa5 (pv 7) (pix ix_list (pe_dget (hu_of hr) (pe_gs hr (pv 2)) (pv 7) (fun _ _=>rfl)) pe_int) (pv 12) (pix ix_tup (pv 10) pe_int) (pix ix_tup (pv 10) pe_int))))
  (pss_cons (ps_expr (pe_d (ok_written F) hr (pa4 (pv 2) (pv 7) (pv 11) (pv 10))))
  (pss_one (ps_ret (pe_cmpR op_isN (pv 13) pe_non (nomark _))))))))
   pss_nil)
  (pss_cons (ps_if (PW.pt (pw_and (pc op_eq (pv 3) pe_int) (pw_and1 (pc op_notN (pv 7) pe_non))))
   (pss_cons (ps_v sc 13 (pe_m (pv 1) C_Tree (ok_T_free F) hr (pa2 (pv 7) (pix ix_list (pe_dget (hu_of hr) (pe_gs hr (pv 2)) (pv 7) (fun _ _=>rfl)) pe_int))))
  (pss_cons (ps_expr (pe_d (ok_freed F) hr (pa2 (pv 2) (pv 7))))
  (pss_one (ps_ret (pe_cmpR op_isN (pv 13) pe_non (nomark _))))))
   pss_nil)
  (pss_cons (ps_if (PW.pt (pw_and (pc op_eq (pv 3) pe_int) (pw_and1 (pt_cmpR op_notIn_seq (pv 7) (pe_tup (pa2 pe_non (pe_gs hr (pv 2)))) (by with_unfolding_all rfl)))))
   (pss_cons (ps_v sc 13 (pe_m (pv 1) C_Tree (ok_T_go F) hr (pa2 (pv 7) (pix ix_list (pe_dget (hu_of hr) (pe_gs hr (pv 2)) (pv 7) (fun _ _=>rfl)) pe_int))))
  (pss_cons (ps_expr (pe_d (ok_lgone F) hr (pa2 (pv 2) (pv 7))))
  (pss_one (ps_ret (pe_cmpR op_isN (pv 13) pe_non (nomark _))))))
   pss_nil)
  (pss_cons (ps_if (pc op_eq (pv 3) pe_int)
   (pss_cons (ps_par (i:=14) (j:=15) rfl sc.nd rfl rfl (by decide) rfl rfl (pa2 (pe_d (ok_one F) hr (pa2 (pv 0) (pe_op op_cat (pe_lst (pa1 (pe_gs hr (pv 2)))) (pe_gs hr (pv 2))))) (pe_d (ok_one F) hr (pa2 (pv 0) (pe_gs hr (pv 2))))) rfl)
  (pss_cons (ps_v sc 16 (pe_cmpR op_eq (pv 14) (pe_gs hr (pv 2)) (nomark _)))
  (pss_cons (ps_if (pt_val (pv 16))
   (pss_one (ps_dput (hu_of hr) (pv 2) pe_str (pv 15) rfl))
   pss_nil)
  (pss_one (ps_ret (pe_cmpR op_eq (pe_callB (call_reprD hr.gd hr.units) rfl F.r.T.n_repr bt_repr (pa1 (pe_m (pv 1) C_Tree (ok_T_lead F) hr (pa2 (pv 14) (pv 15))))) (pe_callB (call_reprD hr.gd hr.units) rfl F.r.T.n_repr bt_repr (pa1 (pv 16))) (nomark _)))))))
   pss_nil)
  (pss_one (ps_ret (pe_ifExp (pc op_eq (pv 3) pe_int) (pe_d (ok_called F) hr (pa4 (pv 0) (pv 1) (pv 2) (pv 4))) (pe_d (ok_more F) hr (pa5 (pv 0) (pv 1) (pv 2) (pv 9) (pv 10))))))))))))))))))),?_⟩
 walk;refine⟨p,9,nb,rfl,B,by omega,by decide,by decide,fun way H1 w0 w1 B1 k1=>?_⟩;walk;refine⟨p,3,nb+1,rfl,B1,by omega,by decide,by decide,fun who H2 u0 u1 B2 k2=>?_⟩;have K2:KB p H H2:=fun b o z n=>k2 b o (k1 b o z n) n;have sg2:=K2.same sg0 gp;have hs2:=sg2 _ _ (sS0 _ _ ts.s);clear k1 k2 B1 B;walk;have row:RowAt false H2 la.lu (us.map V.int):=sg2 _ _ (sS0 _ _ ts.u)
 refine comp_f (J:=ItB K false la.lu) (H1:=H2) (us.map V.int) (heldV M) (fun y=>y) (fun R' z=>?_) (it_row row) ?_ ?_ (by rw[List.length_map,lu];omega) ?_
 ·walk;exact z
 ·intro y hy H4 R' S4 z;obtain⟨q,hq,rfl⟩:=List.mem_map.mp hy;obtain⟨j,n,rfl,hn,on,_⟩:=ok.at (.inl (ts.pu.mem_iff.mp hq));obtain⟨pj,hpj⟩:=nth tn.l hn;obtain⟨k0,g0,n0,n1,n2⟩:=tn.e j pj n hpj hn;have hs4:=S4 _ _ hs2;have e0:=S4 _ _ (sg2 _ _ (sN0 _ _ n0))
  have ev:heldV M (.int j)=n.ho.isSome:=by
   show (hoM M (j:Int)).isSome=_;unfold hoM;rw[Int.toNat_natCast,hn];rfl
  rw[ev] at z;walk;refine k_dgetK (k:=Sum.inl (j:Int)) (S4 _ _ (sg2 _ _ (sN0 _ _ tn.d))) (pK_val hpj) ?_;walk;refine .inl (q_ixL e0 rfl ?_);walk;refine⟨rfl,?_⟩;rw[oV_non];walk;exact z H4 (Same.refl _)
 ·intro y hy _ H4 R' S4 z;walk;exact z H4 (Same.refl _)
 intro lh H3 fh S3 eh;rw[List.map_id',List.filter_map] at eh;change H3 lh=some (.lst ((us.filter fun z=>(hoM M z).isSome).map V.int)) at eh;have K3:KB p H H3:=fun b o z n=>S3 _ _ (K2 b o z n);have B3:=B2.same S3;have nh:lh≠p:=B2.ne fh;have sg3:=K3.same sg0 gp;have hs3:=sg3 _ _ (sS0 _ _ ts.s);clear hs2 row fh
 have hlM:∀z∈us.filter (fun z=>(hoM M z).isSome),z∈M.R.us/\(hoM M z).isSome=true:=fun z hz=>⟨ts.pu.mem_iff.mp (List.mem_filter.mp hz).1,(List.mem_filter.mp hz).2⟩
 have llM:∀z∈us.filter (fun z=>decide (z∉us.filter fun z=>(hoM M z).isSome)),z∈M.R.us/\hoM M z=none:=fun z hz=>by
  obtain⟨a1,a2⟩:=List.mem_filter.mp hz;refine⟨ts.pu.mem_iff.mp a1,?_⟩;cases e:hoM M z with
  | none=>rfl
  | some v=>exact absurd (List.mem_filter.mpr ⟨a1,by rw[e];rfl⟩) (of_decide_eq_true a2)
 have lh1:(us.filter fun z=>(hoM M z).isSome).length<=60:=Nat.le_trans (List.length_filter_le _ _) (by omega);have ll1:(us.filter (fun z=>decide (z∉us.filter fun z=>(hoM M z).isSome))).length<=60:=Nat.le_trans (List.length_filter_le _ _) (by omega);have row3:RowAt false H3 la.lu (us.map V.int):=sg3 _ _ (sS0 _ _ ts.u);generalize hhl:us.filter (fun z=>(hoM M z).isSome)=hl at *;walk
 refine comp_f (J:=ItB K false la.lu) (H1:=H3) (us.map V.int) (fun v=>match v with|.int z=>decide (z∉hl)|_=>false) (fun y=>y) (fun R' z=>?_) (it_row row3) ?_ ?_ (by rw[List.length_map,lu];omega) ?_
 ·walk;exact z
 ·intro y hy H4 R' S4 z;obtain⟨q,hq,rfl⟩:=List.mem_map.mp hy;walk;refine⟨lh,_,rfl,.inl (SqL.of (S4 _ _ eh)),rfl,all_flat,?_⟩;rw[if_pos rfl,inV_ints];walk;have e:=z H4 (Same.refl _);rw[show (!decide (q∈hl))=decide (q∉hl) by simp];exact e
 ·intro y hy _ H4 R' S4 z;walk;exact z H4 (Same.refl _)
 intro ll H4 fll S4 ell;rw[List.map_id',List.filter_map] at ell;change H4 ll=some (.lst ((us.filter fun z=>decide (z∉hl)).map V.int)) at ell;generalize hll:us.filter (fun z=>decide (z∉hl))=lo at *;have eh4:=S4 _ _ eh;have nl:ll≠p:=B3.ne fll;have K4:KB p H H4:=fun b o z n=>S4 _ _ (K3 b o z n);have B4:=B3.same S4;clear K2 K3 B2 B3 S3 S4 fll eh sg2 sg3 hs3 row3 hhl hll;walk
 refine⟨p,lh,nb+2,hl,rfl,B4,by omega,eh4,nh,by omega,fun pl H5 pn ps k5 B5=>?_⟩;have K5:KB p H H5:=fun b o z n=>k5 b o (K4 b o z n) n;have ell5:=k5 _ _ ell nl;walk;refine⟨p,ll,nb+3,lo,rfl,B5,by omega,ell5,nl,by omega,fun spt H6 qn qs k6 B6=>?_⟩;have K6:KB p H H6:=fun b o z n=>k6 b o (K5 b o z n) n;clear K4 K5 k5 k6 B4 B5 ell eh4 ell5;walk;refine newL fun l7 H7 f7 S7 e7=>?_
 replace e7:H7 l7=some (.lst (([0,0,1,2,60]:List Int).map V.int)):=e7;have n7:=B6.ne f7;walk;refine⟨p,5,nb+4,rfl,B6.same S7,by omega,by decide,by decide,fun r8 H8 d0 d1 B8 k8=>?_⟩;obtain⟨lv,hlv,elv⟩:=atI_ints (ns:=[0,0,1,2,60]) d0 d1;refine q_ixL (k8 _ _ e7 n7) elv ?_;have K8:KB p H H8:=fun b o z n=>k8 b o (S7 _ _ (K6 b o z n)) n
 have lvb:0<=lv/\lv<=60:=by
  simp only[List.mem_cons,List.not_mem_nil,or_false] at hlv;omega
 have sg8:=K8.same sg0 gp
 have une:us≠[]:=by
  obtain⟨q,_,hq⟩:=ok.tp;intro z;have:=ts.pu.mem_iff.mpr hq;rw[z] at this;cases this
 clear e7 S7 k8 B6 K6 hlv elv f7;walk;refine⟨p,st,la.lu,nb+5,us,_,_,_,_,_,_,_,rfl,B8,by omega,sg8 _ _ (sS0 _ _ ts.s),sg8 _ _ (sS0 _ _ ts.u),nop (sS0 _ _ ts.u),une,by omega,fun et hi rt H9 f9 k9 B9 e9 ed9=>?_⟩;have K9:KB p H H9:=fun b o z n=>k9 b o (K8 b o z n) n;have net:et≠p:=B8.ne f9;have fet:H et=none:=kb_back K8 f9 net;have het:h et=none:=sh.free fet;have get:uH gN gS et=none:=sg0.free fet
 have ed:EdgeOk M hi rt:=by
  rcases ed9 with z|⟨k',r',z1,z2,z3,z4⟩
  ·exact .inl z
  ·exact .inr ⟨k',r',z1,z2,z3,ts.pu.mem_iff.mp z4⟩
 have sh9:=K9.same sh hp;have sg9:=K9.same sg0 gp;have fin:∀a' h' g' M' H',Inv c a' h' g' x st M' H'->MOk (b+1) M'->Stb h (uH gN gS) h' g' p H9 H'->Q (.bl true) H':=fun a' h' g' M' H' i o s=>k a' h' g' M' H' i o (s.kb K9)
 have plM:∀z,pl=some z->z∈M.R.us/\(hoM M z).isSome=true:=fun z e=>by
  by_cases c0:hl=[]
  ·rw[pn c0] at e;cases e
  ·obtain⟨z',e',m'⟩:=ps c0;rw[e] at e';cases Option.some.inj e';exact hlM _ m'
 have spM:∀z,spt=some z->z∈M.R.us/\hoM M z=none:=fun z e=>by
  by_cases c0:lo=[]
  ·rw[qn c0] at e;cases e
  ·obtain⟨z',e',m'⟩:=qs c0;rw[e] at e';cases Option.some.inj e';exact llM _ m'
 have hx9:=sh9 _ _ t.x;have hs9:=sg9 _ _ (sS0 _ _ ts.s)
 have nodeOf:∀z∈M.R.us,∃(j:Nat) (n:ND) (pj k0 g0:Addr),z=(j:Int)/\M.ns[j]?=some n/\NOk b n/\nd[j]?=some pj/\gN pj=some (.lst (lN n k0 g0))/\gN k0=some (.lst (n.ks.map V.int))/\gN g0=some (.lst (n.gs.map V.int))/\hoM M z=n.ho:=fun z hz=>by
  obtain⟨j,n,rfl,hn,on,_⟩:=ok.at (.inl hz);obtain⟨pj,hpj⟩:=nth tn.l hn;obtain⟨k0,g0,n0,n1,n2⟩:=tn.e j pj n hpj hn;refine⟨j,n,pj,k0,g0,rfl,hn,on,hpj,n0,n1,n2,?_⟩;unfold hoM;rw[Int.toNat_natCast,hn];rfl
 have sN9:Same gN H9:=sN0.trans sg9;have sS9:Same gS H9:=sS0.trans sg9;clear K8 K9 B8 k9 sg8 k f9 fet ed9 pn ps qn qs hlM llM lh1 ll1;walk_at "o";change tSeq _ _ _ [some (.ref p),some (.ref x),some (.ref st),some (.int way),some (.int who),some (.ref lh),some (.ref ll),some (oV pl),some (oV spt),some (.int lv),some (.ref et),none,none,none,none,none,none] _
 refine s_seqG fun _ _=>s_ifG fun _ _ _ _=>r_andB (decide (way<2)) spt.isSome (fun R z=>?_) (fun R z=>?_) ?_
 ·walk;exact z
 ·walk;refine⟨rfl,?_⟩;rw[oV_non];walk;exact z
 by_cases c1:(decide (way<2)&&spt.isSome)=true
 ·rw[if_pos c1];rw[Bool.and_eq_true] at c1;obtain⟨z,rfl⟩:=Option.isSome_iff_exists.mp c1.2;obtain⟨hz,hz0⟩:=spM z rfl;obtain⟨j,n,pj,k0,g0,rfl,hn,on,hpj,n0,n1,n2,ho⟩:=nodeOf z hz;rw[hz0] at ho;have ewr:n.wr=false:=on.wr ho.symm;walk;refine k_dgetK (k:=Sum.inl (j:Int)) (sN9 _ _ tn.d) (pK_val hpj) ?_;walk;refine q_setL (j:=6) (sN9 _ _ n0) rfl ?_
  have el:(lN n k0 g0).set 6 (.int who)=lN { n with ho:=some who,wr:=false } k0 g0:=by
   show [V.int n.lv,.ref k0,.ref g0,oV n.hi,oV n.rt,.int n.ver,.int who,.bl n.gone,.bl n.wr]=_;rw[ewr];rfl
  rw[el];have cN:=Chg.mut (o:=.lst (lN { n with ho:=some who,wr:=false } k0 g0)) sN9 n0;have tn1:=tn.set (n':={ n with ho:=some who,wr:=false }) hpj hn n1 n2;have cU:=cN.uL ds sS9;have il1:IsL _ st { M with ns:=M.ns.set j { n with ho:=some who,wr:=false } }:=⟨_,gS,dn,nd,la,us,fs,tp,rfl,cN.dis ds sS9,tn1,ts,htp⟩;generalize upd H9 pj _=HA at *;have shA:=cU.keep d.symm sh9;have hxA:=shA _ _ t.x
  clear hx9;walk;refine⟨a,h,x,M,j,n,who,rfl,t,shA,ok.r,hn,hz,by omega,by omega,by omega,ho.symm,fun a' h' HB t' c'=>?_⟩;obtain⟨q1,q2,q3,q4⟩:=two1 d sh9 sg9 cU c';walk;refine⟨rfl,?_⟩;rw[decide_eq_true rfl]
  exact fin _ _ _ _ _ ⟨t',il1,q1,q2,q3⟩ (ok.setN hn ⟨on.lv,on.ks,on.gl,on.gs,on.hi,on.rt,⟨on.ver.1,by have:=on.ver.2;show n.ver<=((b+1:Nat):Int);omega⟩,fun z e=>by cases Option.some.inj e;omega,fun _=>rfl⟩ (Nat.le_succ b) rfl) (.of q4 (fun _ _ z _=>z) hp gp B9 (by omega))
 rw[if_neg c1];walk_at "o";refine s_next ?_;walk_at "o";refine s_seqG fun _ _=>s_ifG fun _ _ _ _=>r_andB (decide (way<4)) pl.isSome (fun R z=>?_) (fun R z=>?_) ?_
 ·walk;exact z
 ·walk;refine⟨rfl,?_⟩;rw[oV_non];walk;exact z
 by_cases c2:(decide (way<4)&&pl.isSome)=true
 ·rw[if_pos c2];rw[Bool.and_eq_true] at c2;obtain⟨z,rfl⟩:=Option.isSome_iff_exists.mp c2.2;obtain⟨hz,hz0⟩:=plM z rfl;obtain⟨j,n,pj,k0,g0,rfl,hn,on,hpj,n0,n1,n2,ho⟩:=nodeOf z hz;rw[ho] at hz0;obtain⟨w',hw⟩:=Option.isSome_iff_exists.mp hz0;have e0:=sN9 _ _ n0;have wb:=on.ho w' hw;walk;refine k_dgetK (k:=Sum.inl (j:Int)) (sN9 _ _ tn.d) (pK_val hpj) ?_;walk
  refine⟨p,n.lv,_,rfl,B9,by omega,fun tt lk lg ks gs HA f1 f2 f3 np k1 B1 ct=>?_⟩;have shA:=k1.same sh9 hp;have sgA:=k1.same sg9 gp;have heA:=k1.get e9 net;have hsA:=sgA _ _ (sS0 _ _ ts.s);have e0A:=sgA _ _ (sN0 _ _ n0);clear hx9 hs9 e0;walk;refine k_dgetK (k:=Sum.inl (j:Int)) (sgA _ _ (sN0 _ _ tn.d)) (pK_val hpj) ?_;walk
  refine⟨n.lv,tt,lk,lg,ks,gs,rfl,ct,on.lv.1,fun pg dx tk tg HB y1 y2 y3 S2 e1 e2 e3=>?_⟩;have sgB:=sgA.trans S2;obtain⟨h2,ch2,pg2,ext⟩:=Pg.add (cp:=c.pg) (lv:=n.lv) (ks:=ks) (gs:=gs) (Chg.same shA S2) y1 y2 y3 e1 e2 e3;have d2:=ch2.dis d sgA;have t2:IsT c a h2 x M:=t.same fun b o z=>ext b o z;have hxB:=ch2.sm _ _ t2.x;have heB:=S2 _ _ heA;have hsB:=S2 _ _ hsA;have e0B:=S2 _ _ e0A
  have out2:∀{b o},HA b=some o->h b=none->h2 b=none:=fun e n=>ch2.out n e;clear hsA e0A;walk;refine k_dgetK (k:=Sum.inl (j:Int)) (sgB _ _ (sN0 _ _ tn.d)) (pK_val hpj) ?_;walk;refine⟨a,h2,x,M,j,n,w',pg,ks,gs,hi,rt,(by rw[show (V.int w')=oV n.ho by rw[hw];rfl];rfl),t2,ch2.sm,ok.r,hn,hz,by omega,by omega,by omega,hw,pg2,ed,fun a3 h3 HC t3 c3=>?_⟩;have sgC:=c3.keep d2 sgB
  have o2:∀{b o},HA b=some o->h b=none->HC b=some o:=fun e n=>c3.get (out2 e n) (S2 _ _ e);have hn':∀{b},H9 b=none->h b=none:=fun f=>sh9.free f;have gn':∀{b},H9 b=none->uH gN gS b=none:=fun f=>sg9.free f;have heC:=o2 heA het;walk;refine⟨_,st,M,j,n,tt,lk,lg,et,ks,gs,hi,rt,rfl,il,sgC,hn,⟨o2 ct.t (hn' f1),o2 ct.k (hn' f2),o2 ct.g (hn' f3),ct.ok,ct.og,ct.gb⟩,heC,gn' f2,gn' f3,fun g4 HD il4 c4=>?_⟩
  have c13:=ch2.trans c3;obtain⟨q1,q2,q3,q4⟩:=two2 d shA sgA c13 c4;walk;refine⟨rfl,?_⟩;rw[decide_eq_true rfl];exact fin _ _ _ _ _ ⟨t3,il4,q1,q2,q3⟩ (ok.setN hn ((NOk.cont ok (by omega) ct ed on.lv.1 on.lv.2 on.ver (fun z e=>on.ho z e) fun e=>by rw[hw] at e;cases e).mono (Nat.le_succ b)) (Nat.le_succ b) rfl) (.of q4 k1 hp gp B1 (by omega))
 rw[if_neg c2];walk_at "o";refine s_next ?_;walk_at "o";refine s_seqG fun _ _=>s_ifG fun _ _ _ _=>r_andB (decide (V.int way=V.int 4)) pl.isSome (fun R z=>?_) (fun R z=>?_) ?_
 ·walk;exact z
 ·walk;refine⟨rfl,?_⟩;rw[oV_non];walk;exact z
 by_cases c3:(decide (V.int way=V.int 4)&&pl.isSome)=true
 ·rw[if_pos c3];rw[Bool.and_eq_true] at c3;obtain⟨z,rfl⟩:=Option.isSome_iff_exists.mp c3.2;obtain⟨hz,hz0⟩:=plM z rfl;obtain⟨j,n,pj,k0,g0,rfl,hn,on,hpj,n0,n1,n2,ho⟩:=nodeOf z hz;rw[ho] at hz0;obtain⟨w',hw⟩:=Option.isSome_iff_exists.mp hz0;have e0:=sN9 _ _ n0;have wb:=on.ho w' hw;walk;refine k_dgetK (k:=Sum.inl (j:Int)) (sN9 _ _ tn.d) (pK_val hpj) ?_;walk
  refine⟨a,h,x,M,j,n,w',(by rw[show (V.int w')=oV n.ho by rw[hw];rfl];rfl),t,sh9,ok.r,hn,hz,by omega,by omega,by omega,hw,fun a3 h3 HC t3 c3'=>?_⟩;have sgC:=c3'.keep d sg9;walk;refine⟨_,st,M,j,n,rfl,il,sgC,hn,fun g4 HD il4 c4=>?_⟩;obtain⟨q1,q2,q3,q4⟩:=two2 d sh9 sg9 c3' c4;walk;refine⟨rfl,?_⟩;rw[decide_eq_true rfl]
  refine fin _ _ _ _ _ ⟨t3,il4,q1,q2,q3⟩ (ok.setN hn ⟨on.lv,on.ks,on.gl,on.gs,on.hi,on.rt,?_,fun z e=>(by cases e),fun _=>rfl⟩ (Nat.le_succ b) rfl) (.of q4 (fun _ _ z _=>z) hp gp B9 (by omega));have v1:=on.ver.1;have v2:=on.ver.2;show 0<=n.ver+(if n.wr then 1 else 0)/\n.ver+(if n.wr then 1 else 0)<=((b+1:Nat):Int);split<;>omega
 rw[if_neg c3];walk_at "o";refine s_next ?_;walk_at "o";refine s_join (fun σ1 H1=>σ1=[some (.ref p),some (.ref x),some (.ref st),some (.int way),some (.int who),some (.ref lh),some (.ref ll),some (oV pl),some (oV spt),some (.int lv),some (.ref et),none,none,none,none,none,none]/\Same H9 H1) (fun N z=>?_) ?_
 ·refine s_if (r_and ?_);walk;refine ite2 (fun c4=>?_) (fun _=>?_)
  ·walk;refine newT fun lt HT ft St et'=>?_;walk;refine⟨lt,_,rfl,.inr (SqT.of et'),(by cases pl<;>rfl),rfl,?_⟩;rw[if_pos rfl];walk;have shT:=sh9.trans St;have sgT:=sg9.trans St;cases pl with
   | none=>
    refine iteE (c:=false) rfl (iteF ?_);walk;exact z _ _ ⟨rfl,St⟩
   | some zz=>
    have ein:inV (.int zz) [.non,.int tp]=decide (tp=zz):=by
     show (false||((tp==zz)||false))=_;by_cases q:tp=zz
     ·subst q;simp
     ·simp[q]
    by_cases c5:tp=zz
    ·refine iteE (c:=false) (by show (!inV (.int zz) [.non,.int tp])=false;rw[ein,decide_eq_true c5];rfl) (iteF ?_);walk;exact z _ _ ⟨rfl,St⟩
    ·refine iteE (c:=true) (by show (!inV (.int zz) [.non,.int tp])=true;rw[ein,decide_eq_false c5];rfl) (iteT ?_);obtain⟨hz,hz0⟩:=plM zz rfl;obtain⟨j,n,pj,k0,g0,rfl,hn,on,hpj,n0,n1,n2,ho⟩:=nodeOf zz hz;rw[ho] at hz0;obtain⟨w',hw⟩:=Option.isSome_iff_exists.mp hz0;have e0:=sgT _ _ (sN0 _ _ n0);have hxT:=shT _ _ t.x;have hsT:=St _ _ hs9;have wb:=on.ho w' hw;have lc:=ok.cs;clear hx9 hs9;walk
     refine k_dgetK (k:=Sum.inl (j:Int)) (sgT _ _ (sN0 _ _ tn.d)) (pK_val hpj) ?_;walk;refine⟨a,h,x,M,j,n,w',(by rw[show (V.int w')=oV n.ho by rw[hw];rfl];rfl),t,shT,ok.r,hn,hz,by omega,by omega,by omega,hw,by omega,by omega,⟨tp,htp,Ne.symm c5⟩,fun a3 h3 HC t3 c3'=>?_⟩;have sgC:=c3'.keep d sgT;walk;refine⟨_,st,M,j,n,rfl,il,sgC,hn,ok.r,hz,by omega,by omega,fun g4 HD il4 c4'=>?_⟩
     obtain⟨q1,q2,q3,q4⟩:=two2 d shT sgT c3' c4';walk;refine⟨rfl,?_⟩;rw[decide_eq_true rfl]
     exact fin _ _ _ _ _ ⟨t3,il4,q1,q2,q3⟩ (ok.gone hn hz ⟨on.lv,on.ks,on.gl,on.gs,on.hi,on.rt,⟨by have:=on.ver.1;show 0<=n.ver+1;omega,by have:=on.ver.2;show n.ver+1<=((b+1:Nat):Int);omega⟩,fun z e=>(by cases e),fun _=>rfl⟩ rfl ⟨tp,htp,Ne.symm c5⟩) (.of q4 (fun b o z _=>St _ _ z) hp gp (B9.same St) (by omega))
  ·walk;exact z _ _ ⟨rfl,Same.refl _⟩
 rintro σ1 H1 ⟨rfl,S1⟩;have sh1:=sh9.trans S1;have sg1:=sg9.trans S1;have B1:=B9.same S1;have e1:=S1 _ _ e9;have hx1:=S1 _ _ hx9;have hs1:=S1 _ _ hs9;have fin1:∀a' h' g' M' H',Inv c a' h' g' x st M' H'->MOk (b+1) M'->Stb h (uH gN gS) h' g' p H1 H'->Q (.bl true) H':=fun a' h' g' M' H' i o s=>fin a' h' g' M' H' i o (s.kb fun b o z _=>S1 _ _ z)
 have tpu:tp∈M.R.us:=by
  obtain⟨q,e,hq⟩:=ok.tp;rw[htp] at e;cases Option.some.inj e;exact hq
 have okb:∀v:Bool,Okd 100000 (.bool v):=fun v=>⟨rfl,rfl,by simp[PyData.depth],by simp[PyData.weight]⟩;clear fin sh9 sg9 B9 e9 hx9 hs9 S1 sN9 sS9 nodeOf plM spM c1 c2 c3;refine s_seqG fun _ _=>s_ifG fun _ _ _ _=>?_;walk;refine ite2 (fun c6=>?_) (fun c6=>?_)
 ·walk;refine newL fun l2 H2 f2 S2 e2=>?_;have hs2:=S2 _ _ hs1;walk;refine q_cat e2 (S2 _ _ (sg1 _ _ (sS0 _ _ ts.u))) (by rw[List.length_map];show 1+_<=_;omega) fun l3 f3=>?_;rw[show [V.int tp]++us.map V.int=(tp::us).map V.int from rfl];have S3:=Same.upd (o:=.lst ((tp::us).map V.int)) f3;have e3:upd H2 l3 (.lst ((tp::us).map V.int)) l3=some (.lst ((tp::us).map V.int)):=upd_same
  generalize upd H2 l3 _=H3 at *;have S13:=S2.trans S3;have B3:=B1.same S13;have n3:l3≠p:=(B1.same S2).ne f3;walk;refine⟨p,l3,_,tp::us,rfl,B3,by omega,e3,n3,by rw[List.length_cons];omega,fun old H4 _ os k4 B4=>?_⟩;obtain⟨o0,rfl,ho⟩:=os (fun z=>nomatch z);have K4:KB p H1 H4:=fun b o z n=>k4 b o (S13 _ _ z) n;have sg4:=K4.same sg1 gp;have hs4:=sg4 _ _ (sS0 _ _ ts.s);clear hs1 hs2 e2 e3 B1 B3;walk
  refine⟨p,la.lu,_,us,rfl,B4,by omega,sg4 _ _ (sS0 _ _ ts.u),nop (sS0 _ _ ts.u),by omega,fun new H5 _ nws k5 B5=>?_⟩;obtain⟨p0,rfl,hp0⟩:=nws une;have K5:KB p H1 H5:=fun b o z n=>k5 b o (K4 b o z n) n;have sh5:=K5.same sh1 hp;have sg5:=K5.same sg1 gp;have hs5:=sg5 _ _ (sS0 _ _ ts.s);have hx5:=sh5 _ _ t.x
  have ho':o0∈M.R.us:=by
   rcases List.mem_cons.mp ho with rfl|z
   ·exact tpu
   ·exact ts.pu.mem_iff.mp z
  have hp0':=ts.pu.mem_iff.mp hp0;clear hs4 hx1 K4 B4;walk;by_cases c7:o0=tp
  ·have edc:decide (oV (some o0)=V.int tp)=true:=decide_eq_true (congrArg V.int c7);rw[edc];refine iteT ?_;walk;refine k_dputS (kvs':=stK M.most p0 dn la.lu la.lk la.lf la.lc M.R.lap) hs5 st_lt sp_top ?_;have sN5:Same gN H5:=sN0.trans sg5;have sS5:Same gS H5:=sS0.trans sg5;have cS:=Chg.mut (o:=.dK (stK M.most p0 dn la.lu la.lk la.lf la.lc M.R.lap)) sS5 ts.s;have ts1:=ts.setTop p0
   have cU:=cS.uR ds sN5;have il1:IsL _ st { M with top:=some p0 }:=⟨gN,_,dn,nd,la,us,fs,p0,rfl,(cS.dis ds.symm sN5).symm,tn,ts1,rfl⟩;generalize upd H5 st _=H6 at *;have sh6:=cU.keep d.symm sh5;have hx6:=sh6 _ _ t.x;clear hx5 hs5;walk;refine⟨a,h,x,M,o0,p0,tp,rfl,t,sh6,ok.r,ho',hp0',htp,fun n=>absurd c7 n,fun _ h' H7 t7 c7'=>?_⟩;obtain⟨q1,q2,q3,q4⟩:=two1 d sh5 sg5 cU c7';walk
   obtain⟨shw,esh⟩:∃s,(PyData.bool true).shown=s:=⟨_,rfl⟩;refine⟨_,(fun _=>False),_,rfl,.bl true,okb true,?_⟩;rw[esh];walk;refine⟨_,(fun _=>False),_,rfl,.bl true,okb true,?_⟩;rw[esh];clear esh;walk;rw[decide_eq_true rfl];exact fin1 _ _ _ _ _ ⟨t7,il1,q1,q2,q3⟩ ((ok.lead hp0').mono (Nat.le_succ b)) (.of q4 K5 hp gp B5 (by omega))
  ·have edc:decide (oV (some o0)=V.int tp)=false:=decide_eq_false (fun z=>c7 (V.int.inj z));rw[edc];refine iteF ?_;walk;refine⟨a,h,x,M,o0,p0,tp,rfl,t,sh5,ok.r,ho',hp0',htp,fun _=>?_,fun e=>absurd e c7⟩;walk;obtain⟨shw,esh⟩:∃s,(PyData.bool false).shown=s:=⟨_,rfl⟩;refine⟨_,(fun _=>False),_,rfl,.bl false,okb false,?_⟩;rw[esh];walk;refine⟨_,(fun _=>False),_,rfl,.bl false,okb false,?_⟩;rw[esh]
   clear esh;walk;rw[decide_eq_true rfl];exact fin1 _ _ _ _ _ ⟨t,il,d,sh5,sg5⟩ (ok.mono (Nat.le_succ b)) (.of (fun q b' o' z n1 n2 n3=>⟨z,n1,n2⟩) K5 hp gp B5 (by omega))
 walk_at "o";refine s_next ?_;walk_at "o";walk;refine ite2 (fun c7=>?_) (fun c7=>?_)
 ·walk;exact⟨a,h,_,x,st,M,b,_,who,rfl,⟨t,il,d,sh1,sg1⟩,ok,b45,u0,by omega,fun a' h' g' M' H' i o s=>fin1 a' h' g' M' H' i o (.of s (fun _ _ z _=>z) hp gp B1 (by omega))⟩
 ·walk;exact⟨a,h,_,x,st,M,b,p,et,_,lv,hi,rt,rfl,⟨t,il,d,sh1,sg1⟩,ok,b45,B1,by omega,hp,gp,lvb.1,lvb.2,e1,het,get,net,ed,fin1⟩
inductive spErr (C:Addr)(fs:List Str)(vs:List V)(H:Hp)(Q:VK)(E:XK):Prop
 | mk (e:Addr)(us:List V):vs=.ref e::us->us.length=fs.length->H e=some (ExO C e none none none)->(∀(dx t:Addr) (H':Hp),H dx=none->H t=none->dx≠e->t≠e->dx≠t->H' e=some (ExO C e (some dx) (some t) none)->H' dx=some (XdO dx (fs.zip us))->(∀b,b≠e->b≠dx->b≠t->H' b=H b)->Q .non H')->spErr C fs vs H Q E
section
variable {P:Program}{w:World}{K:Frag}{mg:Str->Option Value}{base:Heap}{C TT fI:Addr}{fd:FuncData}
theorem ok_E1 {nm q st}(hs:∃i∈[4,5,6,7,8,13],st=inClass (top i) 0)(x:ErN K mg nm q st ["found"] C TT fI fd):FnOk P w K mg base CX0 1 fI fd ["self","found"] (spErr C ["found"]):=by
 obtain⟨i,hi,rfl⟩:=hs;simp only[List.mem_cons,List.not_mem_nil,or_false] at hi
 rcases hi with rfl|rfl|rfl|rfl|rfl|rfl<;>(
  refine x.fn.ok (N:=["self","found"]) ⟨rfl,rfl,rfl,by decide +kernel,rfl,by decide +kernel,by decide +kernel⟩ (fun vs H Q E h=>?_) (fun cdv A outer s H vs Q E hr h=>?_)
  ·obtain⟨_,_,rfl,l,_⟩:=h;exact congrArg (· + 1) l
  ·obtain⟨e,us,rfl,l,he,k⟩:=h;obtain⟨v,rfl⟩:=List.length_eq_one_iff.mp l;refine⟨_,(pss_cons (ps_expr (pe_baseInit x.f x.b rfl x.mT (pa_cons (pv 0) (pa_cons pe_str pa_nil)))) (pss_one (ps_exf x.f (pv 0) (pv 1) rfl))),?_⟩;refine⟨_,rfl,e,none,none,none,_,rfl,sz,he,fun t f1 f2=>?_⟩;refine⟨_,rfl,_,rfl,e,_,none,rfl,upd_same,x.no _ (.head _),fun dx h1 h2=>?_⟩;rw[upd_ne h2] at h1
   have h3:dx≠t:=(ne_of_none upd_same h1).symm;rw[upd_ne h3] at h1;refine k dx t _ h1 f1 h2 f2 h3 upd_same (by rw[upd_ne h2,upd_same];rfl) fun b hb1 hb2 hb3=>?_
   rw[upd_ne hb1,upd_ne hb2,upd_ne hb1,upd_ne hb3])
theorem ok_E2 (x:ErE K mg C TT fI fd):FnOk P w K mg base CX0 1 fI fd ["self","high","right"] (spErr C ["high","right"]):=by
 refine x.fn.ok (N:=["self","high","right"]) ⟨rfl,rfl,rfl,by decide +kernel,rfl,by decide +kernel,by decide +kernel⟩ (fun vs H Q E h=>?_) (fun cdv A outer s H vs Q E hr h=>?_)
 ·obtain⟨_,_,rfl,l,_⟩:=h;exact congrArg (· + 1) l
 ·obtain⟨e,us,rfl,l,he,k⟩:=h;obtain⟨v,v2,rfl⟩:∃v v2,us=[v,v2]:=match us,l with|[v,v2],_=>⟨v,v2,rfl⟩
  refine⟨_,(pss_cons (ps_expr (pe_baseInit x.f x.b rfl x.mT (pa_cons (pv 0) (pa_cons pe_str pa_nil)))) (pss_cons (ps_exf x.f (pv 0) (pv 1) rfl) (pss_one (ps_exf2 x.f (pv 0) (pv 2) rfl)))),?_⟩;refine⟨_,rfl,e,none,none,none,_,rfl,sz,he,fun t f1 f2=>?_⟩;refine⟨_,rfl,_,rfl,e,_,none,rfl,upd_same,x.no _ (.head _),fun dx h1 h2=>?_⟩;rw[upd_ne h2] at h1;have h3:dx≠t:=(ne_of_none upd_same h1).symm
  rw[upd_ne h3] at h1;refine⟨_,rfl,_,rfl,e,dx,_,_,_,rfl,upd_same,(by rw[upd_ne h2,upd_same]),(by show 1<1000;decide),x.no _ (.tail _ (.head _)),?_⟩;refine k dx t _ h1 f1 h2 f2 h3 (by rw[upd_ne (Ne.symm h2),upd_same]) (by rw[upd_same];rfl) fun b hb1 hb2 hb3=>?_;rw[upd_ne hb2,upd_ne hb1,upd_ne hb2,upd_ne hb1,upd_ne hb3]
def Err (C:Addr)(fs:List Str)(us:List V)(H:Hp)(e:Addr):Prop:=∃(dx:Addr) (ar:Option Addr) (b:Addr),Fly C e (some dx) ar (some b) H/\H dx=some (XdO dx (fs.zip us))/\dx≠e/\dx≠b
theorem raise_err {nm q}{fs:List Str}{st}(x:ErN K mg nm q st fs C TT fI fd){us:List V}{H:Hp}{E:XK}{ta:L2.TA}{σ:St}{D:Ends}(l:us.length=fs.length)(lz:us.length<=10)(hv:∀R:List V->Hp->Prop,R us H->ta σ H R)
  (q:∀e H',H e=none->Same H H'->Err C fs us H' e->E (.ref e) none H'):tRaise K E (tEx C (spErr C fs) ta) D σ H:=by
 delta tRaise tEx
 dsimp only;refine hv _ ?_;refine⟨(by rw[show sizeLine=16777216 by decide];omega),fun e he=>⟨e,us,rfl,l,upd_same,fun dx t H' h1 h2 h3 h4 h5 a1 a2 a3=>⟨rfl,C,e,some dx,some t,rfl,x.r,⟨a1,fun b z=>nomatch z⟩,fun b fb nb=>?_⟩⟩⟩;rw[upd_ne h3] at h1;rw[upd_ne h4] at h2;have hdb:dx≠b:=ne_of_none a2 fb;refine q e _ he (fun c o z=>?_) ⟨dx,some t,b,fly_past nb,?_,h3,hdb⟩
 ·have n1:c≠e:=ne_of_none z he;have n2:c≠dx:=ne_of_none z h1;have n3:c≠t:=ne_of_none z h2;have hc:H' c=some o:=by rw[a3 c n1 n2 n3,upd_ne n1];exact z
  have n4:c≠b:=ne_of_none hc fb;show upd (upd H' b _) e _ c=_;rw[upd_ne n1,upd_ne n4];exact hc
 ·show upd (upd H' b _) e _ dx=_;rw[upd_ne h3,upd_ne hdb];exact a2
end
theorem err_on {C fs us}{H0 H:Hp}{e}{E:XK}(he:H0 e=none)(S:Same H0 H)(r:Err C fs us H e)(q:∀H',Same H0 H'->Err C fs us H' e->E (.ref e) none H'):goOn E (.ref e) none H:=by
 obtain⟨dx,ar,b,fl,hdx,n1,n2⟩:=r;refine⟨C,e,some dx,ar,some b,rfl,fl,fun b2 f2 nb=>q _ (fun c o z=>?_) ⟨dx,ar,b2,fly_past nb,?_,n1,ne_of_none hdx f2⟩⟩
 ·have c1:c≠e:=ne_of_none z he;have c2:c≠b2:=ne_of_none (S _ _ z) f2;show upd (upd H b2 _) e _ c=_;rw[upd_ne c1,upd_ne c2];exact S _ _ z
 ·show upd (upd H b2 _) e _ dx=_;rw[upd_ne n1,upd_ne (ne_of_none hdx f2)];exact hdx
theorem caught_of {th:TH}{C}{fs:List Str}{us}{H H':Hp}{e}{D:Ends}{n:Nat}(he:H e=none)(S:Same H H')(r:Err C fs us H' e)
  (q:∀σ:St,σ.length=n->∀dx ar b H2,Same H H2->H2 e=some (ExO C e (some dx) ar (some b))->H2 dx=some (XdO dx (fs.zip us))->th C e (some dx) ar b D σ H2):caught n th D (.ref e) none H':=by
 obtain⟨dx,ar,b,fl,hdx,n1,n2⟩:=r;refine⟨C,e,some dx,ar,some b,rfl,fl,fun σ hσ b2 f2 nb2=>q σ hσ dx ar b2 _ (fun c o z=>?_) upd_same ?_⟩
 ·have c1:c≠e:=ne_of_none z he;have c2:c≠b2:=ne_of_none (S _ _ z) f2;show upd (upd H' b2 _) e _ c=_;rw[upd_ne c1,upd_ne c2];exact S _ _ z
 ·show upd (upd H' b2 _) e _ dx=_;rw[upd_ne n1,upd_ne (ne_of_none hdx f2)];exact hdx
def isI:V->Bool|.int _=>true|_=>false
def isB:V->Bool|.bl _=>true|_=>false
def whole (v:V)(lo hi:Int):Bool:=match v with|.int i=>inR lo hi i|_=>false
def keyV (v:V):Bool:=whole v (-999999999) 999999999
def cntV (v:V):Bool:=whole v 0 1000000
def placeV:V->Bool|.int i=>decide (0<=i)|_=>false
section
variable {K:Frag}{H:Hp}{v:V}{t:Value}
theorem kit_ref {C n}(hm:PySem.W.kitMeta n=true)(h:subIn K (.ref C) (.type n)=some false):kitOne K (.ref C) (.type n)=some false:=by
 unfold kitOne;rw[if_neg (by intro z;cases(beq_iff_eq.mp z))];show (if PySem.W.kitMeta n=true then _ else _)=_;rw[if_pos hm,h]
theorem inst_int (x:Thg K H v t):kitOne K t (.type "int")=some (isI v||isB v):=by
 cases x with
 | exc e d x=>exact kit_ref (by decide +kernel) x.ki
 | exn e x=>exact kit_ref (by decide +kernel) x.ki
 | _=>kernel_rfl
theorem inst_bool (x:Thg K H v t):kitOne K t (.type "bool")=some (isB v):=by
 cases x with
 | exc e d x=>exact kit_ref (by decide +kernel) x.kb
 | exn e x=>exact kit_ref (by decide +kernel) x.kb
 | _=>kernel_rfl
end
inductive spQ (K:Frag)(p:V->Bool)(vs:List V)(H:Hp)(Q:VK)(E:XK):Prop
 | mk (v:V)(t:Value):vs=[v]->Thg K H v t->Q (.bl (p v)) H->spQ K p vs H Q E
inductive spQW (K:Frag)(vs:List V)(H:Hp)(Q:VK)(E:XK):Prop
 | mk (v:V)(t:Value)(lo hi:Int):vs=[v,.int lo,.int hi]->Thg K H v t->Q (.bl (whole v lo hi)) H->spQW K vs H Q E
theorem ok_tN:Ok F F.r.d_is_number 1 (spQ K isI):=by
 refine F.r.d_is_number.go fun sc H Q hr h=>?_;obtain⟨v,t,rfl,x,k⟩:=h;refine⟨_,(pss_one (ps_ret (pe_and (pe_callB call_inst rfl F.r.T.n_isinstance bt_isinstance (pa2 (pv 0) (pe_bltn (v:=.ty "int") rfl F.r.T.n_int bt_int rfl))) (pe_one (pe_not (pe_callB call_inst rfl F.r.T.n_isinstance bt_isinstance (pa2 (pv 0) (pe_bltn (v:=.ty "bool") rfl F.r.T.n_bool bt_bool rfl)))))))),?_⟩;walk
 refine⟨_,_,_,_,rfl,x,.inl ⟨"int",rfl,inst_int x⟩,?_⟩;have i2:=inst_bool x;cases v with
 | int i=>
  walk;refine iteT ?_;walk;refine⟨_,_,_,_,rfl,x,.inl ⟨"bool",rfl,i2⟩,?_⟩;walk;exact k
 | bl b=>
  walk;refine iteT ?_;walk;refine⟨_,_,_,_,rfl,x,.inl ⟨"bool",rfl,i2⟩,?_⟩;walk;exact k
 | _=>
  walk;exact iteF k
theorem ok_tW:Ok F F.r.d_is_whole 2 (spQW K):=by
 refine F.r.d_is_whole.go fun sc H Q hr h=>?_;obtain⟨v,t,lo,hi,rfl,x,k⟩:=h;refine⟨_,(pss_one (ps_ret (pe_and (pe_d (ok_tN F) hr (pa1 (pv 0))) (pe_one (pe_chain op_le op_le (pv 1) (pv 0) (pv 2)))))),?_⟩;walk;refine⟨v,t,rfl,x,?_⟩;cases v with
 | int i=>
  walk;have k':Q (.bl (decide (lo<=i)&&decide (i<=hi))) H:=k;refine iteT ?_;walk;refine ite2 (fun c=>?_) (fun c=>?_)
  ·walk;rw[c,Bool.true_and] at k';exact k'
  ·rw[Bool.eq_false_iff.mpr c,Bool.false_and] at k';exact k'
 | _=>
  walk;exact iteF k
theorem ok_tK:Ok F F.r.d_is_key 3 (spQ K keyV):=by
 obtain⟨t_LEAST_KEY,c_LEAST_KEY⟩:=F.r.T.c_lo;obtain⟨t_GREATEST_KEY,c_GREATEST_KEY⟩:=F.r.T.c_hi;refine F.r.d_is_key.go fun sc H Q hr h=>?_;obtain⟨v,t,rfl,x,k⟩:=h;refine⟨_,(pss_one (ps_ret (pe_d (ok_tW F) hr (pa3 (pv 0) (pe_glob (v:=.int (-999999999)) rfl c_LEAST_KEY ⟨t_LEAST_KEY,rfl⟩) (pe_glob (v:=.int (999999999)) rfl c_GREATEST_KEY ⟨t_GREATEST_KEY,rfl⟩))))),?_⟩;exact⟨_,rfl,v,t,_,_,rfl,x,k⟩
theorem ok_tC:Ok F F.r.d_is_count 3 (spQ K cntV):=by
 obtain⟨t_GREATEST_COUNT,c_GREATEST_COUNT⟩:=F.r.T.c_cnt;refine F.r.d_is_count.go fun sc H Q hr h=>?_;obtain⟨v,t,rfl,x,k⟩:=h;refine⟨_,(pss_one (ps_ret (pe_d (ok_tW F) hr (pa3 (pv 0) pe_int (pe_glob (v:=.int (1000000)) rfl c_GREATEST_COUNT ⟨t_GREATEST_COUNT,rfl⟩))))),?_⟩;exact⟨_,rfl,v,t,_,_,rfl,x,k⟩
theorem ok_tD:Ok F F.r.d_is_doer 4 (spQ K cntV):=by
 refine F.r.d_is_doer.go fun sc H Q hr h=>?_;obtain⟨v,t,rfl,x,k⟩:=h;refine⟨_,(pss_one (ps_ret (pe_d (ok_tC F) hr (pa1 (pv 0))))),?_⟩;exact⟨_,rfl,v,t,rfl,x,k⟩
theorem ok_tP:Ok F F.r.d_is_place 2 (spQ K placeV):=by
 refine F.r.d_is_place.go fun sc H Q hr h=>?_;obtain⟨v,t,rfl,x,k⟩:=h;refine⟨_,(pss_one (ps_ret (pe_and (pe_d (ok_tN F) hr (pa1 (pv 0))) (pe_one (pe_cmpR op_ge (pv 0) pe_int (nomark _)))))),?_⟩;walk;refine⟨v,t,rfl,x,?_⟩;cases v with
 | int i=>
  walk;refine iteT ?_;walk;exact k
 | _=>
  walk;exact iteF k
def Out (E:XK)(C:Addr)(fs:List Str)(us:List V)(H:Hp):Prop:=∀e H',H e=none->Same H H'->Err C fs us H' e->E (.ref e) none H'
theorem Out.on {E C fs us}{H H1:Hp}(o:Out E C fs us H)(s:Same H H1):Out (goOn E) C fs us H1:=fun e H' he S r=>err_on (s.free he) (s.trans S) r fun H2 S2 r2=>o e H2 (s.free he) S2 r2
def usV (S:RS):V->Bool|.int i=>decide (i∈S.us)|_=>false
inductive spXU (K:Frag)(C:Addr)(vs:List V)(H:Hp)(Q:VK)(E:XK):Prop
 | mk (x dx du dk df dc:Addr)(S:RS)(v:V)(t:Value):vs=[.ref x,v]->IsR C x dx du dk df dc H S->S.Ok->Thg K H v t->Q (.bl (usV S v)) H->spXU K C vs H Q E
theorem ok_xisU:Mt F c.R F.r.R_is_used 3 (spXU K c.R):=by
 obtain⟨f,fd,R⟩:=F.RX;refine F.r.R_is_used.go R.m fun sc H Q hr h=>?_;obtain⟨x,dx,du,dk,df,dc,S,v,t,rfl,r,ok,g,q⟩:=h;refine⟨_,(pss_one (ps_ret (pe_and (pe_d (ok_tP F) hr (pa1 (pv 1))) (pe_one (pe_cmpR (op_inD (hu_of hr)) (pv 1) (pe_fld (pv 0) rfl) (by with_unfolding_all rfl)))))),?_⟩;refine⟨_,rfl,v,t,rfl,g,_,rfl,?_⟩;cases v with
 | int p=>
  show if decide (0<=p)=true then _ else _
  have q':Q (.bl (decide (p∈S.us))) H:=q;by_cases h0:0<=p
  ·refine iteE (c:=true) (decide_eq_true h0) (iteT ⟨_,rfl,_,rfl,x,c.R,dx,_,_,rfl,r.x,R.cl,R.n1,rfl,du,_,rfl,DGet.k (k:=Sum.inl p) r.u,?_⟩);rw[kT_val];exact q'
  ·refine iteE (c:=false) (decide_eq_false h0) (iteF ?_);have n:p∉S.us:=fun hm=>h0 (ok.rg p (by unfold RS.places;rw[List.append_assoc];exact List.mem_append_left _ hm)).1;rw[decide_eq_false n] at q';exact q'
 | _=>exact iteF q
inductive spXNU (K:Frag)(c:Cs)(cP:Addr)(vs:List V)(H:Hp)(Q:VK)(E:XK):Prop
 | mk (a:TA)(h:Hp)(x:Addr)(M:MS)(v:V)(t:Value):vs=[.ref x,v]->IsT c a h x M->Same h H->M.R.Ok->Thg K H v t->(usV M.R v=true->Q .non H)->(usV M.R v=false->Out E cP ["found"] [v] H)->spXNU K c cP vs H Q E
theorem ok_xneed_used:Mx F c.T F.r.T_need_used 4 (spXNU K c c.e.P):=by
 obtain⟨fP,fdP,xNoPlace⟩:=F.eP;obtain⟨f,fd,X⟩:=F.TX;have C_Rounds:=F.cR;have C_Tree:=X.cl;have GNoPlace:=ok_E1 (P:=P) (w:=w) (base:=base) ⟨5,by simp,rfl⟩ xNoPlace;refine F.r.T_need_used.gox X.m fun sc H Q E hr h=>?_;obtain⟨a,h,x,M,v,tv,rfl,t,s,ok,g,k1,k2⟩:=h;obtain⟨_,_,_,_,cl,n1,n2,n3,n4,n5⟩:=X;have hx:=s _ _ t.x;have hR:=t.r.same s;have hr0:=hR.x
 refine'⟨_,(pss_one (ps_if (pt_not (pt_val (pe_m (pe_fld (pv 0) rfl) C_Rounds (ok_xisU F) hr (pa1 (pv 1)))))
   (pss_one (ps_raise outs_def rfl (pe_exc xNoPlace.f GNoPlace (hr.mono (by decide)) rfl xNoPlace.mC xNoPlace.bi (pa1 (pv 1)))))
   pss_nil)),?_⟩
 walk;refine⟨a.r,a.dr,a.du,a.dk,a.df,a.dc,M.R,v,tv,rfl,hR,ok,g,?_⟩;cases z:usV M.R v with
 | true=>
  walk;exact k1 z
 | false=>
  walk;exact raise_err xNoPlace (us:=[v]) rfl (Nat.le_of_ble_eq_true rfl) (fun R r=>⟨_,rfl,r⟩) (k2 z)
def isNon:V->Bool|.non=>true|_=>false
def edV (S:RS)(v u:V):Bool:=(isNon v&&isNon u)||(keyV v&&usV S u)
inductive spXNE (K:Frag)(c:Cs)(cE:Addr)(vs:List V)(H:Hp)(Q:VK)(E:XK):Prop
 | mk (a:TA)(h:Hp)(x:Addr)(M:MS)(v u:V)(t t':Value):vs=[.ref x,v,u]->IsT c a h x M->Same h H->M.R.Ok->Thg K H v t->Thg K H u t'->(edV M.R v u=true->Q .non H)->(edV M.R v u=false->Out E cE ["high","right"] [v,u] H)->spXNE K c cE vs H Q E
theorem ok_xneed_edge:Mx F c.T F.r.T_need_edge 4 (spXNE K c c.e.E):=by
 obtain⟨fE,fdE,xNoEdge⟩:=F.eE;obtain⟨f,fd,X⟩:=F.TX;have C_Rounds:=F.cR;have C_Tree:=X.cl;have GNoEdge:=ok_E2 (P:=P) (w:=w) (base:=base) xNoEdge;refine F.r.T_need_edge.gox X.m fun sc H Q E hr h=>?_;obtain⟨a,h,x,M,v,u,tv,tu,rfl,t,s,ok,g,g',k1,k2⟩:=h;obtain⟨_,_,_,_,cl,n1,n2,n3,n4,n5⟩:=X;have hx:=s _ _ t.x;have hR:=t.r.same s;have hr0:=hR.x
 refine'⟨_,(pss_cons (ps_if (PW.pt (pw_and (pc op_isN (pv 1) pe_non) (pw_and1 (pc op_isN (pv 2) pe_non))))
   (pss_one ps_retN)
   pss_nil)
  (pss_one (ps_if (PW.pt (pw_or (pt_not (pt_val (pe_d (ok_tK F) hr (pa1 (pv 1))))) (pw_or1 (pt_not (pt_val (pe_m (pe_fld (pv 0) rfl) C_Rounds (ok_xisU F) hr (pa1 (pv 2))))))))
   (pss_one (ps_raise outs_def rfl (pe_exc xNoEdge.f GNoEdge (hr.mono (by decide)) rfl xNoEdge.mC xNoEdge.bi (pa2 (pv 1) (pv 2)))))
   pss_nil))),?_⟩
 walk
 have ef:¬(v=.non/\u=.non)->edV M.R v u=(keyV v&&usV M.R u):=fun n=>by
  unfold edV
  have:(isNon v&&isNon u)=false:=by
   cases v<;>cases u<;>first|rfl|exact absurd ⟨rfl,rfl⟩ n
  rw[this];rfl
 refine⟨rfl,?_⟩;walk;by_cases e1:v=.non
 ·refine iteD e1 ?_;walk;refine⟨rfl,?_⟩;walk;by_cases e2:u=.non
  ·refine iteD e2 ?_;walk;exact k1 (by rw[e1,e2];rfl)
  ·refine iteX e2 ?_;walk;refine⟨v,tv,rfl,g,?_⟩;cases z:keyV v with
   | false=>
    walk;exact raise_err xNoEdge (us:=[v,u]) rfl (Nat.le_of_ble_eq_true rfl) (fun R r=>⟨_,rfl,_,rfl,r⟩) (k2 (by rw[ef (fun q=>e2 q.2),z];rfl))
   | true=>
    walk;refine⟨a.r,a.dr,a.du,a.dk,a.df,a.dc,M.R,u,tu,rfl,hR,ok,g',?_⟩;cases z2:usV M.R u with
    | false=>
     walk;exact raise_err xNoEdge (us:=[v,u]) rfl (Nat.le_of_ble_eq_true rfl) (fun R r=>⟨_,rfl,_,rfl,r⟩) (k2 (by rw[ef (fun q=>e2 q.2),z,z2];rfl))
    | true=>
     walk;exact k1 (by rw[ef (fun q=>e2 q.2),z,z2];rfl)
 ·refine iteX e1 ?_;walk;refine⟨v,tv,rfl,g,?_⟩;cases z:keyV v with
  | false=>
   walk;exact raise_err xNoEdge (us:=[v,u]) rfl (Nat.le_of_ble_eq_true rfl) (fun R r=>⟨_,rfl,_,rfl,r⟩) (k2 (by rw[ef (fun q=>e1 q.1),z];rfl))
  | true=>
   walk;refine⟨a.r,a.dr,a.du,a.dk,a.df,a.dc,M.R,u,tu,rfl,hR,ok,g',?_⟩;cases z2:usV M.R u with
   | false=>
    walk;exact raise_err xNoEdge (us:=[v,u]) rfl (Nat.le_of_ble_eq_true rfl) (fun R r=>⟨_,rfl,_,rfl,r⟩) (k2 (by rw[ef (fun q=>e1 q.1),z,z2];rfl))
   | true=>
    walk;exact k1 (by rw[ef (fun q=>e1 q.1),z,z2];rfl)
def PT (K:Frag)(c:Cp)(H:Hp)(v:V)(bL bI:Bool):Prop:=∃t,Any1 K H v t/\kitOne K t (.ref c.cL)=some bL/\kitOne K t (.ref c.cI)=some bI
inductive spXNP (K:Frag)(c:Cs)(cG:Addr)(vs:List V)(H:Hp)(Q:VK)(E:XK):Prop
 | mk (lv:Int)(v:V)(bL bI:Bool):vs=[.int lv,v]->PT K c.pg H v bL bI->((if lv=0 then bL else bI)=true->Q .non H)->((if lv=0 then bL else bI)=false->Out E cG ["found"] [v] H)->spXNP K c cG vs H Q E
theorem ok_xneed_page:Ox F F.r.d_need_page 3 (spXNP K c c.e.G):=by
 obtain⟨fI,fd,xNoPage⟩:=F.eG;have KF:=F.KF;have MLeaf:=KF.mL;have MInner:=KF.mI;have GNoPage:=ok_E1 (P:=P) (w:=w) (base:=base) ⟨4,by simp,rfl⟩ xNoPage;refine F.r.d_need_page.gox fun sc H Q E hr h=>?_;obtain⟨lv,v,bL,bI,rfl,⟨tv,an,kL,kI⟩,k1,k2⟩:=h
 refine⟨_,(pss_cons (ps_v sc 2 (pe_ifExp (pc op_eq (pv 0) pe_int) (pe_callB call_instA rfl F.r.T.n_isinstance bt_isinstance (pa2 (pv 1) (pe_glob (v:=.ref c.pg.cL) rfl MLeaf rfl))) (pe_callB call_instA rfl F.r.T.n_isinstance bt_isinstance (pa2 (pv 1) (pe_glob (v:=.ref c.pg.cI) rfl MInner rfl)))))
  (pss_one (ps_if (pt_not (pt_val (pv 2)))
   (pss_one (ps_raise outs_def rfl (pe_exc xNoPage.f GNoPage (hr.mono (by decide)) rfl xNoPage.mC xNoPage.bi (pa1 (pv 1)))))
   pss_nil))),?_⟩
 refine seq2 (fun σ H1=>σ=[some (.int lv),some v,some (.bl (if lv=0 then bL else bI))]/\H=H1) ?s1 ?r1
 case s1=>
  intro N z;refine s_set ?_;walk;by_cases c0:lv=0
  ·subst c0;rw[decide_eq_true rfl];walk;exact⟨v,_,tv,bL,rfl,an,.inr (.inl ⟨_,rfl,kL⟩),z _ _ ⟨rfl,rfl⟩⟩
  ·rw[decide_eq_false (fun z=>c0 (V.int.inj z))];walk;exact⟨v,_,tv,bI,rfl,an,.inr (.inl ⟨_,rfl,kI⟩),z _ _ ⟨by rw[if_neg c0];rfl,rfl⟩⟩
 case r1=>
  rintro σ H1 ⟨rfl,rfl⟩;cases z:(if lv=0 then bL else bI) with
  | true=>
   walk;exact k1 z
  | false=>
   walk;exact raise_err xNoPage (us:=[v]) rfl (Nat.le_of_ble_eq_true rfl) (fun R r=>⟨_,rfl,r⟩) (k2 z)
abbrev OutR (E:XK)(x:Ec)(r:Rf)(H:Hp):Prop:=Out E (r.C x) r.fs r.us H
def lvV (v:V):Bool:=whole v 0 60
def moV (v:V):Bool:=whole v 2 5
def kpV (S:RS):V->Bool|.int i=>decide (i∈S.ks.map (·.1))|_=>false
def gnV (S:RS):V->Bool|.int i=>decide (i∈S.cs.map (·.1))|_=>false
theorem whole_int {u}{lo hi:Int}(h:whole u lo hi=true):∃i:Int,u=.int i/\lo<=i/\i<=hi:=by
 cases u with
 | int i=>
  have h':(decide (lo<=i)&&decide (i<=hi))=true:=h;rw[Bool.and_eq_true] at h';exact⟨i,rfl,of_decide_eq_true h'.1,of_decide_eq_true h'.2⟩
 | _=>exact absurd h (by show ¬(false=true);decide)
theorem ok_tM:Ok F F.r.d_is_most 3 (spQ K moV):=by
 obtain⟨t_LEAST_MOST,c_LEAST_MOST⟩:=F.r.T.c_lm;obtain⟨t_GREATEST_MOST,c_GREATEST_MOST⟩:=F.r.T.c_gm;refine F.r.d_is_most.go fun sc H Q hr h=>?_;obtain⟨v,t,rfl,x,k⟩:=h;refine⟨_,(pss_one (ps_ret (pe_d (ok_tW F) hr (pa3 (pv 0) (pe_glob (v:=.int (2)) rfl c_LEAST_MOST ⟨t_LEAST_MOST,rfl⟩) (pe_glob (v:=.int (5)) rfl c_GREATEST_MOST ⟨t_GREATEST_MOST,rfl⟩))))),?_⟩;exact⟨_,rfl,v,t,_,_,rfl,x,k⟩
theorem ok_tL:Ok F F.r.d_is_level 3 (spQ K lvV):=by
 obtain⟨t_GREATEST_LEVEL,c_GREATEST_LEVEL⟩:=F.r.T.c_lv;refine F.r.d_is_level.go fun sc H Q hr h=>?_;obtain⟨v,t,rfl,x,k⟩:=h;refine⟨_,(pss_one (ps_ret (pe_d (ok_tW F) hr (pa3 (pv 0) pe_int (pe_glob (v:=.int (60)) rfl c_GREATEST_LEVEL ⟨t_GREATEST_LEVEL,rfl⟩))))),?_⟩;exact⟨_,rfl,v,t,_,_,rfl,x,k⟩
inductive spN1 (K:Frag)(p:V->Bool)(C:Addr)(vs:List V)(H:Hp)(Q:VK)(E:XK):Prop
 | mk (v:V)(t:Value):vs=[v]->Thg K H v t->(p v=true->Q .non H)->(p v=false->Out E C ["found"] [v] H)->spN1 K p C vs H Q E
theorem ok_xneed_most:Ox F F.r.d_need_most 4 (spN1 K moV c.e.M):=by
 obtain⟨fI,fd,xNoMost⟩:=F.eM;have GNoMost:=ok_E1 (P:=P) (w:=w) (base:=base) (by simp) xNoMost;refine F.r.d_need_most.gox fun sc H Q E hr h=>?_;obtain⟨v,t,rfl,x,k1,k2⟩:=h
 refine⟨_,(pss_one (ps_if (pt_not (pt_val (pe_d (ok_tM F) hr (pa1 (pv 0)))))
   (pss_one (ps_raise outs_def rfl (pe_exc xNoMost.f GNoMost (hr.mono (by decide)) rfl xNoMost.mC xNoMost.bi (pa1 (pv 0)))))
   pss_nil)),?_⟩
 walk;refine⟨v,t,rfl,x,?_⟩;cases c:moV v with
 | true=>
  walk;exact k1 c
 | false=>
  walk;exact raise_err xNoMost (us:=[v]) rfl (Nat.le_of_ble_eq_true rfl) (fun R r=>⟨_,rfl,r⟩) (k2 c)
theorem ok_xneed_level:Ox F F.r.d_need_level 4 (spN1 K lvV c.e.L):=by
 obtain⟨fI,fd,xNoLevel⟩:=F.eL;have GNoLevel:=ok_E1 (P:=P) (w:=w) (base:=base) (by simp) xNoLevel;refine F.r.d_need_level.gox fun sc H Q E hr h=>?_;obtain⟨v,t,rfl,x,k1,k2⟩:=h
 refine⟨_,(pss_one (ps_if (pt_not (pt_val (pe_d (ok_tL F) hr (pa1 (pv 0)))))
   (pss_one (ps_raise outs_def rfl (pe_exc xNoLevel.f GNoLevel (hr.mono (by decide)) rfl xNoLevel.mC xNoLevel.bi (pa1 (pv 0)))))
   pss_nil)),?_⟩
 walk;refine⟨v,t,rfl,x,?_⟩;cases c:lvV v with
 | true=>
  walk;exact k1 c
 | false=>
  walk;exact raise_err xNoLevel (us:=[v]) rfl (Nat.le_of_ble_eq_true rfl) (fun R r=>⟨_,rfl,r⟩) (k2 c)
theorem ok_xisK:Mt F c.R F.r.R_is_kept 3 (fun vs H Q _=>∃x dx du dk df dc S v t,vs=[.ref x,v]/\IsR c.R x dx du dk df dc H S/\S.Ok/\Thg K H v t/\Q (.bl (kpV S v)) H):=by
 obtain⟨f,fd,R⟩:=F.RX;refine F.r.R_is_kept.go R.m fun sc H Q hr h=>?_;obtain⟨x,dx,du,dk,df,dc,S,v,t,rfl,r,ok,g,q⟩:=h;refine⟨_,(pss_one (ps_ret (pe_and (pe_d (ok_tP F) hr (pa1 (pv 1))) (pe_one (pe_cmpR (op_inD (hu_of hr)) (pv 1) (pe_fld (pv 0) rfl) (by with_unfolding_all rfl)))))),?_⟩;refine⟨_,rfl,v,t,rfl,g,_,rfl,?_⟩;cases v with
 | int p=>
  show if decide (0<=p)=true then _ else _
  have q':Q (.bl (decide (p∈S.ks.map (·.1)))) H:=q;by_cases h0:0<=p
  ·refine iteE (c:=true) (decide_eq_true h0) (iteT ⟨_,rfl,_,rfl,x,c.R,dx,_,_,rfl,r.x,R.cl,R.n2,rfl,dk,_,rfl,DGet.k (k:=Sum.inl p) r.k,?_⟩);rw[kL_val];exact q'
  ·refine iteE (c:=false) (decide_eq_false h0) (iteF ?_);have n:p∉S.ks.map (·.1):=fun hm=>h0 (ok.rg p (by unfold RS.places;exact List.mem_append_left _ (List.mem_append_right _ hm))).1;rw[decide_eq_false n] at q';exact q'
 | _=>exact iteF q
def rfEnter (S:RS)(v:V):Option Rf:=if cntV v=false then some (.doer v) else if gnV S v=true then some (.twice v) else none
def rfLeave (S:RS)(v:V):Option Rf:=if cntV v=false\/gnV S v=false then some (.doer v) else none
inductive spXR (K:Frag)(C:Addr)(ec:Ec)(rf:RS->V->Option Rf)(vs:List V)(H:Hp)(Q:VK)(E:XK):Prop
 | mk (x dx du dk df dc:Addr)(S:RS)(v:V)(t:Value)(r:Rf):vs=[.ref x,v]->IsR C x dx du dk df dc H S->Thg K H v t->rf S v=some r->OutR E ec r H->spXR K C ec rf vs H Q E
theorem ok_xenter:Mx F c.R F.r.R_enter 6 (spXR K c.R c.e rfEnter):=by
 obtain⟨fD,fdD,xNoDoer⟩:=F.eD;obtain⟨fW,fdW,xTwice⟩:=F.eW;obtain⟨f,fd,R⟩:=F.RX;have C_Rounds:=R.cl;have GNoDoer:=ok_E1 (P:=P) (w:=w) (base:=base) (by simp) xNoDoer;have GTwice:=ok_E1 (P:=P) (w:=w) (base:=base) (by simp) xTwice;refine F.r.R_enter.gox R.m fun sc H Q E hr h=>?_;obtain⟨x,dx,du,dk,df,dc,S,v,t,r,rfl,hR,g,hf,k⟩:=h;have hr0:=hR.x;have hn4:=R.n4
 refine'⟨_,(pss_cons (ps_if (pt_not (pt_val (pe_d (ok_tD F) hr (pa1 (pv 1)))))
   (pss_one (ps_raise outs_def rfl (pe_exc xNoDoer.f GNoDoer (hr.mono (by decide)) rfl xNoDoer.mC xNoDoer.bi (pa1 (pv 1)))))
   pss_nil)
  (pss_cons (ps_if (pt_cmpR (op_inD (hu_of hr)) (pv 1) (pe_fld (pv 0) rfl) (by with_unfolding_all rfl))
   (pss_one (ps_raise outs_def rfl (pe_exc xTwice.f GTwice (hr.mono (by decide)) rfl xTwice.mC xTwice.bi (pa1 (pv 1)))))
   pss_nil)
  (pss_one (ps_dput (hu_of hr) (pe_fld (pv 0) rfl) (pv 1) (pe_fld (pv 0) rfl) rfl)))),?_⟩
 walk;refine⟨v,t,rfl,g,?_⟩;unfold rfEnter at hf;cases z:cntV v with
 | false=>
  rw[if_pos z] at hf;cases hf;walk;exact raise_err xNoDoer (us:=[v]) rfl (Nat.le_of_ble_eq_true rfl) (fun R r=>⟨_,rfl,r⟩) k
 | true=>
  rw[if_neg (by rw[z];decide)] at hf;obtain⟨i,rfl,b0,b1⟩:=whole_int z;by_cases z2:gnV S (.int i)=true
  ·rw[if_pos z2] at hf;cases hf;walk;refine⟨dc,_,rfl,DGet.k (k:=Sum.inl i) hR.c,?_⟩;rw[kL_val,decide_eq_true (of_decide_eq_true z2)];walk;exact raise_err xTwice (us:=[.int i]) rfl (Nat.le_of_ble_eq_true rfl) (fun R r=>⟨_,rfl,r⟩) k
  ·rw[if_neg z2] at hf;cases hf
theorem ok_xleave:Mx F c.R F.r.R_leave 6 (spXR K c.R c.e rfLeave):=by
 obtain⟨fD,fdD,xNoDoer⟩:=F.eD;obtain⟨f,fd,R⟩:=F.RX;have C_Rounds:=R.cl;have GNoDoer:=ok_E1 (P:=P) (w:=w) (base:=base) (by simp) xNoDoer;refine F.r.R_leave.gox R.m fun sc H Q E hr h=>?_;obtain⟨x,dx,du,dk,df,dc,S,v,t,r,rfl,hR,g,hf,k⟩:=h;have hr0:=hR.x;have hn4:=R.n4
 refine'⟨_,(pss_cons (ps_if (PW.pt (pw_or (pt_not (pt_val (pe_d (ok_tD F) hr (pa1 (pv 1))))) (pw_or1 (pt_cmpR (op_notInD (hu_of hr)) (pv 1) (pe_fld (pv 0) rfl) (by with_unfolding_all rfl)))))
   (pss_one (ps_raise outs_def rfl (pe_exc xNoDoer.f GNoDoer (hr.mono (by decide)) rfl xNoDoer.mC xNoDoer.bi (pa1 (pv 1)))))
   pss_nil)
  (pss_cons (ps_expr (pe_dpop1 (pe_fld (pv 0) rfl) (pv 1) ⟨rfl,rfl,rfl,rfl⟩))
  (pss_one (ps_expr (pe_m0 (pv 0) C_Rounds (ok_rel F) hr))))),?_⟩
 walk;refine⟨v,t,rfl,g,?_⟩;unfold rfLeave at hf;cases z:cntV v with
 | false=>
  rw[if_pos (.inl z)] at hf;cases hf;walk;exact raise_err xNoDoer (us:=[v]) rfl (Nat.le_of_ble_eq_true rfl) (fun R r=>⟨_,rfl,r⟩) k
 | true=>
  obtain⟨i,rfl,b0,b1⟩:=whole_int z;cases z2:gnV S (.int i) with
  | false=>
   rw[if_pos (.inr z2)] at hf;cases hf;walk;refine⟨dc,_,rfl,DGet.k (k:=Sum.inl i) hR.c,?_⟩;rw[kL_val,decide_eq_false (of_decide_eq_false z2)];walk;exact raise_err xNoDoer (us:=[.int i]) rfl (Nat.le_of_ble_eq_true rfl) (fun R r=>⟨_,rfl,r⟩) k
  | true=>
   rw[if_neg (by rw[z,z2];decide)] at hf;cases hf
def rfTold (S:RS)(v:V):Option Rf:=if usV S v=false/\kpV S v=false then some (.place v) else none
def rfLead (S:RS)(v u:V):Option Rf:=if usV S v=false then some (.place v) else if usV S u=false then some (.place u) else none
inductive spX1 (K:Frag)(c:Cs)(ec:Ec)(rf:RS->V->Option Rf)(vs:List V)(H:Hp)(Q:VK)(E:XK):Prop
 | mk (a:TA)(h:Hp)(x:Addr)(M:MS)(v:V)(t:Value)(r:Rf):vs=[.ref x,v]->IsT c a h x M->Same h H->M.R.Ok->Thg K H v t->rf M.R v=some r->OutR E ec r H->spX1 K c ec rf vs H Q E
inductive spXL (K:Frag)(c:Cs)(ec:Ec)(vs:List V)(H:Hp)(Q:VK)(E:XK):Prop
 | mk (a:TA)(h:Hp)(x:Addr)(M:MS)(v u:V)(t t':Value)(r:Rf):vs=[.ref x,v,u]->IsT c a h x M->Same h H->M.R.Ok->Thg K H v t->Thg K H u t'->rfLead M.R v u=some r->OutR E ec r H->spXL K c ec vs H Q E
theorem ok_xT_enter:Mx F c.T F.r.T_enter 7 (spX1 K c c.e rfEnter):=by
 obtain⟨f,fd,X⟩:=F.TX;have C_Rounds:=F.cR;have C_Tree:=X.cl;refine F.r.T_enter.gox X.m fun sc H Q E hr h=>?_;obtain⟨a,h,x,M,v,tv,r,rfl,t,s,ok,g,hf,k⟩:=h;obtain⟨_,_,_,_,cl,n1,n2,n3,n4,n5⟩:=X;have hx:=s _ _ t.x;have hR:=t.r.same s;have hr0:=hR.x;refine'⟨_,(pss_one (ps_expr (pe_mX (pe_fld (pv 0) rfl) C_Rounds (ok_xenter F) outs_def hr (pa1 (pv 1))))),?_⟩;walk
 exact⟨a.r,a.dr,a.du,a.dk,a.df,a.dc,M.R,v,tv,r,rfl,hR,g,hf,k.on (.refl _)⟩
theorem ok_xT_leave:Mx F c.T F.r.T_leave 7 (spX1 K c c.e rfLeave):=by
 obtain⟨f,fd,X⟩:=F.TX;have C_Rounds:=F.cR;have C_Tree:=X.cl;refine F.r.T_leave.gox X.m fun sc H Q E hr h=>?_;obtain⟨a,h,x,M,v,tv,r,rfl,t,s,ok,g,hf,k⟩:=h;obtain⟨_,_,_,_,cl,n1,n2,n3,n4,n5⟩:=X;have hx:=s _ _ t.x;have hR:=t.r.same s;have hr0:=hR.x;refine'⟨_,(pss_one (ps_expr (pe_mX (pe_fld (pv 0) rfl) C_Rounds (ok_xleave F) outs_def hr (pa1 (pv 1))))),?_⟩;walk
 exact⟨a.r,a.dr,a.du,a.dk,a.df,a.dc,M.R,v,tv,r,rfl,hR,g,hf,k.on (.refl _)⟩
theorem ok_xnode_in:Mx F c.T F.r.T_node_in 4 (spX1 K c c.e rfTold):=by
 obtain⟨fP,fdP,xNoPlace⟩:=F.eP;obtain⟨f,fd,X⟩:=F.TX;have C_Rounds:=F.cR;have C_Tree:=X.cl;have GNoPlace:=ok_E1 (P:=P) (w:=w) (base:=base) (by simp) xNoPlace;refine F.r.T_node_in.gox X.m fun sc H Q E hr h=>?_;obtain⟨a,h,x,M,v,tv,r,rfl,t,s,ok,g,hf,k⟩:=h;obtain⟨_,_,_,_,cl,n1,n2,n3,n4,n5⟩:=X;have hx:=s _ _ t.x;have hR:=t.r.same s;have hr0:=hR.x;unfold rfTold at hf
 refine'⟨_,(pss_cons (ps_if (PW.pt (pw_and (pt_not (pt_val (pe_m (pe_fld (pv 0) rfl) C_Rounds (ok_xisU F) hr (pa1 (pv 1))))) (pw_and1 (pt_not (pt_val (pe_m (pe_fld (pv 0) rfl) C_Rounds (ok_xisK F) hr (pa1 (pv 1))))))))
   (pss_one (ps_raise outs_def rfl (pe_exc xNoPlace.f GNoPlace (hr.mono (by decide)) rfl xNoPlace.mC xNoPlace.bi (pa1 (pv 1)))))
   pss_nil)
  (pss_one (ps_ret (pe_dget (hu_of hr) (pe_fld (pv 0) rfl) (pv 1) (fun _ _=>rfl))))),?_⟩
 by_cases z:usV M.R v=false/\kpV M.R v=false
 ·rw[if_pos z] at hf;cases hf;walk;refine⟨a.r,a.dr,a.du,a.dk,a.df,a.dc,M.R,v,tv,rfl,hR,ok,g,?_⟩;rw[z.1];walk;refine⟨a.r,a.dr,a.du,a.dk,a.df,a.dc,M.R,v,tv,rfl,hR,ok,g,?_⟩;rw[z.2];walk;exact raise_err xNoPlace (us:=[v]) rfl (Nat.le_of_ble_eq_true rfl) (fun R r=>⟨_,rfl,r⟩) k
 ·rw[if_neg z] at hf;cases hf
theorem ok_xT_page:Mx F c.T F.r.T_page 5 (spX1 K c c.e rfTold):=by
 obtain⟨fN,fdN,XN⟩:=F.NX;obtain⟨f,fd,X⟩:=F.TX;have C_Rounds:=F.cR;have C_Node:=XN.cl;obtain⟨_,_,_,_,clN,m1,m2,m3,m4,m5,m6⟩:=XN;have C_Tree:=X.cl;refine F.r.T_page.gox X.m fun sc H Q E hr h=>?_;obtain⟨a,h,x,M,v,tv,r,rfl,t,s,ok,g,hf,k⟩:=h;obtain⟨_,_,_,_,cl,n1,n2,n3,n4,n5⟩:=X;have hx:=s _ _ t.x
 refine'⟨_,(pss_one (ps_ret (pe_fld (pe_mX (pv 0) C_Tree (ok_xnode_in F) outs_def hr (pa1 (pv 1))) rfl))),?_⟩;walk;exact⟨a,h,x,M,v,tv,r,rfl,t,s,ok,g,hf,k.on (.refl _)⟩
theorem ok_xT_node:Mx F c.T F.r.T_node 5 (spX1 K c c.e rfTold):=by
 obtain⟨fN,fdN,XN⟩:=F.NX;obtain⟨f,fd,X⟩:=F.TX;have C_Rounds:=F.cR;obtain⟨fK,fdK,MP_all_keys,GP_all_keys,BP_all_keys⟩:=bk F;obtain⟨fG,fdG,MP_goods,GP_goods,BP_goods⟩:=bg F;have C_Node:=XN.cl;obtain⟨_,_,_,_,clN,m1,m2,m3,m4,m5,m6⟩:=XN;have C_Tree:=X.cl;refine F.r.T_node.gox X.m fun sc H Q E hr h=>?_;obtain⟨a,h,x,M,v,tv,r,rfl,t,s,ok,g,hf,k⟩:=h;obtain⟨_,_,_,_,cl,n1,n2,n3,n4,n5⟩:=X;have hx:=s _ _ t.x
 refine'⟨_,(pss_cons (ps_v sc 2 (pe_mX (pv 0) C_Tree (ok_xnode_in F) outs_def hr (pa1 (pv 1))))
  (pss_cons (ps_v sc 3 (pe_methP0 (pe_fld (pv 2) rfl) MP_all_keys GP_all_keys (hr.mono (by decide)) BP_all_keys .nil pass0))
  (pss_cons (ps_v sc 4 (pe_methP0 (pe_fld (pv 2) rfl) MP_goods GP_goods (hr.mono (by decide)) BP_goods .nil pass0))
  (pss_cons (ps_v sc 5 (pe_m (pv 0) C_Tree (ok_T_is_gone F) hr (pa1 (pv 1))))
  (pss_one (ps_ret (pe_tup (pa_c (pe_fld (pv 2) rfl) (pa_c (pv 3) (pa_c (pv 4) (pa_c (pe_fld (pv 2) rfl) (pa_c (pe_fld (pv 2) rfl) (pa_c (pe_dget (hu_of hr) (pe_fld (pv 0) rfl) (pv 1) (fun _ _=>rfl)) (pa_c (pe_fld (pv 2) rfl) (pa_c (pv 5) pa_nil))))))))))))))),?_⟩
 walk;exact⟨a,h,x,M,v,tv,r,rfl,t,s,ok,g,hf,k.on (.refl _)⟩
theorem ok_xT_lead:Mx F c.T F.r.T_lead 5 (spXL K c c.e):=by
 obtain⟨f,fd,X⟩:=F.TX;have C_Rounds:=F.cR;have C_Tree:=X.cl;refine F.r.T_lead.gox X.m fun sc H Q E hr h=>?_;obtain⟨a,h,x,M,v,u,tv,tu,r,rfl,t,s,ok,g,g',hf,k⟩:=h;obtain⟨_,_,_,_,cl,n1,n2,n3,n4,n5⟩:=X;have hx:=s _ _ t.x;unfold rfLead at hf
 refine'⟨_,(pss_cons (ps_expr (pe_mX (pv 0) C_Tree (ok_xneed_used F) outs_def hr (pa1 (pv 1))))
  (pss_cons (ps_expr (pe_mX (pv 0) C_Tree (ok_xneed_used F) outs_def hr (pa1 (pv 2))))
  (pss_cons (ps_if (pc op_ne (pv 1) (pe_fld (pv 0) rfl))
   (pss_one (ps_ret pe_bl))
   pss_nil)
  (pss_cons (ps_fld (pv 0) (pv 2) rfl)
  (pss_one (ps_ret pe_bl)))))),?_⟩
 walk;refine⟨a,h,x,M,v,tv,rfl,t,s,ok,g,fun z=>?_,fun z=>?_⟩
 case refine_2=>
  rw[if_pos z] at hf;cases hf;exact k.on (.refl _)
 rw[if_neg (by rw[z];decide)] at hf;walk;refine⟨a,h,x,M,u,tu,rfl,t,s,ok,g',fun z2=>?_,fun z2=>?_⟩
 case refine_2=>
  rw[if_pos z2] at hf;cases hf;exact k.on (.refl _)
 rw[if_neg (by rw[z2];decide)] at hf;cases hf
theorem ok_lwhole:Ok F F.r.d__law_whole 1 (spQW K):=by
 refine F.r.d__law_whole.go fun sc H Q hr h=>?_;obtain⟨v,t,lo,hi,rfl,x,k⟩:=h
 refine⟨_,(pss_one (ps_ret (pe_and (pe_callB call_inst rfl F.r.T.n_isinstance bt_isinstance (pa2 (pv 0) (pe_bltn (v:=.ty "int") rfl F.r.T.n_int bt_int rfl))) (pe_and (pe_not (pe_callB call_inst rfl F.r.T.n_isinstance bt_isinstance (pa2 (pv 0) (pe_bltn (v:=.ty "bool") rfl F.r.T.n_bool bt_bool rfl)))) (pe_one (pe_chain op_le op_le (pv 1) (pv 0) (pv 2))))))),?_⟩;walk
 refine⟨_,_,_,_,rfl,x,.inl ⟨"int",rfl,inst_int x⟩,?_⟩;have i2:=inst_bool x;cases v with
 | int i=>
  walk;refine iteT ?_;walk;refine⟨_,_,_,_,rfl,x,.inl ⟨"bool",rfl,i2⟩,?_⟩;walk;refine iteT ?_;walk;have k':Q (.bl (decide (lo<=i)&&decide (i<=hi))) H:=k;refine ite2 (fun c=>?_) (fun c=>?_)
  ·walk;rw[c,Bool.true_and] at k';exact k'
  ·rw[Bool.eq_false_iff.mpr c,Bool.false_and] at k';exact k'
 | bl b=>
  walk;refine iteT ?_;walk;refine⟨_,_,_,_,rfl,x,.inl ⟨"bool",rfl,i2⟩,?_⟩;walk;exact iteF k
 | _=>
  walk;exact iteF k
inductive spLIP (K:Frag)(vs:List V)(H:Hp)(Q:VK)(E:XK):Prop
 | mk (g:Hp)(st:Addr)(M:MS)(v:V)(t:Value):vs=[.ref st,v]->IsL g st M->Same g H->M.R.Ok->M.R.places.length<=500->Thg K H v t->Q (.bl (usV M.R v)) H->spLIP K vs H Q E
theorem ok_lis_place:Ok F F.r.d__law_is_place 2 (spLIP K):=by
 refine F.r.d__law_is_place.go fun sc H Q hr h=>?_;obtain⟨g,st,M,v,t,rfl,il,s,ok,few,x,k⟩:=h;obtain⟨gN,gS,dn,nd,a,us,fs,tp,rfl,ds,ln,ls,ht⟩:=il;have sS:Same (gS) H:=(uH_sr ds).trans s;have hs:=sS _ _ ls.s;refine⟨_,(pss_one (ps_ret (pe_and (pe_d (ok_lwhole F) hr (pa3 (pv 1) pe_int (pe_op op_pow pe_int pe_int))) (pe_one (pe_cmpR op_in_seq (pv 1) (pe_gs hr (pv 0)) (by with_unfolding_all rfl)))))),?_⟩
 walk;refine⟨v,t,_,_,rfl,x,?_⟩;cases v with
 | int i=>
  walk;have k':Q (.bl (decide (i∈M.R.us))) H:=k;refine ite2 (fun z=>?_) (fun z=>?_)
  ·walk;refine⟨_,_,rfl,.inl (.inl (.inl (sS _ _ ls.u))),rfl,all_flat,?_⟩;rw[if_neg Bool.false_ne_true,inV_ints,decide_eq_decide.mpr ls.pu.mem_iff];exact k'
  ·have n:i∉M.R.us:=fun hm=>z (by
    have b:=ok.rg i (by unfold RS.places;rw[List.append_assoc];exact List.mem_append_left _ hm)
    exact inR_t b.1 (Int.le_trans (Int.le_of_lt b.2) (by have:=few;show _<=(1000000:Int);omega)))
   rw[decide_eq_false n] at k';exact k'
 | _=>
  walk;exact iteF k
def Rf.due:Rf->List V|.place v=>[.str "place",v]|.doer v=>[.str "doer",v]|.page v=>[.str "page",v]|.edge v u=>[.str "edge",v,u]|.level v=>[.str "level",v]|.most v=>[.str "most",v]|.twice v=>[.str "twice",v]
def DueQ (Q:VK)(H:Hp)(r:Option Rf):Prop:=(r=none->∀H',Same H H'->Q .non H')/\∀x,r=some x->∀l H',H l=none->Same H H'->H' l=some (.lst x.due)->Q (.ref l) H'
theorem DueQ.no {Q}{H:Hp}{r:Option Rf}(k:DueQ Q H r)(e:r=none):Q .non H:=k.1 e H (.refl _)
theorem DueQ.mono {Q}{H H1:Hp}{r:Option Rf}(k:DueQ Q H r)(s:Same H H1):DueQ Q H1 r:=⟨fun e H' S=>k.1 e H' (s.trans S),fun x e l H' f S=>k.2 x e l H' (s.free f) (s.trans S)⟩
theorem DueQ.yes {Q}{H:Hp}{r:Option Rf}{x:Rf}{vs}(k:DueQ Q H r)(e:r=some x)(ed:x.due=vs){l}(f:H l=none):Q (.ref l) (upd H l (.lst vs)):=k.2 x e l _ f (Same.upd f) (by rw[upd_same,ed])
def rfEdge (M:MS)(v u:V):Option Rf:=if edV M.R v u=false then some (.edge v u) else none
theorem ed_of {M:MS}{v u}(n:¬(v=.non/\u=.non)):edV M.R v u=(keyV v&&usV M.R u):=by
 unfold edV
 have:(isNon v&&isNon u)=false:=by
  cases v<;>cases u<;>first|rfl|exact absurd ⟨rfl,rfl⟩ n
 rw[this];rfl
inductive spLED (K:Frag)(vs:List V)(H:Hp)(Q:VK)(E:XK):Prop
 | mk (g:Hp)(st:Addr)(M:MS)(v u:V)(t t':Value):vs=[.ref st,v,u]->IsL g st M->Same g H->M.R.Ok->M.R.places.length<=500->Thg K H v t->Thg K H u t'->DueQ Q H (rfEdge M v u)->spLED K vs H Q E
theorem ok_ledge_due:Ok F F.r.d__law_edge_due 3 (spLED K):=by
 refine F.r.d__law_edge_due.go fun sc H Q hr h=>?_;obtain⟨g,st,M,v,u,t,t',rfl,il,s,ok,few,x,x',k⟩:=h
 refine⟨_,(pss_cons (ps_if (PW.pt (pw_and (pc op_isN (pv 1) pe_non) (pw_and1 (pc op_isN (pv 2) pe_non))))
   (pss_one (ps_ret pe_non))
   pss_nil)
  (pss_cons (ps_if (PW.pt (pw_and (pt_val (pe_d (ok_lwhole F) hr (pa3 (pv 1) (pe_un un_neg pe_int) pe_int))) (pw_and1 (pt_val (pe_d (ok_lis_place F) hr (pa2 (pv 0) (pv 2)))))))
   (pss_one (ps_ret pe_non))
   pss_nil)
  (pss_one (ps_ret (pe_lst (pa3 pe_str (pv 1) (pv 2))))))),?_⟩
 walk;refine⟨rfl,?_⟩;walk;have no:edV M.R v u=true->Q .non H:=fun z=>k.no (by unfold rfEdge;rw[if_neg (by rw[z];decide)]);have yes:edV M.R v u=false->∀l,H l=none->Q (.ref l) (upd H l (.lst [.str "edge",v,u])):=fun z l f=>k.yes (x:=.edge v u) (by unfold rfEdge;rw[if_pos z]) rfl f;by_cases e1:v=.non
 ·refine iteD e1 ?_;walk;refine⟨rfl,?_⟩;walk;by_cases e2:u=.non
  ·refine iteD e2 ?_;walk;exact no (by rw[e1,e2];rfl)
  ·refine iteX e2 ?_;have ef:=ed_of (M:=M) (v:=v) (u:=u) (fun q=>e2 q.2);walk;refine⟨v,t,_,_,rfl,x,?_⟩;rw[show whole v (-999999999) 999999999=false by rw[e1];rfl];walk;exact⟨sz,fun l f=>yes (by rw[ef,e1];rfl) l f⟩
 ·refine iteX e1 ?_;have ef:=ed_of (M:=M) (v:=v) (u:=u) (fun q=>e1 q.1);walk;refine⟨v,t,_,_,rfl,x,?_⟩;cases z:keyV v with
  | false=>
   rw[show whole v (-999999999) 999999999=false from z];walk;exact⟨sz,fun l f=>yes (by rw[ef,z];rfl) l f⟩
  | true=>
   rw[show whole v (-999999999) 999999999=true from z];walk;refine⟨g,st,M,u,t',rfl,il,s,ok,few,x',?_⟩;cases z2:usV M.R u with
   | false=>
    walk;exact⟨sz,fun l f=>yes (by rw[ef,z,z2];rfl) l f⟩
   | true=>
    walk;exact no (by rw[ef,z,z2];rfl)
def rfPg (M:MS)(lv:Int)(bL bI:Bool)(pg hi rt:V):Option Rf:=if (if lv=0 then bL else bI)=false then some (.page pg) else rfEdge M hi rt
inductive spLPD (K:Frag)(c:Cs)(vs:List V)(H:Hp)(Q:VK)(E:XK):Prop
 | mk (g:Hp)(st:Addr)(M:MS)(lv:Int)(pg v u:V)(t t':Value)(bL bI:Bool):vs=[.int lv,pg,v,u,.ref st]->0<=lv->IsL g st M->Same g H->M.R.Ok->M.R.places.length<=500->Thg K H v t->Thg K H u t'->PT K c.pg H pg bL bI->DueQ Q H (rfPg M lv bL bI pg v u)->spLPD K c vs H Q E
theorem ok_lpage_due:Ok F F.r.d__law_page_due 4 (spLPD K c):=by
 have KF:=F.KF;have MLeaf:=KF.mL;have MInner:=KF.mI;refine F.r.d__law_page_due.go fun sc H Q hr h=>?_;obtain⟨g,st,M,lv,pg,v,u,t,t',bL,bI,rfl,l0,il,s,ok,few,x,x',⟨tp,an,kL,kI⟩,k⟩:=h
 refine⟨_,(pss_cons (ps_if (PW.pt (pw_or (PW.pt (pw_and (pc op_eq (pv 0) pe_int) (pw_and1 (pt_not (pt_val (pe_callB call_instA rfl F.r.T.n_isinstance bt_isinstance (pa2 (pv 1) (pe_glob (v:=.ref c.pg.cL) rfl MLeaf rfl)))))))) (pw_or1 (PW.pt (pw_and (pc op_gt (pv 0) pe_int) (pw_and1 (pt_not (pt_val (pe_callB call_instA rfl F.r.T.n_isinstance bt_isinstance (pa2 (pv 1) (pe_glob (v:=.ref c.pg.cI) rfl MInner rfl)))))))))))
   (pss_one (ps_ret (pe_lst (pa2 pe_str (pv 1)))))
   pss_nil)
  (pss_one (ps_ret (pe_d (ok_ledge_due F) hr (pa3 (pv 4) (pv 2) (pv 3)))))),?_⟩
 walk;by_cases c0:lv=0
 ·subst c0;refine iteD rfl ?_;walk;refine⟨pg,_,tp,bL,rfl,an,.inr (.inl ⟨_,rfl,kL⟩),?_⟩;cases bL with
  | false=>
   walk;exact⟨sz,fun l f=>k.yes (x:=.page pg) rfl rfl f⟩
  | true=>
   walk;refine iteX (by decide) ?_;walk;exact⟨g,st,M,v,u,t,t',rfl,il,s,ok,few,x,x',k⟩
 ·refine iteX (fun z=>c0 (V.int.inj z)) ?_;have e0:(if lv=0 then bL else bI)=bI:=if_neg c0;unfold rfPg at k;rw[e0] at k;walk;refine iteD (by omega) ?_;walk;refine⟨pg,_,tp,bI,rfl,an,.inr (.inl ⟨_,rfl,kI⟩),?_⟩;cases bI with
  | false=>
   walk;exact⟨sz,fun l f=>k.yes (x:=.page pg) rfl rfl f⟩
  | true=>
   walk;refine⟨g,st,M,v,u,t,t',rfl,il,s,ok,few,x,x',k⟩
def intV:V->Int|.int i=>i|_=>0
def rfMade (M:MS)(v:V)(bL bI:Bool)(pg hi rt:V):Option Rf:=if lvV v=false then some (.level v) else rfPg M (intV v) bL bI pg hi rt
inductive spXM (K:Frag)(c:Cs)(ec:Ec)(vs:List V)(H:Hp)(Q:VK)(E:XK):Prop
 | mk (a:TA)(h:Hp)(x:Addr)(M:MS)(v pg hi rt:V)(tv th tr:Value)(bL bI:Bool)(r:Rf):vs=[.ref x,v,pg,hi,rt]->IsT c a h x M->Same h H->M.R.Ok->Thg K H v tv->Thg K H hi th->Thg K H rt tr->PT K c.pg H pg bL bI->rfMade M v bL bI pg hi rt=some r->OutR E ec r H->spXM K c ec vs H Q E
theorem ok_xT_made:Mx F c.T F.r.T_made 8 (spXM K c c.e):=by
 obtain⟨fN,fdN,XNode⟩:=F.NX;obtain⟨f,fd,X⟩:=F.TX;have C_Rounds:=F.cR;have T:=F.r.T;have GNode:FnOk P w K mg base CX0 1 fN fdN ["self","level","bears","high","right"] (spNode c.N):=ok_node XNode T;have C_Tree:=X.cl;refine F.r.T_made.gox X.m fun sc H Q E hr h=>?_;obtain⟨a,h,x,M,v,pg,hi,rt,tv,th,tr,bL,bI,r,rfl,t,s,ok,g,gh,gr,gp,hf,k⟩:=h;obtain⟨_,_,_,_,cl,n1,n2,n3,n4,n5⟩:=X;have hx:=s _ _ t.x
 unfold rfMade at hf
 refine'⟨_,(pss_cons (ps_expr (pe_dX (ok_xneed_level F) outs_def hr (pa1 (pv 1))))
  (pss_cons (ps_expr (pe_dX (ok_xneed_page F) outs_def hr (pa2 (pv 1) (pv 2))))
  (pss_cons (ps_expr (pe_mX (pv 0) C_Tree (ok_xneed_edge F) outs_def hr (pa2 (pv 3) (pv 4))))
  (pss_cons (ps_v sc 5 (pe_m0 (pe_fld (pv 0) rfl) C_Rounds (ok_given F) hr))
  (pss_cons (ps_dput (hu_of hr) (pe_fld (pv 0) rfl) (pv 5) (pe_make XNode.mak GNode (hr.mono (by decide)) rfl XNode.m XNode.bi .nil pass0 (pa4 (pv 1) (pv 2) (pv 3) (pv 4))) rfl)
  (pss_cons (ps_expr (pe_dset (pe_fld (pv 0) rfl) (pv 5) pe_int ⟨rfl,rfl,rfl,rfl⟩))
  (pss_one (ps_ret (pv 5))))))))),?_⟩
 walk;refine⟨v,tv,rfl,g,fun z=>?_,fun z=>?_⟩
 case refine_2=>
  rw[if_pos z] at hf;cases hf;exact k.on (.refl _)
 rw[if_neg (by rw[z];decide)] at hf;obtain⟨lv,rfl,b0,b1⟩:=whole_int z;replace hf:rfPg M lv bL bI pg hi rt=some r:=hf;unfold rfPg at hf;walk;refine⟨lv,pg,bL,bI,rfl,gp,fun z2=>?_,fun z2=>?_⟩
 case refine_2=>
  rw[if_pos z2] at hf;cases hf;exact k.on (.refl _)
 rw[if_neg (by rw[z2];decide)] at hf;unfold rfEdge at hf;walk;refine⟨a,h,x,M,hi,rt,th,tr,rfl,t,s,ok,gh,gr,fun z3=>?_,fun z3=>?_⟩
 case refine_2=>
  rw[if_pos z3] at hf;cases hf;exact k.on (.refl _)
 rw[if_neg (by rw[z3];decide)] at hf;cases hf
theorem PT.keep {K c}{H H':Hp}{v bL bI}(x:PT K c H v bL bI)(S:Same H H'):PT K c H' v bL bI:=by
 obtain⟨t,an,r⟩:=x;refine⟨t,?_,r⟩;rcases an with g|⟨a,C,dx,fs,e,ea,i,et⟩
 ·exact .inl (g.keep S)
 ·exact .inr ⟨a,C,dx,fs,e,S _ _ ea,i,et⟩
def rfMost (v:V):Option Rf:=if moV v=false then some (.most v) else none
inductive Ths (K:Frag)(c:Cs)(H:Hp)(M:MS):Int->List V->Option Rf->Prop
 | made (v pg hi rt:V) (tv th tr:Value) (bL bI:Bool):Thg K H v tv->Thg K H hi th->Thg K H rt tr->PT K c.pg H pg bL bI->Ths K c H M 0 [v,pg,hi,rt] (rfMade M v bL bI pg hi rt)
 | lead (v u:V) (tv tu:Value):Thg K H v tv->Thg K H u tu->Ths K c H M 1 [v,u] (rfLead M.R v u)
 | enter (v:V) (tv:Value):Thg K H v tv->Ths K c H M 2 [v] (rfEnter M.R v)
 | leave (v:V) (tv:Value):Thg K H v tv->Ths K c H M 3 [v] (rfLeave M.R v)
 | node (v:V) (tv:Value):Thg K H v tv->Ths K c H M 4 [v] (rfTold M.R v)
 | page (v:V) (tv:Value):Thg K H v tv->Ths K c H M 5 [v] (rfTold M.R v)
 | most (v:V) (tv:Value):Thg K H v tv->Ths K c H M 6 [v] (rfMost v)
theorem Ths.one {K c}{H:Hp}{M:MS}{d:Int}{us}{r:Option Rf}(x:Ths K c H M d us r)(h:2<=d):∃v tv,us=[v]/\Thg K H v tv/\(d=2/\r=rfEnter M.R v\/d=3/\r=rfLeave M.R v\/(3<d/\d<6)/\r=rfTold M.R v\/d=6/\r=rfMost v):=by
 cases x with
 | made=>exact absurd h (by decide)
 | lead=>exact absurd h (by decide)
 | enter v tv g=>exact⟨v,tv,rfl,g,.inl ⟨rfl,rfl⟩⟩
 | leave v tv g=>exact⟨v,tv,rfl,g,.inr (.inl ⟨rfl,rfl⟩)⟩
 | node v tv g=>exact⟨v,tv,rfl,g,.inr (.inr (.inl ⟨by decide,rfl⟩))⟩
 | page v tv g=>exact⟨v,tv,rfl,g,.inr (.inr (.inl ⟨by decide,rfl⟩))⟩
 | most v tv g=>exact⟨v,tv,rfl,g,.inr (.inr (.inr ⟨rfl,rfl⟩))⟩
inductive spDue (K:Frag)(c:Cs)(vs:List V)(H:Hp)(Q:VK)(E:XK):Prop
 | mk (g:Hp)(st:Addr)(M:MS)(d:Int)(l:Addr)(us:List V)(r:Option Rf):vs=[.ref st,.int d,.ref l]->IsL g st M->Same g H->M.R.Ok->M.R.places.length<=500->M.R.cs.length<=500->H l=some (.lst us)->Ths K c H M d us r->DueQ Q H r->spDue K c vs H Q E
theorem ok_ldue:Ok F F.r.d__law_due 5 (spDue K c):=by
 refine F.r.d__law_due.go fun sc H Q hr h=>?_;obtain⟨g,st,M,d,l,us,r,rfl,il,s,ok,few,fewc,hl,ths,k⟩:=h;have hu:=hr.units0;have il0:=il;obtain⟨gN,gS,dn,nd,a,uu,fs,tp,rfl,ds,ln,ls,ht⟩:=il;have sS:Same gS H:=(uH_sr ds).trans s;have hs:=sS _ _ ls.s
 have fewp:M.R.us.length+M.R.ks.length+M.R.fs.length<=500:=by
  have h:=few;unfold RS.places at h;rw[List.length_append,List.length_append,List.length_map] at h;exact h
 have fewk:M.R.ks.length<=500:=by omega
 have fewu:M.R.us.length<=500:=by omega
 refine'⟨_,(pss_cons (ps_if (pc op_eq (pv 1) pe_int)
   (pss_cons (ps_if (pt_not (pt_val (pe_d (ok_lwhole F) hr (pa3 (pix ix_list (pv 2) pe_int) pe_int pe_int))))
   (pss_one (ps_ret (pe_lst (pa2 pe_str (pix ix_list (pv 2) pe_int)))))
   pss_nil)
  (pss_one (ps_ret (pe_d (ok_lpage_due F) hr (pa5 (pix ix_list (pv 2) pe_int) (pix ix_list (pv 2) pe_int) (pix ix_list (pv 2) pe_int) (pix ix_list (pv 2) pe_int) (pv 0))))))
   pss_nil)
  (pss_cons (ps_if (pc op_eq (pv 1) pe_int)
   (pss_cons (ps_setComp (i:=3) (blk_mk ["_law_state_here"] [0]) rfl (pi_list (pv 2)) (fun _ _ _ _ _=>(PTs.one (pt_not (pt_val (pe_d (ok_lis_place F) hr (pa2 (pv 1) (pv 0))))))) (fun _ _ _ _ _=>(pv 0)) sc.nd rfl rfl)
  (pss_one (ps_ret (pe_ifExp (pc (op_neL hu) (pv 3) (pe_lst pa_nil)) (pe_lst (pa2 pe_str (pix ix_list (pv 3) pe_int))) pe_non))))
   pss_nil)
  (pss_cons (ps_setComp22 (i:=4) (blk_mk [] []) rfl (pi_list (pe_gs hr (pv 0))) (fun _ _ _ _ _=>PTs.nil) (fun _ _ _ _ _=>(pv 0)) sc.nd rfl rfl)
  (pss_cons (ps_v sc 5 (pe_and (pe_d (ok_lwhole F) hr (pa3 (pix ix_list (pv 2) pe_int) pe_int (pe_op op_pow pe_int pe_int))) (pe_one (pe_cmpR op_in_seq (pix ix_list (pv 2) pe_int) (pv 4) (by with_unfolding_all rfl)))))
  (pss_cons (ps_if (pc op_eq (pv 1) pe_int)
   (pss_cons (ps_if (pt_not (pt_val (pe_d (ok_lwhole F) hr (pa3 (pix ix_list (pv 2) pe_int) pe_int (pe_op op_pow pe_int pe_int)))))
   (pss_one (ps_ret (pe_lst (pa2 pe_str (pix ix_list (pv 2) pe_int)))))
   pss_nil)
  (pss_one (ps_ret (pe_ifExp (pt_val (pv 5)) (pe_lst (pa2 pe_str (pix ix_list (pv 2) pe_int))) pe_non))))
   pss_nil)
  (pss_cons (ps_if (pc op_eq (pv 1) pe_int)
   (pss_one (ps_ret (pe_ifExp (pt_val (pv 5)) pe_non (pe_lst (pa2 pe_str (pix ix_list (pv 2) pe_int))))))
   pss_nil)
  (pss_cons (ps_if (pc op_lt (pv 1) pe_int)
   (pss_cons (ps_v sc 6 (pe_op op_cat (pe_gs hr (pv 0)) (pe_comp2 (blk_mk [] []) rfl (pi_list (pe_gs hr (pv 0))) (fun _ _ _ _ _=>PTs.nil) (fun _ _ _ _ _=>(pv 0)))))
  (pss_one (ps_ret (pe_ifExp (PW.pt (pw_and (pt_val (pe_d (ok_lwhole F) hr (pa3 (pix ix_list (pv 2) pe_int) pe_int (pe_op op_pow pe_int pe_int)))) (pw_and1 (pt_cmpR op_in_seq (pix ix_list (pv 2) pe_int) (pv 6) (by with_unfolding_all rfl))))) pe_non (pe_lst (pa2 pe_str (pix ix_list (pv 2) pe_int)))))))
   pss_nil)
  (pss_one (ps_ret (pe_ifExp (pt_val (pe_d (ok_lwhole F) hr (pa3 (pix ix_list (pv 2) pe_int) pe_int pe_int))) pe_non (pe_lst (pa2 pe_str (pix ix_list (pv 2) pe_int))))))))))))),?_⟩
 walk;by_cases one:2<=d
 ·obtain⟨v,tv,rfl,g1,dr⟩:=ths.one one;refine iteX (fun q=>by have:=V.int.inj q;omega) ?_;walk;refine iteX (fun q=>by have:=V.int.inj q;omega) ?_;walk
  refine comp_list (l:=a.lc) (ts:=a.tc) (ps:=M.R.cs) (fun R' z=>?_) (sS _ _ ls.c) (ls.tc.keep fun b xs z=>sS _ _ z) (by omega) (fun _=>true) (fun c=>.int c.1) (fun c _ H2 R' _ z=>z H2 (Same.refl _)) (fun c _ _ H2 R' _ z=>⟨_,rfl,z H2 (Same.refl _)⟩) fun ll H1 fll S1 ell=>?_
  ·walk;exact z
  rw[filt_all,show (M.R.cs.map fun c=>V.int c.1)=(M.R.cs.map (·.1)).map V.int by rw[List.map_map];rfl] at ell;have hl1:=S1 _ _ hl;have hs1:=S1 _ _ hs;have g2:=g1.keep S1;have k1:=k.mono S1;clear hl hs;have e10:(10:Int) ^ Int.toNat 6=1000000:=by decide
  walk_at "o";refine seq2 (fun σ H2=>σ=[some (.ref st),some (.int d),some (.ref l),none,some (.ref ll),some (.bl (cntV v&&gnV M.R v)),none]/\H1=H2) ?s1 ?r1
  case s1=>
   intro N z;walk;refine⟨v,tv,_,_,rfl,g2,?_⟩;rw[e10];cases zc:cntV v with
   | false=>
    rw[show whole v 0 1000000=false from zc];walk;exact z _ _ ⟨by rw[zc];rfl,rfl⟩
   | true=>
    rw[show whole v 0 1000000=true from zc];obtain⟨i,rfl,b0,b1⟩:=whole_int zc;walk;refine⟨ll,_,rfl,.inl (SqL.of ell),rfl,all_flat,?_⟩;rw[if_neg Bool.false_ne_true,inV_ints];exact z _ _ ⟨by rw[zc];rfl,rfl⟩
  case r1=>
  rintro σ H2 ⟨rfl,rfl⟩;generalize hb:(cntV v&&gnV M.R v)=b;walk;rcases dr with⟨rfl,rfl⟩|⟨rfl,rfl⟩|⟨dd,rfl⟩|⟨rfl,rfl⟩
  ·refine iteD rfl ?_;walk;refine⟨v,tv,_,_,rfl,g2,?_⟩;rw[e10];unfold rfEnter at k1;cases zc:cntV v with
   | false=>
    rw[if_pos zc] at k1;rw[show whole v 0 1000000=false from zc];walk;exact⟨sz,fun l f=>k1.yes (x:=.doer v) rfl rfl f⟩
   | true=>
    rw[if_neg (by rw[zc];decide)] at k1;rw[show whole v 0 1000000=true from zc];walk;rw[zc,Bool.true_and] at hb;cases zg:gnV M.R v with
    | true=>
     rw[if_pos zg] at k1;obtain rfl:true=b:=zg.symm.trans hb;walk;exact⟨sz,fun l f=>k1.yes (x:=.twice v) rfl rfl f⟩
    | false=>
     rw[if_neg (by rw[zg];decide)] at k1;obtain rfl:false=b:=zg.symm.trans hb;walk;exact k1.no rfl
  ·refine iteX (by decide) ?_;walk;refine iteD rfl ?_;walk;unfold rfLeave at k1;cases zc:cntV v with
   | false=>
    rw[if_pos (.inl zc)] at k1;rw[zc,Bool.false_and] at hb;subst hb;walk;exact⟨sz,fun l f=>k1.yes (x:=.doer v) rfl rfl f⟩
   | true=>
    rw[zc,Bool.true_and] at hb;cases zg:gnV M.R v with
    | true=>
     obtain rfl:true=b:=zg.symm.trans hb;rw[if_neg (by rw[zc,zg];decide)] at k1;walk;exact k1.no rfl
    | false=>
     rw[if_pos (.inr zg)] at k1;obtain rfl:false=b:=zg.symm.trans hb;walk;exact⟨sz,fun l f=>k1.yes (x:=.doer v) rfl rfl f⟩
  ·refine iteX (fun q=>by have:=V.int.inj q;omega) ?_;walk;refine iteX (fun q=>by have:=V.int.inj q;omega) ?_;walk;refine iteD dd.2 ?_;walk
   refine comp_list (l:=a.lk) (ts:=a.tk) (ps:=M.R.ks) (fun R' z=>?_) (S1 _ _ (sS _ _ ls.k)) (ls.tk.keep fun b xs z=>S1 _ _ (sS _ _ z)) (by have:=fewk;omega) (fun _=>true) (fun c=>.int c.1) (fun c _ H2 R' _ z=>z H2 (Same.refl _)) (fun c _ _ H2 R' _ z=>⟨_,rfl,z H2 (Same.refl _)⟩) fun lm H2 flm S2 elm=>?_
   ·walk;exact z
   rw[filt_all] at elm;refine q_cat (S2 _ _ (S1 _ _ (sS _ _ ls.u))) elm (by rw[List.length_map,List.length_map,ls.pu.length_eq];have:=fewk;have:=fewu;have:=big1000;omega) fun l8 f8=>?_;have S8:=Same.upd (o:=.lst (uu.map V.int++M.R.ks.map fun c=>V.int c.1)) f8
   have e8:upd H2 l8 (.lst (uu.map V.int++M.R.ks.map fun c=>V.int c.1)) l8=some (.lst ((uu++M.R.ks.map (·.1)).map V.int)):=by rw[upd_same,List.map_append,List.map_map];rfl
   generalize upd H2 l8 _=H8 at *;have hl8:=S8 _ _ (S2 _ _ hl1);have k8:=(k1.mono S2).mono S8;walk;refine⟨v,tv,_,_,rfl,(g2.keep S2).keep S8,?_⟩;rw[e10];unfold rfTold at k8
   have out:cntV v=false->usV M.R v=false/\kpV M.R v=false:=fun z=>by
    cases v with
    | int i=>
     have n:i∉M.R.places:=fun hm=>by
      have b:=ok.rg i hm;have:cntV (.int i)=true:=inR_t b.1 (Int.le_trans (Int.le_of_lt b.2) (by show _<=(1000000:Int);omega));rw[z] at this;cases this
     unfold RS.places at n;rw[List.mem_append,List.mem_append,not_or,not_or] at n;exact⟨decide_eq_false n.1.1,decide_eq_false n.1.2⟩
    | _=>exact⟨rfl,rfl⟩
   cases zc:cntV v with
   | false=>
    rw[if_pos (out zc)] at k8;rw[show whole v 0 1000000=false from zc];walk;exact⟨sz,fun l f=>k8.yes (x:=.place v) rfl rfl f⟩
   | true=>
    rw[show whole v 0 1000000=true from zc];obtain⟨i,rfl,b0,b1⟩:=whole_int zc;walk;refine⟨l8,_,rfl,.inl (SqL.of e8),rfl,all_flat,?_⟩;rw[if_neg Bool.false_ne_true,inV_ints];walk;by_cases hm:i∈uu++M.R.ks.map (·.1)
    ·refine iteD hm ?_;walk;refine k8.no (if_neg fun q=>?_);rcases List.mem_append.mp hm with h|h
     ·exact of_decide_eq_false q.1 (ls.pu.mem_iff.mp h)
     ·exact of_decide_eq_false q.2 h
    ·refine iteX hm ?_;walk;rw[List.mem_append,not_or] at hm;rw[if_pos ⟨decide_eq_false fun h=>hm.1 (ls.pu.mem_iff.mpr h),decide_eq_false hm.2⟩] at k8;exact⟨sz,fun l f=>k8.yes (x:=.place (.int i)) rfl rfl f⟩
  ·refine iteX (by decide) ?_;walk;refine iteX (by decide) ?_;walk;refine iteX (by decide) ?_;walk;refine⟨v,tv,_,_,rfl,g2,?_⟩;unfold rfMost at k1;cases zc:moV v with
   | false=>
    rw[if_pos zc] at k1;rw[show whole v 2 5=false from zc];walk;exact⟨sz,fun l f=>k1.yes (x:=.most v) rfl rfl f⟩
   | true=>
    rw[if_neg (by rw[zc];decide)] at k1;rw[show whole v 2 5=true from zc];walk;exact k1.no rfl
 cases ths with
 | made v pg hi rt tv th tr bL bI g1 g2 g3 g4=>
  refine iteD rfl ?_;walk;refine⟨v,tv,_,_,rfl,g1,?_⟩;unfold rfMade at k;cases z:lvV v with
  | false=>
   rw[if_pos z] at k;rw[show whole v 0 60=false from z];walk;exact⟨sz,fun l f=>k.yes (x:=.level v) rfl rfl f⟩
  | true=>
   rw[if_neg (by rw[z];decide)] at k;rw[show whole v 0 60=true from z];obtain⟨lv,rfl,b0,b1⟩:=whole_int z;walk;exact⟨_,st,M,lv,pg,hi,rt,th,tr,bL,bI,rfl,b0,il0,s,ok,few,g2,g3,g4,k⟩
 | lead v u tv tu g1 g2=>
  refine iteX (by decide) ?_;walk;refine iteD rfl ?_;walk;refine comp_f (J:=ItB K false l) (H1:=H) [v,u] (fun y=>!usV M.R y) (fun y=>y) (fun R' z=>?_) (it_row hl) ?_ ?_ (Nat.le_of_ble_eq_true rfl) ?_
  ·walk;exact z
  ·intro y hy H4 R' S4 z
   have ty:∃t,Thg K H y t:=by
    rcases List.mem_cons.mp hy with rfl|hy
    ·exact⟨_,g1⟩
    ·rw[List.mem_singleton.mp hy];exact⟨_,g2⟩
   obtain⟨ty,gy⟩:=ty;walk;refine⟨_,st,M,y,ty,rfl,il0,s.trans S4,ok,few,gy.keep S4,?_⟩;walk;exact z _ (Same.refl _)
  ·intro y hy _ H4 R' S4 z;walk;exact z _ (Same.refl _)
  intro b H2 fb S2 eb;walk;refine⟨sz,fun e fe=>?_⟩;have eb2:upd H2 e (.lst []) b=_:=(upd_ne (ne_of_none eb fe)).trans eb;have S3:=Same.upd (o:=.lst []) fe;have k3:=k.mono (S2.trans S3);refine⟨b,e,_,[],rfl,rfl,SqL.of eb2,SqL.of upd_same,okPs_nil,?_⟩;unfold rfLead at k3;generalize upd H2 e (.lst [])=H3 at *;rw[if_pos rfl,eqPs_nil];cases z1:usV M.R v with
  | false=>
   rw[if_pos z1] at k3;cases z2:usV M.R u with
   | false=>
    have e1:((([v,u]:List V).filter fun y=>!usV M.R y).map fun y=>y)=[v,u]:=by rw[List.map_id',List.filter_cons,if_pos (by rw[z1];rfl),List.filter_cons,if_pos (by rw[z2];rfl)];rfl
    rw[e1] at eb2 ⊢;rw[decide_eq_false (List.cons_ne_nil _ _)];walk;exact⟨sz,fun l f=>k3.yes (x:=.place v) rfl rfl f⟩
   | true=>
    have e1:((([v,u]:List V).filter fun y=>!usV M.R y).map fun y=>y)=[v]:=by rw[List.map_id',List.filter_cons,if_pos (by rw[z1];rfl),List.filter_cons,if_neg (by rw[z2];decide)];rfl
    rw[e1] at eb2 ⊢;rw[decide_eq_false (List.cons_ne_nil _ _)];walk;exact⟨sz,fun l f=>k3.yes (x:=.place v) rfl rfl f⟩
  | true=>
   rw[if_neg (by rw[z1];decide)] at k3;cases z2:usV M.R u with
   | false=>
    rw[if_pos z2] at k3;have e1:((([v,u]:List V).filter fun y=>!usV M.R y).map fun y=>y)=[u]:=by rw[List.map_id',List.filter_cons,if_neg (by rw[z1];decide),List.filter_cons,if_pos (by rw[z2];rfl)];rfl
    rw[e1] at eb2 ⊢;rw[decide_eq_false (List.cons_ne_nil _ _)];walk;exact⟨sz,fun l f=>k3.yes (x:=.place u) rfl rfl f⟩
   | true=>
    rw[if_neg (by rw[z2];decide)] at k3;have e1:((([v,u]:List V).filter fun y=>!usV M.R y).map fun y=>y)=[]:=by rw[List.map_id',List.filter_cons,if_neg (by rw[z1];decide),List.filter_cons,if_neg (by rw[z2];decide)];rfl
    rw[e1];rw[decide_eq_true rfl];walk;exact k3.no rfl
 | _=>exact absurd (by decide) one
inductive spXI (K:Frag)(c:Cs)(ec:Ec)(vs:List V)(H:Hp)(Q:VK)(E:XK):Prop
 | mk (x dx:Addr)(v:V)(t:Value):vs=[.ref x,v]->H x=some (.ins c.T dx [])->Thg K H v t->moV v=false->OutR E ec (.most v) H->spXI K c ec vs H Q E
include F in
theorem ok_xT_init {f fd}(X:TrN K mg c.T f fd):FnOk P w K mg base (CXo P w) 11 f fd ["self","most"] (spXI K c c.e):=by
 obtain⟨fL,fdL,XLeaf⟩:=F.LX;obtain⟨fR,fdR,XRounds⟩:=F.RX;have T:=F.r.T;have GLeaf:=ok_leaf F XLeaf;have GRounds:FnOk P w K mg base CX0 1 fR fdR ["self"] (spInit c.R):=ok_init XRounds T;have C_Tree:=X.cl;have XX:=X;refine Fun_okX XX.fn sc_Tree___init__ (fun vs H Q E h=>?_) (fun cdv A outer s0 H vs Q E hr h=>?_)
 ·obtain⟨_,_,_,_,rfl,_⟩:=h;rfl
 ·obtain⟨x,dx,v,t,rfl,hx,g,hm,k⟩:=h;have sc:=sc_Tree___init__
  refine'⟨_,(pss_cons (ps_expr (pe_dX (ok_xneed_most F) outs_def hr (pa1 (pv 1))))
  (pss_cons (ps_fld (pv 0) (pv 1) rfl)
  (pss_cons (ps_fld (pv 0) (pe_make0 XRounds.mak GRounds (hr.mono (by decide)) rfl XRounds.m XRounds.bi .nil pass0) rfl)
  (pss_cons (ps_fld (pv 0) pe_dnewK rfl)
  (pss_cons (ps_fld (pv 0) pe_dnewK rfl)
  (pss_one (ps_fld (pv 0) (pe_mX (pv 0) C_Tree (ok_xT_made F) outs_def hr (pa4 pe_int (pe_make XLeaf.mak GLeaf (hr.mono (by decide)) rfl XLeaf.m XLeaf.bi .nil pass0 (pa2 (pe_lst pa_nil) (pe_lst pa_nil))) pe_non pe_non)) rfl))))))),?_⟩
  walk;exact⟨v,t,rfl,g,fun z=>(by rw[hm] at z;cases z),fun _=>k.on (.refl _)⟩
inductive spAsk (K:Frag)(c:Cs)(ec:Ec)(vs:List V)(H:Hp)(Q:VK)(E:XK):Prop
 | mk (a:TA)(h:Hp)(x:Addr)(M:MS)(d:Int)(l:Addr)(us:List V)(r:Rf):vs=[.int d,.ref x,.ref l]->IsT c a h x M->Same h H->M.R.Ok->H l=some (.lst us)->Ths K c H M d us (some r)->OutR E ec r H->spAsk K c ec vs H Q E
theorem ok_lasked:Ox F F.r.d__law_asked 14 (spAsk K c c.e):=by
 obtain⟨f,fd,XTree⟩:=F.TX;have C_Tree:=F.cT;have GTree:=ok_xT_init F XTree;refine F.r.d__law_asked.gox fun sc H Q E hr h=>?_;obtain⟨a,h,x,M,d,l,us,r,rfl,t,s,ok,hl,ths,k⟩:=h;have hx:=s _ _ t.x
 refine⟨_,(pss_one (ps_if (pc op_eq (pv 0) pe_int)
   (pss_one (ps_expr (pe_mX (pv 1) C_Tree (ok_xT_made F) outs_def hr (pa4 (pix ix_list (pv 2) pe_int) (pix ix_list (pv 2) pe_int) (pix ix_list (pv 2) pe_int) (pix ix_list (pv 2) pe_int)))))
   (pss_one (ps_if (pc op_eq (pv 0) pe_int)
   (pss_one (ps_expr (pe_mX (pv 1) C_Tree (ok_xT_lead F) outs_def hr (pa2 (pix ix_list (pv 2) pe_int) (pix ix_list (pv 2) pe_int)))))
   (pss_one (ps_if (pc op_eq (pv 0) pe_int)
   (pss_one (ps_expr (pe_mX (pv 1) C_Tree (ok_xT_enter F) outs_def hr (pa1 (pix ix_list (pv 2) pe_int)))))
   (pss_one (ps_if (pc op_eq (pv 0) pe_int)
   (pss_one (ps_expr (pe_mX (pv 1) C_Tree (ok_xT_leave F) outs_def hr (pa1 (pix ix_list (pv 2) pe_int)))))
   (pss_one (ps_if (pc op_eq (pv 0) pe_int)
   (pss_one (ps_expr (pe_mX (pv 1) C_Tree (ok_xT_node F) outs_def hr (pa1 (pix ix_list (pv 2) pe_int)))))
   (pss_one (ps_if (pc op_eq (pv 0) pe_int)
   (pss_one (ps_expr (pe_mX (pv 1) C_Tree (ok_xT_page F) outs_def hr (pa1 (pix ix_list (pv 2) pe_int)))))
   (pss_one (ps_expr (pe_make XTree.mak GTree (hr.mono (by decide)) rfl XTree.m XTree.bi .nil outs_def.pass (pa1 (pix ix_list (pv 2) pe_int))))))))))))))))),?_⟩
 walk;generalize hr:some r=o at ths;cases ths with
 | made v pg hi rt tv th tr bL bI g1 g2 g3 g4=>
  refine iteD rfl ?_;walk;exact⟨a,h,x,M,v,pg,hi,rt,tv,th,tr,bL,bI,r,rfl,t,s,ok,g1,g2,g3,g4,hr.symm,k.on (.refl _)⟩
 | lead v u tv tu g1 g2=>
  refine iteX (by decide) ?_;walk;refine iteD rfl ?_;walk;exact⟨a,h,x,M,v,u,tv,tu,r,rfl,t,s,ok,g1,g2,hr.symm,k.on (.refl _)⟩
 | enter v tv g1=>
  refine iteX (by decide) ?_;walk;refine iteX (by decide) ?_;walk;refine iteD rfl ?_;walk;exact⟨a,h,x,M,v,tv,r,rfl,t,s,ok,g1,hr.symm,k.on (.refl _)⟩
 | leave v tv g1=>
  refine iteX (by decide) ?_;walk;refine iteX (by decide) ?_;walk;refine iteX (by decide) ?_;walk;refine iteD rfl ?_;walk;exact⟨a,h,x,M,v,tv,r,rfl,t,s,ok,g1,hr.symm,k.on (.refl _)⟩
 | node v tv g1=>
  refine iteX (by decide) ?_;walk;refine iteX (by decide) ?_;walk;refine iteX (by decide) ?_;walk;refine iteX (by decide) ?_;walk;refine iteD rfl ?_;walk;exact⟨a,h,x,M,v,tv,r,rfl,t,s,ok,g1,hr.symm,k.on (.refl _)⟩
 | page v tv g1=>
  refine iteX (by decide) ?_;walk;refine iteX (by decide) ?_;walk;refine iteX (by decide) ?_;walk;refine iteX (by decide) ?_;walk;refine iteX (by decide) ?_;walk;refine iteD rfl ?_;walk;exact⟨a,h,x,M,v,tv,r,rfl,t,s,ok,g1,hr.symm,k.on (.refl _)⟩
 | most v tv g1=>
  refine iteX (by decide) ?_;walk;refine iteX (by decide) ?_;walk;refine iteX (by decide) ?_;walk;refine iteX (by decide) ?_;walk;refine iteX (by decide) ?_;walk;refine iteX (by decide) ?_;walk;unfold rfMost at hr;cases z:moV v with
  | true=>
   rw[if_neg (by rw[z];decide)] at hr;cases hr
  | false=>
   rw[if_pos z] at hr;cases hr;intro y dy fy fdy nd;have S:Same H (upd (upd H dy (.own y)) y (.ins c.T dy [])):=fun b o q=>new_ins fy fdy q;exact⟨y,dy,v,tv,rfl,upd_same,g1.keep S,z,k.on S⟩
theorem bt_ValueError:bootBuiltins "ValueError" = some (.type "ValueError"):=by decide +kernel
theorem q_exf {K}{σ:St}{H:Hp}{Q e C dx ar tb}{fs:List (Str×V)}{f y}{i:Nat}(hs:σ[i]?=some (some (.ref e)))(he:H e=some (ExO C e (some dx) ar tb))(hd:H dx=some (XdO dx fs))(g:ExG K C)(na:NoAttr K C f)(l:fs.lookup f=some y)(q:Q y H):tExFld K (tVar i) f σ H Q:=⟨.ref e,hs,e,C,dx,ar,tb,fs,y,rfl,he,hd,g,na,l,q⟩
section
variable {P:Program}{w:World}{K:Frag}{mg:Str->Option Value}{base:Heap}{c:Cs}
theorem Fx.xg (F:Fx P w K mg base c):∀r:Rf,ExG K (r.C c.e)/\(∀f∈r.fs,NoAttr K (r.C c.e) f)/\mroIn K (r.C c.e) (.ref c.TT)=some true
 | .place _=>let⟨_,_,x⟩:=F.eP;⟨x.g,x.no,x.up⟩
 | .doer _=>let⟨_,_,x⟩:=F.eD;⟨x.g,x.no,x.up⟩
 | .level _=>let⟨_,_,x⟩:=F.eL;⟨x.g,x.no,x.up⟩
 | .most _=>let⟨_,_,x⟩:=F.eM;⟨x.g,x.no,x.up⟩
 | .twice _=>let⟨_,_,x⟩:=F.eW;⟨x.g,x.no,x.up⟩
 | .page _=>let⟨_,_,x⟩:=F.eG;⟨x.g,x.no,x.up⟩
 | .edge _ _=>let⟨_,_,x⟩:=F.eE;⟨x.g,x.no,x.up⟩
abbrev s__law_kind:Stmt:=top 75
inductive spKind (xc:Ec)(vs:List V)(H:Hp)(Q:VK)(E:XK):Prop
 | mk (r:Rf)(e dx:Addr)(ar tb:Option Addr):vs=[.ref e]->H e=some (ExO (r.C xc) e (some dx) ar tb)->H dx=some (XdO dx (r.fs.zip r.us))->(∀l H',Same H H'->H l=none->H' l=some (.lst r.due)->Q (.ref l) H')->spKind xc vs H Q E
theorem ok_lkind (F:Fx P w K mg base c):OkDG false P w K mg base "_law_kind" s__law_kind ["_law_e"] 1 (spKind c.e):=by
 have T:=F.r.T;obtain⟨_,_,xP⟩:=F.eP;obtain⟨_,_,xD⟩:=F.eD;obtain⟨_,_,xE⟩:=F.eE;obtain⟨_,_,xG⟩:=F.eG;obtain⟨_,_,xL⟩:=F.eL;obtain⟨_,_,xM⟩:=F.eM;obtain⟨_,_,xW⟩:=F.eW;have MNoLevel:=xL.mC;have MNoMost:=xM.mC;have MTwice:=xW.mC;have MNoEdge:=xE.mC;have MNoDoer:=xD.mC;have MNoPage:=xG.mC;have MNoPlace:=xP.mC;have kk:=F.kk;refine F.r.d__law_kind.go fun sc H Q hr h=>?_;obtain⟨r,e,dx,ar,tb,rfl,he,hd,k⟩:=h
 obtain⟨g,na,_⟩:=F.xg r;have kv:=F.kv r
 refine'⟨_,(pss_cons (ps_v sc 1 (pe_lst pa_nil))
  (pss_cons (ps_if (pt_val (pe_callB call_instA rfl T.n_isinstance bt_isinstance (pa2 (pv 0) (pe_glob (v:=.ref c.e.E) rfl MNoEdge rfl))))
   (pss_one (ps_expr (pe_bm PySem.F.plainAttrs_list PySem.F.slot_list_append PySem.F.type_list_append mt_append (pv 1) (pa1 (pe_lst (pa3 pe_str (pe_exfld (pv 0) rfl) (pe_exfld (pv 0) rfl)))))))
   pss_nil)
  (pss_cons (ps_if (pt_val (pe_callB call_instA rfl T.n_isinstance bt_isinstance (pa2 (pv 0) (pe_glob (v:=.ref c.e.D) rfl MNoDoer rfl))))
   (pss_one (ps_expr (pe_bm PySem.F.plainAttrs_list PySem.F.slot_list_append PySem.F.type_list_append mt_append (pv 1) (pa1 (pe_lst (pa2 pe_str (pe_exfld (pv 0) rfl)))))))
   pss_nil)
  (pss_cons (ps_if (pt_val (pe_callB call_instA rfl T.n_isinstance bt_isinstance (pa2 (pv 0) (pe_glob (v:=.ref c.e.L) rfl MNoLevel rfl))))
   (pss_one (ps_expr (pe_bm PySem.F.plainAttrs_list PySem.F.slot_list_append PySem.F.type_list_append mt_append (pv 1) (pa1 (pe_lst (pa2 pe_str (pe_exfld (pv 0) rfl)))))))
   pss_nil)
  (pss_cons (ps_if (pt_val (pe_callB call_instA rfl T.n_isinstance bt_isinstance (pa2 (pv 0) (pe_glob (v:=.ref c.e.M) rfl MNoMost rfl))))
   (pss_one (ps_expr (pe_bm PySem.F.plainAttrs_list PySem.F.slot_list_append PySem.F.type_list_append mt_append (pv 1) (pa1 (pe_lst (pa2 pe_str (pe_exfld (pv 0) rfl)))))))
   pss_nil)
  (pss_cons (ps_if (pt_val (pe_callB call_instA rfl T.n_isinstance bt_isinstance (pa2 (pv 0) (pe_glob (v:=.ref c.e.G) rfl MNoPage rfl))))
   (pss_one (ps_expr (pe_bm PySem.F.plainAttrs_list PySem.F.slot_list_append PySem.F.type_list_append mt_append (pv 1) (pa1 (pe_lst (pa2 pe_str (pe_exfld (pv 0) rfl)))))))
   pss_nil)
  (pss_cons (ps_if (pt_val (pe_callB call_instA rfl T.n_isinstance bt_isinstance (pa2 (pv 0) (pe_glob (v:=.ref c.e.P) rfl MNoPlace rfl))))
   (pss_one (ps_expr (pe_bm PySem.F.plainAttrs_list PySem.F.slot_list_append PySem.F.type_list_append mt_append (pv 1) (pa1 (pe_lst (pa2 pe_str (pe_exfld (pv 0) rfl)))))))
   pss_nil)
  (pss_cons (ps_if (pt_val (pe_callB call_instA rfl T.n_isinstance bt_isinstance (pa2 (pv 0) (pe_glob (v:=.ref c.e.W) rfl MTwice rfl))))
   (pss_one (ps_expr (pe_bm PySem.F.plainAttrs_list PySem.F.slot_list_append PySem.F.type_list_append mt_append (pv 1) (pa1 (pe_lst (pa2 pe_str (pe_exfld (pv 0) rfl)))))))
   pss_nil)
  (pss_one (ps_ret (pe_ifExp (PW.pt (pw_and (pc op_eq (pe_callB call_len_seq rfl T.n_len bt_len (pa1 (pv 1))) pe_int) (pw_and1 (pt_val (pe_callB call_inst rfl T.n_isinstance bt_isinstance (pa2 (pv 0) (pe_bltn (v:=.ty "ValueError") rfl F.r.nV bt_ValueError rfl))))))) (pix ix_list (pv 1) pe_int) (pe_lst (pa1 pe_str))))))))))))),?_⟩
 walk;refine⟨sz,fun l0 f0=>?_⟩;have S0:=Same.upd (o:=.lst []) f0;have e0:upd H l0 (.lst []) l0=some (.lst []):=upd_same;generalize upd H l0 (.lst [])=H0 at *;have he0:=S0 _ _ he;have hd0:=S0 _ _ hd;have thg:∀{H':Hp},H' e=some (ExO (r.C c.e) e (some dx) ar tb)->H' dx=some (XdO dx (r.fs.zip r.us))->Thg K H' (.ref e) (.ref (r.C c.e)):=fun a b=>.exc a b g;cases r
 all_goals
  repeat (walk;refine⟨.ref e,_,_,false,rfl,.inl (thg he0 hd0),.inr (.inl ⟨_,rfl,(by first|exact kk _ (.edge .non .non)|exact kk _ (.doer .non)|exact kk _ (.level .non)|exact kk _ (.most .non)|exact kk _ (.twice .non)|exact kk _ (.page .non)|exact kk _ (.place .non))⟩),?_⟩)
  walk;refine⟨.ref e,_,_,true,rfl,.inl (thg he0 hd0),.inr (.inl ⟨_,rfl,(by first|exact kk _ (.edge .non .non)|exact kk _ (.doer .non)|exact kk _ (.level .non)|exact kk _ (.most .non)|exact kk _ (.twice .non)|exact kk _ (.page .non)|exact kk _ (.place .non))⟩),?_⟩;walk
 all_goals
  refine q_exf rfl he0 hd0 g (na _ (by simp[Rf.fs])) rfl ?_;walk
  try (refine q_exf rfl he0 hd0 g (na _ (by simp[Rf.fs])) rfl ?_;walk_at "r")
  refine⟨(by first|(show 2<=sizeLine;decide)|(show 3<=sizeLine;decide)),fun l1 f1=>?_⟩;generalize eH:upd H0 l1 _=H1;have S1:Same H0 H1:=eH▸Same.upd f1;have e1:H1 l1=some _:=eH▸upd_same;clear eH;walk;refine q_append (S1 _ _ e0) (by show 0<sizeLine;decide) ?_;have S2:Same H (upd H1 l0 (.lst ([]++[.ref l1]))):=fun b o z=>by rw[upd_ne (ne_of_none z f0)];exact S1 _ _ (S0 _ _ z)
  have e2:upd H1 l0 (.lst ([]++[.ref l1])) l0=some (.lst [.ref l1]):=upd_same;have e3:upd H1 l0 (.lst ([]++[.ref l1])) l1=some _:=(upd_ne (ne_of_none e0 f1).symm).trans e1;generalize upd H1 l0 _=H2 at *;have he2:=S2 _ _ he;have hd2:=S2 _ _ hd
  repeat (walk;refine⟨.ref e,_,_,false,rfl,.inl (thg he2 hd2),.inr (.inl ⟨_,rfl,(by first|exact kk _ (.edge .non .non)|exact kk _ (.doer .non)|exact kk _ (.level .non)|exact kk _ (.most .non)|exact kk _ (.twice .non)|exact kk _ (.page .non)|exact kk _ (.place .non))⟩),?_⟩)
  walk;refine⟨l0,_,rfl,.inl (SqL.of e2),?_⟩;walk;refine iteD rfl ?_;walk;refine⟨.ref e,_,_,_,rfl,thg he2 hd2,.inl ⟨"ValueError",rfl,kv⟩,?_⟩;walk;exact k l1 H2 S2 (S0.free f1) e3
end
inductive spTried (K:Frag)(c:Cs)(vs:List V)(H:Hp)(Q:VK)(E:XK):Prop
 | mk (a:TA)(h:Hp)(x:Addr)(M:MS)(d:Int)(l:Addr)(us:List V)(r:Rf):vs=[.int d,.ref x,.ref l]->IsT c a h x M->Same h H->M.R.Ok->H l=some (.lst us)->Ths K c H M d us (some r)->(∀l' H',Same H H'->H l'=none->H' l'=some (.lst r.due)->Q (.ref l') H')->spTried K c vs H Q E
theorem ok_ltried:Ok F F.r.d__law_tried 15 (spTried K c):=by
 obtain⟨_,_,xP⟩:=F.eP;have mT:=xP.mT;refine F.r.d__law_tried.go fun sc H Q hr h=>?_;obtain⟨a,h,x,M,d,l,us,r,rfl,t,s,ok,hl,ths,k⟩:=h;obtain⟨g,na,up⟩:=F.xg r
 refine'⟨_,(pss_cons (ps_try rfl rfl ?b0 (phs_as (i:=3) F.xT rfl mT sc.nd rfl rfl rfl ?s0 phs_nil))
  (pss_one (ps_ret (pe_lst (pa1 pe_str))))),?_⟩
 case b0=>exact(fun E ps xe hp=>(pss_one (ps_expr (pe_dP (ok_lasked F) hp hr (pa3 (pv 0) (pv 1) (pv 2))))))
 case s0=>exact(fun e=>(pss_one (ps_ret (pe_d (ok_lkind F) hr.held (pa1 (pv 3))))))
 refine⟨_,rfl,_,rfl,_,rfl,a,h,x,M,d,l,us,r,rfl,t,s,ok,hl,ths,fun e H' he S q=>caught_of he S q fun σ hσ dx ar b H2 S2 g1 g2=>⟨true,up,?_⟩⟩;rw[if_pos rfl];refine⟨.ref e,List.getElem?_set_self (by rw[show σ.length=4 from hσ];decide),r,e,dx,ar,some b,rfl,g1,g2,fun l' H3 S3 f3 e3=>?_⟩;exact k l' H3 (S2.trans S3) (S2.free f3) e3
def Od (p:Addr)(H:Hp)(v:V):Prop:=∃d,DV (· = p) H v d/\Okd 2000 d
theorem Od.keep {p}{H H':Hp}{v}(x:Od p H v)(k:KB p H H'):Od p H' v:=let⟨d,a,b⟩:=x;⟨d,a.keep (fun _ o n z=>k _ o z n) fun _ z=>z,b⟩
theorem pa_pw {X:Cx}{es}{t:L2.TA}{i j:Int}{a b:Nat}{q1 q2 q3}(h:PA X es t):PA X (.BinOp (.Constant (.int i) a q1) .Pow (.Constant (.int j) b q2) q3::es) (tCons (tOp (rI CPow fun i j=>V.int (i ^ j.toNat)) (tC (V.int i)) (tC (V.int j))) t):=pa_ofE (pe_op op_pow pe_int pe_int) rfl h
theorem pa_npw {X:Cx}{es}{t:L2.TA}{i j:Int}{a b:Nat}{q1 q2 q3 q4}(h:PA X es t):PA X (.UnaryOp .USub (.BinOp (.Constant (.int i) a q1) .Pow (.Constant (.int j) b q2) q3) q4::es) (tCons (tUn (rU fun i=>V.int (-i)) (tOp (rI CPow fun i j=>V.int (i ^ j.toNat)) (tC (V.int i)) (tC (V.int j)))) t):=pa_ofE (pe_un un_neg (pe_op op_pow pe_int pe_int)) rfl h
theorem pa_pwp {X:Cx}{es}{t:L2.TA}{i j l:Int}{a b c:Nat}{q1 q2 q3 q4 q5}(h:PA X es t):PA X (.BinOp (.BinOp (.Constant (.int i) a q1) .Pow (.Constant (.int j) b q2) q3) .Add (.Constant (.int l) c q5) q4::es) (tCons (tOp (rI0 fun i j=>V.int (i+j)) (tOp (rI CPow fun i j=>V.int (i ^ j.toNat)) (tC (V.int i)) (tC (V.int j))) (tC (V.int l))) t):=pa_ofE (pe_op op_add (pe_op op_pow pe_int pe_int) pe_int) rfl h
theorem pa_neg {X:Cx}{es}{t:L2.TA}{i:Int}{a:Nat}{q1 q2}(h:PA X es t):PA X (.UnaryOp .USub (.Constant (.int i) a q1) q2::es) (tCons (tUn (rU fun i=>V.int (-i)) (tC (V.int i))) t):=pa_ofE (pe_un un_neg pe_int) rfl h
theorem od_lit {p}{H:Hp}{v}{d:PyData}(x:DV (· = p) H v d)(h1:d.showable=true:=by decide +kernel)(h2:d.leavesShort 40=true:=by decide +kernel)(h3:d.depth<=20:=by decide +kernel)(h4:d.weight<=2000:=by decide +kernel):Od p H v:=⟨d,x,⟨h1,h2,h3,h4⟩⟩
inductive spOdd (vs:List V)(H:Hp)(Q:VK)(E:XK):Prop
 | mk (p:Addr)(n:Nat):vs=[.ref p]->Box H p n->n<=900000->(∀(v:V) (H':Hp),Od p H' v->KB p H H'->Box H' p (n+1)->Q v H')->spOdd vs H Q E
theorem ok_odd:Ok F F.r.d__law_odd 2 spOdd:=by
 refine F.r.d__law_odd.go fun sc H Q hr h=>?_;obtain⟨p,n,rfl,B,hn,k⟩:=h;refine'⟨_,?h,?r⟩
 case h=>
  refine' pss_cons ?a ?b
  case b=>exact(pss_one (ps_ret (pe_ix ix_list (pv 1) (pe_d (ok_take F) hr (pa_c (pv 0) (pa_c pe_int pa_nil))) (fun _ _=>rfl))))
  case a=>
   with_reducible refine' ps_set (i:=1) ?h0 ?h1 ?h2 ?e swaps_list ?h3
   case h0=>exact sc.nd
   case h1=>rfl
   case h2=>exact Or.inl rfl
   case h3=>exact Or.inr rfl
   case e=>with_reducible exact pe_lst (pa_non (pa_bl (pa_bl (pa_neg (pa_str (pa_str (pa_lst (pa_int pa_nil) (pa_tup (pa_int pa_nil) (pa_dnew (pa_pw (pa_npw (pa_pwp (pa_lst pa_nil (pa_ofE (pe_disp (pps_cons pe_int pe_int pps_nil) rfl rfl (List.cons_ne_nil _ _) (Nat.le_of_ble_eq_true rfl)) rfl pa_nil))))))))))))))
 case r=>
 walk;refine⟨sz,fun l1 n1=>?_⟩;walk;refine⟨sz,fun t1 n2=>?_⟩;walk;intro d1 n3;walk;refine⟨Nat.zero_le _,fun l2 n4=>?_⟩;walk;intro d2 n5;walk;refine⟨upd_same,[(Sum.inl 0,.int 0)],rfl,Nat.le_of_ble_eq_true rfl,?_⟩;rw[upd_upd];walk;refine⟨sz,fun l n6=>?_⟩;have S1:=Same.upd (o:=.lst [.int 0]) n1;have S2:=Same.upd (o:=.tup [.int 0]) n2;have S3:=Same.upd (o:=.dK []) n3;have S4:=Same.upd (o:=.lst []) n4
 have S5:=Same.upd (o:=.dK (mergeK [] [(Sum.inl 0,.int 0)])) n5;have S6:=Same.upd (o:=.lst [.non,.bl true,.bl false,.int (-1),.str "0",.str "",.ref l1,.ref t1,.ref d1,.int (10 ^ Int.toNat 29),.int (-10 ^ Int.toNat 29),.int (10 ^ Int.toNat 6+1),.ref l2,.ref d2]) n6;have g1:=S6 _ _ (S5 _ _ (S4 _ _ (S3 _ _ (S2 _ _ (upd_same (H:=H) (a:=l1) (o:=.lst [.int 0]))))))
 have g2:=S6 _ _ (S5 _ _ (S4 _ _ (S3 _ _ (upd_same (H:=upd H l1 (.lst [.int 0])) (a:=t1) (o:=.tup [.int 0])))));have g3:=S6 _ _ (S5 _ _ (S4 _ _ (upd_same (H:=upd (upd H l1 (.lst [.int 0])) t1 (.tup [.int 0])) (a:=d1) (o:=.dK []))));have g4:=S6 _ _ (S5 _ _ (upd_same (H:=upd (upd (upd H l1 (.lst [.int 0])) t1 (.tup [.int 0])) d1 (.dK [])) (a:=l2) (o:=.lst [])))
 have g5:=S6 _ _ (upd_same (H:=upd (upd (upd (upd H l1 (.lst [.int 0])) t1 (.tup [.int 0])) d1 (.dK [])) l2 (.lst [])) (a:=d2) (o:=.dK (mergeK [] [(Sum.inl 0,.int 0)])));have m1:=B.ne n1;have m2:=(B.same S1).ne n2;have m3:=((B.same S1).same S2).ne n3;have m4:=(((B.same S1).same S2).same S3).ne n4;have m5:=((((B.same S1).same S2).same S3).same S4).ne n5
 have B5:=((((B.same S1).same S2).same S3).same S4).same S5;have m6:=B5.ne n6;have S:=S1.trans (S2.trans (S3.trans (S4.trans (S5.trans S6))))
 have g6:upd (upd (upd (upd (upd (upd H l1 (.lst [.int 0])) t1 (.tup [.int 0])) d1 (.dK [])) l2 (.lst [])) d2 (.dK (mergeK [] [(Sum.inl 0,.int 0)]))) l (.lst [.non,.bl true,.bl false,.int (-1),.str "0",.str "",.ref l1,.ref t1,.ref d1,.int (10 ^ Int.toNat 29),.int (-10 ^ Int.toNat 29),.int (10 ^ Int.toNat 6+1),.ref l2,.ref d2]) l=_:=upd_same;have B6:=B5.same S6
 clear S1 S2 S3 S4 S5 S6 B5 n1 n2 n3 n4 n5 n6;generalize upd _ l _=H6 at *;walk;refine⟨p,14,n,rfl,B6,by omega,by decide,by decide,fun r H7 a0 a1 B7 k7=>?_⟩;obtain⟨v,hv,ez⟩:=atI_mem (xs:=[.non,.bl true,.bl false,.int (-1),.str "0",.str "",.ref l1,.ref t1,.ref d1,.int (10 ^ Int.toNat 29),.int (-10 ^ Int.toNat 29),.int (10 ^ Int.toNat 6+1),.ref l2,.ref d2]) a0 a1;refine q_ixL (k7 _ _ g6 m6) ez ?_
 refine k v H7 ?_ (fun b o z nb=>k7 b o (S _ _ z) nb) B7;have zi:DVs (· = p) H7 [.int 0] [.int 0]:=.cons (.int 0) .nil;simp only[List.mem_cons,List.not_mem_nil,or_false] at hv;rcases hv with rfl|rfl|rfl|rfl|rfl|rfl|rfl|rfl|rfl|rfl|rfl|rfl|rfl|rfl
 ·exact od_lit .non
 ·exact od_lit (.bl _)
 ·exact od_lit (.bl _)
 ·exact od_lit (.int _)
 ·exact od_lit (.str _)
 ·exact od_lit (.str _)
 ·exact od_lit (.lst m1 (k7 _ _ g1 m1) zi)
 ·exact od_lit (.tup m2 (k7 _ _ g2 m2) zi)
 ·exact od_lit (.dct m3 (k7 _ _ g3 m3) .nil)
 ·exact od_lit (.int _)
 ·exact od_lit (.int _)
 ·exact od_lit (.int _)
 ·exact od_lit (.lst m4 (k7 _ _ g4 m4) .nil)
 ·exact od_lit (.dct m5 (k7 _ _ g5 m5) (.cons (.int 0) .nil))
inductive spOd (m:Nat)(vs:List V)(H:Hp)(Q:VK)(E:XK):Prop
 | mk (p:Addr)(n:Nat):vs=[.ref p]->Box H p n->n<=800000->(∀(v:V) (H':Hp),Od p H' v->KB p H H'->Box H' p (n+m)->Q v H')->spOd m vs H Q E
theorem ok_lhigh:Ok F F.r.d__law_high 3 (spOd 2):=by
 refine F.r.d__law_high.go fun sc H Q hr h=>?_;obtain⟨p,n,rfl,B,hn,k⟩:=h;refine'⟨_,(pss_one (ps_ret (pix ix_list (pe_lst (pa5 pe_non pe_int (pe_op op_pow pe_int pe_int) (pe_un un_neg (pe_op op_pow pe_int pe_int)) (pe_d (ok_odd F) hr (pa1 (pv 0))))) (pe_d (ok_take F) hr (pa2 (pv 0) pe_int))))),?_⟩;walk;refine⟨p,n,rfl,B,by omega,fun v1 H1 o1 k1 B1=>?_⟩;walk;refine newL fun l H2 f S g=>?_
 have m:=B1.ne f;have B2:=B1.same S;walk;refine⟨p,5,n+1,rfl,B2,by omega,by decide,by decide,fun r H3 a0 a1 B3 k3=>?_⟩;obtain⟨v,hv,ez⟩:=atI_mem (xs:=[.non,.int 5,.int (10 ^ Int.toNat 9),.int (-10 ^ Int.toNat 9),v1]) a0 a1;refine q_ixL (k3 _ _ g m) ez ?_;have K13:KB p H1 H3:=fun b o z nb=>k3 b o (S _ _ z) nb;refine k v H3 ?_ (fun b o z nb=>K13 b o (k1 b o z nb) nb) B3
 simp only[List.mem_cons,List.not_mem_nil,or_false] at hv;rcases hv with rfl|rfl|rfl|rfl|rfl
 ·exact od_lit .non
 ·exact od_lit (.int _)
 ·exact od_lit (.int _)
 ·exact od_lit (.int _)
 ·exact o1.keep K13
theorem od_int {p}{H:Hp}{z:Int}(h:z.natAbs<=1000):Od p H (.int z):=⟨_,.int z,(small_up (small_int (i:=z) (Nat.le_trans h (by decide)))).1⟩
theorem od_opt {p}{H:Hp}{ns}{v:Option Int}(h:∀z∈ns,z.natAbs<=1000)(e1:ns=[]->v=none)(e2:ns≠[]->∃z,v=some z/\z∈ns):Od p H (oV v):=by
 by_cases e:ns=[]
 ·rw[e1 e];exact od_lit .non
 ·obtain⟨z,rfl,hz⟩:=e2 e;exact od_int (h z hz)
inductive spLPl (vs:List V)(H:Hp)(Q:VK)(E:XK):Prop
 | mk (p:Addr)(n:Nat)(g:Hp)(st:Addr)(M:MS):vs=[.ref p,.ref st]->Box H p n->n<=700000->IsL g st M->Same g H->g p=none->M.R.Ok->M.R.places.length<=60->M.ns.length<=60->(∀q,M.top=some q->q.natAbs<=1000)->(∀(v:V) (H':Hp),Od p H' v->KB p H H'->Box H' p (n+2)->Q v H')->spLPl vs H Q E
theorem ok_lplace:Ok F F.r.d__law_place 3 spLPl:=by
 refine F.r.d__law_place.go fun sc H Q hr h=>?_;obtain⟨p,n,g,st,M,rfl,B,hn,il,s,hgp,ok,fewp,fewn,htop,k⟩:=h;obtain⟨gN,gS,dn,nd,a,us,fs,tp,rfl,ds,ln,ls,ht⟩:=il
 refine'⟨_,(pss_cons (ps_v sc 2 (pe_d (ok_take F) hr (pa2 (pv 0) pe_int)))
  (pss_cons (ps_if (pc op_eq (pv 2) pe_int)
   (pss_one (ps_ret (pe_d (ok_odd F) hr (pa1 (pv 0)))))
   pss_nil)
  (pss_cons (ps_if (pc op_eq (pv 2) pe_int)
   (pss_one (ps_ret (pe_d (ok_one F) hr (pa2 (pv 0) (pe_op op_cat (pe_gs hr (pv 1)) (pe_lst (pa2 (pe_callB call_lenD rfl F.r.T.n_len bt_len (pa1 (pe_gs hr (pv 1)))) (pe_op op_add pe_int (pe_callB call_lenD rfl F.r.T.n_len bt_len (pa1 (pe_gs hr (pv 1))))))))))))
   pss_nil)
  (pss_cons (ps_if (pc op_eq (pv 2) pe_int)
   (pss_one (ps_ret (pe_d (ok_one F) hr (pa2 (pv 0) (pe_op op_cat (pe_comp2 (blk_mk [] []) rfl (pi_list (pe_gs hr (pv 1))) (fun _ _ _ _ _=>PTs.nil) (fun _ _ _ _ _=>(pv 0))) (pe_lst (pa1 (pe_gs hr (pv 1)))))))))
   pss_nil)
  (pss_one (ps_ret (pe_d (ok_one F) hr (pa2 (pv 0) (pe_gs hr (pv 1)))))))))),?_⟩
 walk;refine⟨p,6,n,rfl,B,by omega,by decide,by decide,fun r H1 a0 a1 B1 k1=>?_⟩;have s1:Same (uH gN gS) H1:=fun b o z=>k1 b o (s _ _ z) (fun e=>by rw[e,hgp] at z;cases z);have sS:=(uH_sr ds).trans s1;have sN:Same gN H1:=uH_sl.trans s1;have hs:=sS _ _ ls.s;have inP:∀z,z∈M.R.places->z.natAbs<=1000:=fun z hz=>by have:=ok.rg z hz;omega
 have inU:∀z∈us,z.natAbs<=1000:=fun z hz=>inP z (by unfold RS.places;rw[List.append_assoc];exact List.mem_append_left _ (ls.pu.mem_iff.mp hz));have inF:∀z∈fs,z.natAbs<=1000:=fun z hz=>inP z (by unfold RS.places;exact List.mem_append_right _ (ls.pf.mem_iff.mp hz));have lu:=ls.pu.length_eq;have lf:=ls.pf.length_eq
 have lp:M.R.us.length+M.R.ks.length+M.R.fs.length<=60:=by have:=fewp;unfold RS.places at this;rw[List.length_append,List.length_append,List.length_map] at this;exact this
 have ne:∀{l:Addr} {o:HO},gS l=some o->l≠p:=fun {l o} e q=>by
  rw[q] at e;have:=uH_sr ds _ _ e;rw[hgp] at this;cases this
 walk;by_cases r0:r=0
 ·refine iteD (congrArg V.int r0) ?_;walk;exact⟨p,n+1,rfl,B1,by omega,fun v H2 o2 k2 B2=>k v H2 o2 (fun b o z nb=>k2 b o (k1 b o z nb) nb) B2⟩
 refine iteX (fun q=>r0 (V.int.inj q)) ?_;walk;by_cases r1:r=1
 ·refine iteD (congrArg V.int r1) ?_;walk;refine⟨dn,_,rfl,sN _ _ ln.d,?_⟩;walk;refine⟨dn,_,rfl,sN _ _ ln.d,?_⟩;rw[pK_len,ln.l];walk;refine newL fun l H2 f S2 e2=>?_;have B2:=B1.same S2;refine q_cat (S2 _ _ (sS _ _ ls.f)) e2 (by rw[List.length_map];show fs.length+2<=_;have:=big1000;omega) fun l8 f8=>?_
  have S8:=Same.upd (o:=.lst (fs.map V.int++[.int (M.ns.length:Int),.int (1+(M.ns.length:Int))])) f8;have e8:upd H2 l8 (.lst (fs.map V.int++[.int (M.ns.length:Int),.int (1+(M.ns.length:Int))])) l8=some (.lst ((fs++[(M.ns.length:Int),1+(M.ns.length:Int)]).map V.int)):=by rw[upd_same,List.map_append];rfl
  have n8:=B2.ne f8;have B8:=B2.same S8;generalize upd H2 l8 _=H8 at *;walk;refine⟨p,l8,n+1,fs++[(M.ns.length:Int),1+(M.ns.length:Int)],rfl,B8,by omega,e8,n8,by rw[List.length_append];show fs.length+2<=_;omega,fun v H9 e1 e2 k9 B9=>k _ H9 (od_opt (fun z hz=>?_) e1 e2) (fun b o z nb=>k9 b o (S8 _ _ (S2 _ _ (k1 b o z nb))) nb) B9⟩;rcases List.mem_append.mp hz with h|h
  ·exact inF z h
  ·simp only[List.mem_cons,List.not_mem_nil,or_false] at h;omega
 refine iteX (fun q=>r1 (V.int.inj q)) ?_;walk;by_cases r2:r=2
 ·refine iteD (congrArg V.int r2) ?_;walk;refine comp_list (l:=a.lk) (ts:=a.tk) (ps:=M.R.ks) (fun R' z=>?_) (sS _ _ ls.k) (ls.tk.keep fun b xs z=>sS _ _ z) (by have:=big1000;omega) (fun _=>true) (fun c=>.int c.1) (fun c _ H2 R' _ z=>z H2 (Same.refl _)) (fun c _ _ H2 R' _ z=>⟨_,rfl,z H2 (Same.refl _)⟩) fun ll H2 fll S2 ell=>?_
  ·walk;exact z
  rw[filt_all] at ell;have B2:=B1.same S2;have hs2:=S2 _ _ hs;walk;refine newL fun l H3 f S3 e3=>?_;have B3:=B2.same S3;refine q_cat (S3 _ _ ell) e3 (by rw[List.length_map];show M.R.ks.length+1<=_;have:=big1000;omega) fun l8 f8=>?_;have S8:=Same.upd (o:=.lst ((M.R.ks.map fun c=>V.int c.1)++[.int tp])) f8
  have e8:upd H3 l8 (.lst ((M.R.ks.map fun c=>V.int c.1)++[.int tp])) l8=some (.lst ((M.R.ks.map (·.1)++[tp]).map V.int)):=by rw[upd_same,List.map_append,List.map_map];rfl
  have n8:=B3.ne f8;have B8:=B3.same S8;generalize upd H3 l8 _=H8 at *;walk;refine⟨p,l8,n+1,M.R.ks.map (·.1)++[tp],rfl,B8,by omega,e8,n8,by rw[List.length_append,List.length_map];show M.R.ks.length+1<=_;omega,fun v H9 e1 e2 k9 B9=>k _ H9 (od_opt (fun z hz=>?_) e1 e2) (fun b o z nb=>k9 b o (S8 _ _ (S3 _ _ (S2 _ _ (k1 b o z nb)))) nb) B9⟩;rcases List.mem_append.mp hz with h|h
  ·exact inP z (by unfold RS.places;rw[List.append_assoc];exact List.mem_append_right _ (List.mem_append_left _ h))
  ·rw[List.mem_singleton.mp h];exact htop tp ht
 refine iteX (fun q=>r2 (V.int.inj q)) ?_;walk;exact⟨p,a.lu,n+1,us,rfl,B1,by omega,sS _ _ ls.u,ne ls.u,by omega,fun v H2 e1 e2 k2 B2=>k _ H2 (od_opt inU e1 e2) (fun b o z nb=>k2 b o (k1 b o z nb) nb) B2⟩
theorem Od.pt {K c p}{H:Hp}{v}(o:KdO K c)(x:Od p H v):PT K c H v false false:=by
 obtain⟨d,a,_⟩:=x;have g:=a.thg (K:=K);refine⟨_,.inl g,?_⟩;cases d<;>exact o _ (by simp)
def PO (K:Frag)(c:Cp)(p:Addr)(H:Hp)(v:V)(bL bI:Bool):Prop:=(Od p H v/\bL=false/\bI=false)\/∃x C dx fs,v=.ref x/\H x=some (.ins C dx fs)/\InsC K C/\c.is C/\kitOne K (.ref C) (.ref c.cL)=some bL/\kitOne K (.ref C) (.ref c.cI)=some bI/\x≠p
theorem PO.kb {K c p}{H H':Hp}{v bL bI}(x:PO K c p H v bL bI)(k:KB p H H'):PO K c p H' v bL bI:=by
 rcases x with⟨o,q⟩|⟨x,C,dx,fs,e,h,i,ic,k1,k2,n⟩
 ·exact .inl ⟨o.keep k,q⟩
 ·exact .inr ⟨x,C,dx,fs,e,k _ _ h n,i,ic,k1,k2,n⟩
theorem PO.pt {K c p}{H:Hp}{v bL bI}(O:KdO K c)(x:PO K c p H v bL bI):PT K c H v bL bI:=by
 rcases x with⟨o,rfl,rfl⟩|⟨x,C,dx,fs,e,h,i,_,k1,k2,n⟩
 ·exact o.pt O
 ·exact⟨_,.inr ⟨x,C,dx,fs,e,h,i,rfl⟩,k1,k2⟩
inductive spSP (K:Frag)(c:Cs)(vs:List V)(H:Hp)(Q:VK)(E:XK):Prop
 | mk (p:Addr)(n:Nat):vs=[.ref p]->Box H p n->n<=700000->(∀(v:V) (bL bI:Bool) (H':Hp),PO K c.pg p H' v bL bI->KB p H H'->Box H' p (n+2)->Q v H')->spSP K c vs H Q E
theorem ok_some_page:Ok F F.r.d__law_some_page 10 (spSP K c):=by
 obtain⟨fI,fdI,XInner⟩:=F.IX;obtain⟨fL,fdL,XLeaf⟩:=F.LX;have KF:=F.KF;have GLeaf:=ok_leaf F XLeaf;have GInner:=ok_inner F XInner;refine F.r.d__law_some_page.go fun sc H Q hr h=>?_;obtain⟨p,n,rfl,B,hn,k⟩:=h
 refine'⟨_,(pss_cons (ps_v sc 1 (pe_lst (pa5 (pe_make XLeaf.mak GLeaf (hr.mono (by decide)) rfl XLeaf.m XLeaf.bi .nil pass0 (pa2 (pe_lst pa_nil) (pe_lst pa_nil))) (pe_make XInner.mak GInner (hr.mono (by decide)) rfl XInner.m XInner.bi .nil pass0 (pa2 (pe_lst pa_nil) (pe_lst (pa1 pe_int)))) (pe_make XLeaf.mak GLeaf (hr.mono (by decide)) rfl XLeaf.m XLeaf.bi .nil pass0 (pa2 (pe_lst (pa1 pe_int)) (pe_lst (pa1 pe_int)))) (pe_make XInner.mak GInner (hr.mono (by decide)) rfl XInner.m XInner.bi .nil pass0 (pa2 (pe_lst (pa1 pe_int)) (pe_lst (pa2 pe_int pe_int)))) (pe_d (ok_odd F) hr (pa1 (pv 0))))))
  (pss_one (ps_ret (pix ix_list (pv 1) (pe_d (ok_take F) hr (pa2 (pv 0) pe_int)))))),?_⟩
 walk;refine newL fun la1 HA1 fa1 SA1 ea1=>?_;replace ea1:HA1 la1=some (.lst (([]:List Int).map V.int)):=ea1;walk;refine newL fun lb1 HB1 fb1 SB1 eb1=>?_;replace eb1:HB1 lb1=some (.lst (([]:List Int).map V.int)):=eb1;walk;refine mk_page (ks:=([]:List Int)) (gs:=([]:List Int)) (SB1 _ _ ea1) eb1 ⟨by simp[KeyR],by simp,by decide⟩ ⟨rfl,by simp[KeyR]⟩ fun x1 dx1 tk1 tg1 HC1 _ _ _ SC1 q1 _ _=>?_
 have S1:=SA1.trans (SB1.trans SC1);clear SA1 SB1 SC1 ea1 eb1;walk;refine newL fun la2 HA2 fa2 SA2 ea2=>?_;replace ea2:HA2 la2=some (.lst (([]:List Int).map V.int)):=ea2;walk;refine newL fun lb2 HB2 fb2 SB2 eb2=>?_;replace eb2:HB2 lb2=some (.lst (([3]:List Int).map V.int)):=eb2;walk
 refine mk_page (ks:=([]:List Int)) (gs:=([3]:List Int)) (SB2 _ _ ea2) eb2 ⟨by simp[KeyR],by simp,by decide⟩ ⟨rfl,by simp[KeyR]⟩ fun x2 dx2 tk2 tg2 HC2 _ _ _ SC2 q2 _ _=>?_;have S2:=SA2.trans (SB2.trans SC2);clear SA2 SB2 SC2 ea2 eb2;walk;refine newL fun la3 HA3 fa3 SA3 ea3=>?_;replace ea3:HA3 la3=some (.lst (([5]:List Int).map V.int)):=ea3;walk;refine newL fun lb3 HB3 fb3 SB3 eb3=>?_
 replace eb3:HB3 lb3=some (.lst (([6]:List Int).map V.int)):=eb3;walk;refine mk_page (ks:=([5]:List Int)) (gs:=([6]:List Int)) (SB3 _ _ ea3) eb3 ⟨by simp[KeyR],by simp,by decide⟩ ⟨rfl,by simp[KeyR]⟩ fun x3 dx3 tk3 tg3 HC3 _ _ _ SC3 q3 _ _=>?_;have S3:=SA3.trans (SB3.trans SC3);clear SA3 SB3 SC3 ea3 eb3;walk;refine newL fun la4 HA4 fa4 SA4 ea4=>?_
 replace ea4:HA4 la4=some (.lst (([1]:List Int).map V.int)):=ea4;walk;refine newL fun lb4 HB4 fb4 SB4 eb4=>?_;replace eb4:HB4 lb4=some (.lst (([0,1]:List Int).map V.int)):=eb4;walk;refine mk_page (ks:=([1]:List Int)) (gs:=([0,1]:List Int)) (SB4 _ _ ea4) eb4 ⟨by simp[KeyR],by simp,by decide⟩ ⟨rfl,by simp[KeyR]⟩ fun x4 dx4 tk4 tg4 HC4 _ _ _ SC4 q4 _ _=>?_;have S4:=SA4.trans (SB4.trans SC4)
 clear SA4 SB4 SC4 ea4 eb4;have B4:=B.same (S1.trans (S2.trans (S3.trans S4)));walk;refine⟨p,n,rfl,B4,by omega,fun v5 H5 o5 k5 B5=>?_⟩;walk;refine newL fun l H6 f S6 g6=>?_;have m6:=B5.ne f;have B6:=B5.same S6;walk;refine⟨p,5,n+1,rfl,B6,by omega,by decide,by decide,fun r H7 a0 a1 B7 k7=>?_⟩;obtain⟨v,hv,ez⟩:=atI_mem (xs:=[.ref x1,.ref x2,.ref x3,.ref x4,v5]) a0 a1;refine q_ixL (k7 _ _ g6 m6) ez ?_
 have K57:KB p H5 H7:=fun b o z nb=>k7 b o (S6 _ _ z) nb;have K47:KB p HC4 H7:=fun b o z nb=>K57 b o (k5 b o z nb) nb
 have np:∀{x C dx:Addr} {fs:List (Str×V)},HC4 x=some (.ins C dx fs)->x≠p:=fun {x C dx fs} e q=>by
  obtain⟨xs,e'⟩:=B4.lst;rw[q,e'] at e;cases e
 have pL:∀{x dx:Addr} {fs:List (Str×V)},HC4 x=some (.ins c.pg.cL dx fs)->PO K c.pg p H7 (.ref x) true false:=fun {x dx fs} e=>
  .inr ⟨x,_,dx,fs,rfl,K47 _ _ e (np e),KF.iL,.inl rfl,KF.LL,KF.LI,np e⟩
 have pI:∀{x dx:Addr} {fs:List (Str×V)},HC4 x=some (.ins c.pg.cI dx fs)->PO K c.pg p H7 (.ref x) false true:=fun {x dx fs} e=>
  .inr ⟨x,_,dx,fs,rfl,K47 _ _ e (np e),KF.iI,.inr rfl,KF.IL,KF.II,np e⟩
 have fin:∀{bL bI:Bool},PO K c.pg p H7 v bL bI->Q v H7:=fun po=>k v _ _ H7 po (fun b o z nb=>K47 b o (S4 _ _ (S3 _ _ (S2 _ _ (S1 _ _ z)))) nb) B7;simp only[List.mem_cons,List.not_mem_nil,or_false] at hv;rcases hv with rfl|rfl|rfl|rfl|rfl
 ·exact fin (pL (S4 _ _ (S3 _ _ (S2 _ _ q1))))
 ·exact fin (pI (S4 _ _ (S3 _ _ q2)))
 ·exact fin (pL (S4 _ _ q3))
 ·exact fin (pI q4)
 ·exact fin (.inl ⟨o5.keep K57,rfl,rfl⟩)
inductive ThO (K:Frag)(c:Cp)(p:Addr)(H:Hp):Int->List V->Prop
 | made (v pg hi rt:V) (bL bI:Bool):Od p H v->PO K c p H pg bL bI->Od p H hi->Od p H rt->ThO K c p H 0 [v,pg,hi,rt]
 | lead (v u:V):Od p H v->Od p H u->ThO K c p H 1 [v,u]
 | one (d:Int) (v:V):2<=d->d<=6->Od p H v->ThO K c p H d [v]
inductive spThings (K:Frag)(c:Cs)(vs:List V)(H:Hp)(Q:VK)(E:XK):Prop
 | mk (p:Addr)(n:Nat)(g:Hp)(st:Addr)(M:MS)(d:Int):vs=[.ref p,.ref st,.int d]->0<=d->d<=6->Box H p n->n<=600000->IsL g st M->Same g H->g p=none->M.R.Ok->M.R.places.length<=60->M.ns.length<=60->(∀q,M.top=some q->q.natAbs<=1000)->(∀(l:Addr) (us:List V) (H':Hp),H' l=some (.lst us)->l≠p->ThO K c.pg p H' d us->KB p H H'->Box H' p (n+20)->Q (.ref l) H')->spThings K c vs H Q E
theorem ok_things:Ok F F.r.d__law_things 11 (spThings K c):=by
 refine F.r.d__law_things.go fun sc H Q hr h=>?_;obtain⟨p,n,g,st,M,d,rfl,d0,d6,B,hn,il,s,hgp,ok,fewp,fewn,htop,k⟩:=h;have hu:=hr.units0
 have last:∀(H':Hp) (v:V) (nb:Nat),2<=d->Od p H' v->KB p H H'->Box H' p nb->nb<=n+20->∀l,H' l=none->Q (.ref l) (upd H' l (.lst [v])):=fun H' v nb hd ov K' B' hb l f=>by
  have S:=Same.upd (o:=.lst [v]) f;exact k l [v] _ upd_same (B'.ne f) (.one d v hd d6 (ov.keep S.kb)) (fun b o z nb=>S _ _ (K' b o z nb)) ((B'.same S).mono hb)
 refine'⟨_,(pss_cons (ps_if (pc op_eq (pv 2) pe_int)
   (pss_cons (ps_v sc 3 (pix ix_list (pe_lst (pa5 pe_int pe_int pe_int pe_int (pe_d (ok_odd F) hr (pa1 (pv 0))))) (pe_d (ok_take F) hr (pa2 (pv 0) pe_int))))
  (pss_cons (ps_v sc 4 (pe_d (ok_some_page F) hr (pa1 (pv 0))))
  (pss_cons (ps_v sc 5 (pe_d (ok_lhigh F) hr (pa1 (pv 0))))
  (pss_one (ps_ret (pe_lst (pa4 (pv 3) (pv 4) (pv 5) (pix ix_list (pe_lst (pa2 pe_non (pe_d (ok_lplace F) hr (pa2 (pv 0) (pv 1))))) (pe_d (ok_take F) hr (pa2 (pv 0) pe_int))))))))))
   pss_nil)
  (pss_cons (ps_if (pc op_eq (pv 2) pe_int)
   (pss_one (ps_ret (pe_lst (pa2 (pe_d (ok_lplace F) hr (pa2 (pv 0) (pv 1))) (pe_d (ok_lplace F) hr (pa2 (pv 0) (pv 1)))))))
   pss_nil)
  (pss_cons (ps_if (pt_cmpR op_in_seq (pv 2) (pe_tup (pa2 pe_int pe_int)) (by with_unfolding_all rfl))
   (pss_one (ps_ret (pe_lst (pa1 (pix ix_list (pe_lst (pa4 (pe_d (ok_take F) hr (pa2 (pv 0) pe_int)) (pe_op op_pow pe_int pe_int) (pe_op op_add (pe_op op_pow pe_int pe_int) pe_int) (pe_d (ok_odd F) hr (pa1 (pv 0))))) (pe_d (ok_take F) hr (pa2 (pv 0) pe_int)))))))
   pss_nil)
  (pss_cons (ps_if (pc op_eq (pv 2) pe_int)
   (pss_one (ps_ret (pe_lst (pa1 (pix ix_list (pe_lst (pa5 pe_int pe_int pe_int pe_int (pe_d (ok_odd F) hr (pa1 (pv 0))))) (pe_d (ok_take F) hr (pa2 (pv 0) pe_int)))))))
   pss_nil)
  (pss_one (ps_ret (pe_lst (pa1 (pe_d (ok_lplace F) hr (pa2 (pv 0) (pv 1))))))))))),?_⟩
 walk;by_cases e0:d=0
 ·refine iteD (congrArg V.int e0) ?_;walk;refine⟨p,n,rfl,B,by omega,fun v1 H1 o1 k1 B1=>?_⟩;walk;refine newL fun l1 H2 f1 S1 g1=>?_;have m1:=B1.ne f1;have B2:=B1.same S1;walk;refine⟨p,5,n+1,rfl,B2,by omega,by decide,by decide,fun r2 H3 a0 a1 B3 k3=>?_⟩;obtain⟨v,hv,ez⟩:=atI_mem (xs:=[.int 0,.int 1,.int 60,.int 61,v1]) a0 a1;refine q_ixL (k3 _ _ g1 m1) ez ?_
  have K13:KB p H1 H3:=fun b o z nb=>k3 b o (S1 _ _ z) nb
  have ov:Od p H3 v:=by
   simp only[List.mem_cons,List.not_mem_nil,or_false] at hv;rcases hv with rfl|rfl|rfl|rfl|rfl
   ·exact od_lit (.int _)
   ·exact od_lit (.int _)
   ·exact od_lit (.int _)
   ·exact od_lit (.int _)
   ·exact o1.keep K13
  have K3:KB p H H3:=fun b o z nb=>K13 b o (k1 b o z nb) nb;clear k1 k3 S1 g1 K13 o1 hv ez B1 B2;walk;refine⟨p,n+1+1,rfl,B3,by omega,fun pg bL bI H4 po k4 B4=>?_⟩;walk;refine⟨p,n+1+1+2,rfl,B4,by omega,fun hi H5 oh k5 B5=>?_⟩;have ov5:=(ov.keep k4).keep k5;have po5:=po.kb k5;have K5:KB p H H5:=fun b o z nb=>k5 b o (k4 b o (K3 b o z nb) nb) nb;clear ov po K3 k4 k5;walk
  refine⟨p,n+1+1+2+2,g,st,M,rfl,B5,by omega,il,K5.same s hgp,hgp,ok,fewp,fewn,htop,fun v6 H6 o6 k6 B6=>?_⟩;walk;refine newL fun l6 H6' f6 S6 e6=>?_;have n6:=B6.ne f6;have B6':=B6.same S6;walk;refine⟨p,2,n+1+1+2+2+2,rfl,B6',by omega,by decide,by decide,fun r7 H7 c2 c3 B7 k7=>?_⟩;obtain⟨rt,hw,ez⟩:=atI_mem (xs:=[.non,v6]) c2 c3;refine q_ixL (k7 _ _ e6 n6) ez ?_
  have K67:KB p H6 H7:=fun b o z nb=>k7 b o (S6 _ _ z) nb
  have or7:Od p H7 rt:=by
   simp only[List.mem_cons,List.not_mem_nil,or_false] at hw;rcases hw with rfl|rfl
   ·exact od_lit .non
   ·exact o6.keep K67
  have ov7:=(ov5.keep k6).keep K67;have po7:=(po5.kb k6).kb K67;have oh7:=(oh.keep k6).keep K67;have K7:KB p H H7:=fun b o z nb=>K67 b o (k6 b o (K5 b o z nb) nb) nb;clear ov5 po5 oh K5 k6 k7 K67 o6 S6 e6 hw ez B6 B6';walk;refine⟨sz,fun l f=>?_⟩;have S:=Same.upd (o:=.lst [v,pg,hi,rt]) f;subst e0
  exact k l [v,pg,hi,rt] _ upd_same (B7.ne f) (.made v pg hi rt bL bI (ov7.keep S.kb) (po7.kb S.kb) (oh7.keep S.kb) (or7.keep S.kb)) (fun b o z nb=>S _ _ (K7 b o z nb)) ((B7.same S).mono (by omega))
 refine iteX (fun q=>e0 (V.int.inj q)) ?_;walk;by_cases e1:d=1
 ·subst e1;refine iteD rfl ?_;walk;refine⟨p,n,g,st,M,rfl,B,by omega,il,s,hgp,ok,fewp,fewn,htop,fun v1 H1 o1 k1 B1=>?_⟩;walk;refine⟨p,n+2,g,st,M,rfl,B1,by omega,il,k1.same s hgp,hgp,ok,fewp,fewn,htop,fun v2 H2 o2 k2 B2=>?_⟩;walk;refine⟨sz,fun l f=>?_⟩;have S:=Same.upd (o:=.lst [v1,v2]) f
  exact k l [v1,v2] _ upd_same (B2.ne f) (.lead v1 v2 ((o1.keep k2).keep S.kb) (o2.keep S.kb)) (fun b o z nb=>S _ _ (k2 b o (k1 b o z nb) nb)) ((B2.same S).mono (by omega))
 refine iteX (fun q=>e1 (V.int.inj q)) ?_;have d2:2<=d:=by omega
 walk;refine⟨sz,fun t0 f0=>?_⟩;have S0:=Same.upd (o:=.tup [.int 2,.int 3]) f0;have g0:upd H t0 (.tup [.int 2,.int 3]) t0=some (.tup [.int 2,.int 3]):=upd_same;generalize upd H t0 _=H0 at *;have B0:=B.same S0;have K0:KB p H H0:=S0.kb;refine⟨t0,[.int 2,.int 3],rfl,.inr (SqT.of g0),rfl,rfl,?_⟩
 rw[if_neg Bool.false_ne_true,show inV (.int d) [.int 2,.int 3]=decide (d∈([2,3]:List Int)) from inV_ints (ns:=[2,3])];clear S0 f0 g0 B;walk;by_cases h23:d∈([2,3]:List Int)
 ·refine iteD h23 ?_;walk;refine⟨p,3,n,rfl,B0,by omega,by decide,by decide,fun r1 H1 a0 a1 B1 k1=>?_⟩;walk;refine⟨p,n+1,rfl,B1,by omega,fun v2 H2 o2 k2 B2=>?_⟩;walk;refine newL fun l2 H2' f2 S2 e2=>?_;have n2:=B2.ne f2;have B2':=B2.same S2;walk;refine⟨p,4,n+2,rfl,B2',by omega,by decide,by decide,fun r3 H3 c0 c1 B3 k3=>?_⟩
  obtain⟨who,hw,ez⟩:=atI_mem (xs:=[.int r1,.int (10 ^ Int.toNat 6),.int (10 ^ Int.toNat 6+1),v2]) c0 c1;refine q_ixL (k3 _ _ e2 n2) ez ?_;have K23:KB p H2 H3:=fun b o z nb=>k3 b o (S2 _ _ z) nb
  have ow:Od p H3 who:=by
   simp only[List.mem_cons,List.not_mem_nil,or_false] at hw;rcases hw with rfl|rfl|rfl|rfl
   ·exact od_int (by omega)
   ·exact od_lit (.int _)
   ·exact od_lit (.int _)
   ·exact o2.keep K23
  have K3:KB p H H3:=fun b o z nb=>K23 b o (k2 b o (k1 b o (K0 b o z nb) nb) nb) nb;walk;exact⟨sz,fun l f=>last H3 who _ d2 ow K3 B3 (by omega) l f⟩
 refine iteX h23 ?_;walk;by_cases h6:d=6
 ·refine iteD (congrArg V.int h6) ?_;walk;refine⟨p,n,rfl,B0,by omega,fun v2 H2 o2 k2 B2=>?_⟩;walk;refine newL fun l2 H2' f2 S2 e2=>?_;have n2:=B2.ne f2;have B2':=B2.same S2;walk;refine⟨p,5,n+1,rfl,B2',by omega,by decide,by decide,fun r3 H3 c0 c1 B3 k3=>?_⟩;obtain⟨who,hw,ez⟩:=atI_mem (xs:=[.int 1,.int 6,.int 2,.int 5,v2]) c0 c1;refine q_ixL (k3 _ _ e2 n2) ez ?_
  have K23:KB p H2 H3:=fun b o z nb=>k3 b o (S2 _ _ z) nb
  have ow:Od p H3 who:=by
   simp only[List.mem_cons,List.not_mem_nil,or_false] at hw;rcases hw with rfl|rfl|rfl|rfl|rfl
   ·exact od_lit (.int _)
   ·exact od_lit (.int _)
   ·exact od_lit (.int _)
   ·exact od_lit (.int _)
   ·exact o2.keep K23
  have K3:KB p H H3:=fun b o z nb=>K23 b o (k2 b o (K0 b o z nb) nb) nb;walk;exact⟨sz,fun l f=>last H3 who _ d2 ow K3 B3 (by omega) l f⟩
 refine iteX (fun q=>h6 (V.int.inj q)) ?_;walk;refine⟨p,n,g,st,M,rfl,B0,by omega,il,K0.same s hgp,hgp,ok,fewp,fewn,htop,fun v1 H1 o1 k1 B1=>?_⟩;walk;exact⟨sz,fun l f=>last H1 v1 _ d2 o1 (fun b o z nb=>k1 b o (K0 b o z nb) nb) B1 (by omega) l f⟩
theorem kit_2 {K t a b x y}(h1:kitOne K t (.ref a)=some x)(h2:kitOne K t (.ref b)=some y):kitAny K t ([V.ref a,V.ref b].map vOf)=some (x||y):=by
 show kitAny K t [.ref a,.ref b]=_;unfold kitAny;rw[h1];cases x with
 | true=>rfl
 | false=>
  dsimp only;unfold kitAny;rw[h2];cases y<;>rfl
theorem cls2 {a b}:∀c∈[V.ref a,V.ref b],(∃n,c=.ty n)\/∃a,c=.ref a:=fun c h=>by
 simp only[List.mem_cons,List.not_mem_nil,or_false] at h;rcases h with rfl|rfl<;>exact .inr ⟨_,rfl⟩
theorem bt_zip:bootBuiltins "zip" = some (.type "zip"):=by decide +kernel
theorem r_zip {K}{ta:L2.TA}{σ:St}{H:Hp}{R:It->Hp->Prop}(h:ta σ H fun vs H1=>∃a b,vs=[.ref a,.ref b]/\(∃xs,SqL K H1 a xs)/\(∃ys,SqL K H1 b ys)/\R (ItZ K a b) H1):iZipL K ta σ H R:=h
theorem q_forZ {K a b}{xs ys:List V}{g:TG}{tb}{n bk ct:St->Hp->Prop}{rt}{σ:St}{H:Hp}(hlen:ys.length=xs.length)(Pv:Nat->St->Hp->Prop)(h0:Pv 0 σ H)(hl:∀i σ H,i<=xs.length->Pv i σ H->SqL K H a xs/\SqL K H b ys)
  (hs:∀i x y t σ H,xs[i]?=some x->ys[i]?=some y->Pv i σ H->H t=none->g (.ref t) σ (upd H t (.tup [x,y])) fun σ2 H2=>tb ⟨Pv (i+1),rt,n,Pv (i+1)⟩ σ2 H2) (hd:∀σ H,Pv xs.length σ H->n σ H):ForQ (ItZ K a b) g tb ⟨n,rt,bk,ct⟩ σ H:=for_zipL (D:=⟨n,rt,bk,ct⟩) hlen Pv h0 hl hs hd
theorem Any1.keep {K}{H H':Hp}{v t}(x:Any1 K H v t)(S:Same H H'):Any1 K H' v t:=by
 rcases x with g|⟨a,C,dx,fs,e,ea,i,et⟩
 ·exact .inl (g.keep S)
 ·exact .inr ⟨a,C,dx,fs,e,S _ _ ea,i,et⟩
inductive spSame (K:Frag)(c:Cs)(vs:List V)(H:Hp)(Q:VK)(E:XK):Prop
 | mk (l1 l2 p:Addr)(xs:List V):vs=[.ref l1,.ref l2]->H l1=some (.lst xs)->H l2=some (.lst xs)->xs.length<=5->(∀x∈xs,∃bL bI,PO K c.pg p H x bL bI)->(∀H',Same H H'->Q (.bl true) H')->spSame K c vs H Q E
theorem ok_lsame:Ok F F.r.d__law_same 1 (spSame K c):=by
 have T:=F.r.T;have KF:=F.KF;have MLeaf:=KF.mL;have MInner:=KF.mI;refine F.r.d__law_same.go fun sc H Q hr h=>?_;obtain⟨l1,l2,p,xs,rfl,h1,h2,hz,po,k⟩:=h
 refine'⟨_,(pss_cons (ps_if (pc op_ne (pe_callB call_len_seq rfl T.n_len bt_len (pa1 (pv 0))) (pe_callB call_len_seq rfl T.n_len bt_len (pa1 (pv 1))))
   (pss_one (ps_ret pe_bl))
   pss_nil)
  (pss_cons (ps_for PassesOwn.never rfl (pi_zipL rfl F.r.nz bt_zip (pa2 (pv 0) (pv 1))) (pg_tup rfl (pgs_cons (pg_v sc 2) (pgs_cons (pg_v sc 3) pgs_nil)))
   (pss_one (ps_if (PW.pt (pw_or (pt_val (pe_callB call_instA rfl T.n_isinstance bt_isinstance (pa2 (pv 2) (pe_tup (pa2 (pe_glob (v:=.ref c.pg.cL) rfl MLeaf rfl) (pe_glob (v:=.ref c.pg.cI) rfl MInner rfl)))))) (pw_or1 (pt_val (pe_callB call_instA rfl T.n_isinstance bt_isinstance (pa2 (pv 3) (pe_tup (pa2 (pe_glob (v:=.ref c.pg.cL) rfl MLeaf rfl) (pe_glob (v:=.ref c.pg.cI) rfl MInner rfl)))))))))
   (pss_one (ps_if (pc (op_neI (hu_of hr)) (pv 2) (pv 3))
   (pss_one (ps_ret pe_bl))
   pss_nil))
   (pss_one (ps_if (pc op_ne (pe_callB (call_reprD hr.gd hr.units) rfl T.n_repr bt_repr (pa1 (pv 2))) (pe_callB (call_reprD hr.gd hr.units) rfl T.n_repr bt_repr (pa1 (pv 3))))
   (pss_one (ps_ret pe_bl))
   pss_nil)))))
  (pss_one (ps_ret pe_bl)))),?_⟩
 walk;refine⟨l1,_,rfl,.inl (SqL.of h1),?_⟩;walk;refine⟨l2,_,rfl,.inl (SqL.of h2),?_⟩;walk;refine iteNS rfl ?_;walk;refine r_zip ?_;walk;refine⟨l1,l2,rfl,⟨xs,SqL.of h1⟩,⟨xs,SqL.of h2⟩,?_⟩;refine q_forZ rfl (fun i σ H1=>Same H H1/\∃o2 o3,σ=[some (.ref l1),some (.ref l2),o2,o3]) ⟨.refl _,_,_,rfl⟩ (fun i σ H1 _ z=>⟨SqL.of (z.1 _ _ h1),SqL.of (z.1 _ _ h2)⟩) ?_ ?_
 ·rintro i x y tt σ H1 ex ey ⟨S,o2,o3,rfl⟩ ft;cases Option.some.inj (ex.symm.trans ey);obtain⟨bL,bI,q⟩:=po x (List.mem_of_getElem? ex);have S1:=S.trans (Same.upd (o:=.tup [x,x]) ft);have e1:upd H1 tt (.tup [x,x]) tt=some (.tup [x,x]):=upd_same;generalize upd H1 tt _=H2 at *;walk;refine⟨sz,fun t2 f2=>?_⟩;have S2:=S1.trans (Same.upd (o:=.tup [.ref c.pg.cL,.ref c.pg.cI]) f2)
  have e2:upd H2 t2 (.tup [.ref c.pg.cL,.ref c.pg.cI]) t2=some (.tup [.ref c.pg.cL,.ref c.pg.cI]):=upd_same;generalize upd H2 t2 _=H3 at *;have q3:=q.kb (fun b o z _=>S2 _ _ z);obtain⟨ty,an,kL,kI⟩:=q3.pt F.ko;refine⟨x,_,ty,_,rfl,an,.inr (.inr ⟨t2,_,rfl,e2,cls2,kit_2 kL kI⟩),?_⟩;rcases q3 with⟨⟨d,dv,od⟩,rfl,rfl⟩|⟨a,C,dx,fs,rfl,ea,_,ic,k1,k2,_⟩
  ·rw[Bool.or_false];walk;refine⟨sz,fun t4 f4=>?_⟩;have S34:=Same.upd (o:=.tup [.ref c.pg.cL,.ref c.pg.cI]) f4;have S4:=S2.trans S34;have e4:upd H3 t4 (.tup [.ref c.pg.cL,.ref c.pg.cI]) t4=some (.tup [.ref c.pg.cL,.ref c.pg.cI]):=upd_same;have dv4:=dv.keep (H':=upd H3 t4 (.tup [.ref c.pg.cL,.ref c.pg.cI])) (fun _ o _ z=>S34 _ _ z) fun _ z=>z;generalize upd H3 t4 _=H4 at *
   refine⟨x,_,_,_,rfl,(Any1.keep an S34),.inr (.inr ⟨t4,_,rfl,e4,cls2,kit_2 kL kI⟩),?_⟩;rw[Bool.or_false];walk;have od1:Okd 100000 d:=⟨od.sh,od.lv,od.dp,Nat.le_trans od.wt (by decide)⟩;obtain⟨tx,etx⟩:∃s,d.shown=s:=⟨_,rfl⟩;refine⟨x,_,d,rfl,dv4,od1,?_⟩;rw[etx];walk;refine⟨x,_,d,rfl,dv4,od1,?_⟩;rw[etx];clear etx;walk;refine iteNS rfl ?_;walk;exact⟨S4,_,_,rfl⟩
  ·have hb:(bL||bI)=true:=by
    rcases ic with rfl|rfl
    ·rw[KF.LL] at k1;cases k1;rfl
    ·rw[KF.II] at k2;cases k2;cases bL<;>rfl
   rw[hb];walk;refine⟨a,C,dx,fs,rfl,rfl,ea,F.ne C ic,?_⟩;walk;exact⟨S2,_,_,rfl⟩
 ·rintro σ H1 ⟨S,o2,o3,rfl⟩;walk;exact k H1 S
theorem Od.tg {K p}{H:Hp}{v}(x:Od p H v):∃t,Thg K H v t:=let⟨_,a,_⟩:=x;⟨_,a.thg⟩
theorem Ths.keep {K c}{H H':Hp}{M}{d:Int}{us}{r:Option Rf}(x:Ths K c H M d us r)(S:Same H H'):Ths K c H' M d us r:=by
 cases x with
 | made v pg hi rt tv th tr bL bI g1 g2 g3 g4=>exact .made v pg hi rt tv th tr bL bI (g1.keep S) (g2.keep S) (g3.keep S) (g4.keep S)
 | lead v u tv tu g1 g2=>exact .lead v u tv tu (g1.keep S) (g2.keep S)
 | enter v tv g=>exact .enter v tv (g.keep S)
 | leave v tv g=>exact .leave v tv (g.keep S)
 | node v tv g=>exact .node v tv (g.keep S)
 | page v tv g=>exact .page v tv (g.keep S)
 | most v tv g=>exact .most v tv (g.keep S)
theorem due_po {K c p}{H:Hp}(r:Rf)(h:∀y∈r.us,∃bL bI,PO K c p H y bL bI):r.due.length<=5/\∀y∈r.due,∃bL bI,PO K c p H y bL bI:=by
 cases r
 all_goals
  refine⟨Nat.le_of_ble_eq_true rfl,fun y hy=>?_⟩;rcases List.mem_cons.mp hy with rfl|hy
  ·exact⟨false,false,.inl ⟨od_lit (.str _),rfl,rfl⟩⟩
  ·exact h y hy
theorem ThO.ths {K}{c:Cs}{p}{H:Hp}{M}{d:Int}{us}(O:KdO K c.pg)(x:ThO K c.pg p H d us):∃r,Ths K c H M d us r/\∀r',r=some r'->r'.due.length<=5/\∀y∈r'.due,∃bL bI,PO K c.pg p H y bL bI:=by
  have o1:∀{y z},Od p H z->y∈[z]->∃bL bI,PO K c.pg p H y bL bI:=fun o m=>by rw[List.mem_singleton.mp m];exact⟨false,false,.inl ⟨o,rfl,rfl⟩⟩
  cases x with
  | made v pg hi rt bL bI ov po oh ort=>
    obtain⟨_,gv⟩:=ov.tg (K:=K);obtain⟨_,gh⟩:=oh.tg (K:=K);obtain⟨_,gr⟩:=ort.tg (K:=K);refine⟨_,.made v pg hi rt _ _ _ bL bI gv gh gr (po.pt O),fun r' e=>due_po r' fun y hy=>?_⟩;unfold rfMade rfPg rfEdge at e
    repeat' split at e
    all_goals cases e
    all_goals first
      | exact o1 ov hy
      | (rw[List.mem_singleton.mp hy];exact⟨bL,bI,po⟩)
      | (rcases List.mem_cons.mp hy with rfl|hy
         · exact⟨false,false,.inl ⟨oh,rfl,rfl⟩⟩
         · exact o1 ort hy)
  | lead v u ov ou=>
    obtain⟨_,gv⟩:=ov.tg (K:=K);obtain⟨_,gu⟩:=ou.tg (K:=K);refine⟨_,.lead v u _ _ gv gu,fun r' e=>due_po r' fun y hy=>?_⟩;unfold rfLead at e
    repeat' split at e
    all_goals cases e
    · exact o1 ov hy
    · exact o1 ou hy
  | one d v h2 h6 ov=>
    obtain⟨_,gv⟩:=ov.tg (K:=K);have:d=2\/d=3\/d=4\/d=5\/d=6:=by omega
    rcases this with rfl|rfl|rfl|rfl|rfl
    · refine⟨_,.enter v _ gv,fun r' e=>due_po r' fun y hy=>?_⟩
      unfold rfEnter at e
      repeat' split at e
      all_goals first|(cases e;exact o1 ov hy)|cases e
    · refine⟨_,.leave v _ gv,fun r' e=>due_po r' fun y hy=>?_⟩
      unfold rfLeave at e
      repeat' split at e
      all_goals first|(cases e;exact o1 ov hy)|cases e
    · refine⟨_,.node v _ gv,fun r' e=>due_po r' fun y hy=>?_⟩
      unfold rfTold at e
      repeat' split at e
      all_goals first|(cases e;exact o1 ov hy)|cases e
    · refine⟨_,.page v _ gv,fun r' e=>due_po r' fun y hy=>?_⟩
      unfold rfTold at e
      repeat' split at e
      all_goals first|(cases e;exact o1 ov hy)|cases e
    · refine⟨_,.most v _ gv,fun r' e=>due_po r' fun y hy=>?_⟩
      unfold rfMost at e
      repeat' split at e
      all_goals first|(cases e;exact o1 ov hy)|cases e
inductive spLaw (K:Frag)(vs:List V)(H:Hp)(Q:VK)(E:XK):Prop
 | mk (a:Addr)(ns:List Int):vs=[.ref a]->SqL K H a (ns.map V.int)->ns.length<=63->(∀H',Q (.bl true) H')->spLaw K vs H Q E
theorem sqS {K}{H H':Hp}{a xs}(S:Same H H')(h:SqL K H a xs):SqL K H' a xs:=by
 rcases h with h|h
 ·rcases h with h|⟨o,h⟩
  ·exact .inl (.inl (S _ _ h))
  ·exact .inl (.inr ⟨o,S _ _ h⟩)
 ·exact .inr h
theorem ok_law:Ok F F.r.d_law 16 (spLaw K):=by
 obtain⟨fT,fdT,XTree⟩:=F.TX;have GTree:=ok_T_init F XTree;have T:=F.r.T;refine F.r.d_law.go fun sc H Q hr h=>?_;obtain⟨s,ns,rfl,hS,hz,k⟩:=h;have big:=big1000
 refine'⟨_,(pss_cons (ps_v sc 1 (pe_d (ok_box F) hr (pa1 (pe_d (ok_cell F) hr (pa2 (pv 0) pe_int)))))
  (pss_cons (ps_v sc 2 (pe_op op_add pe_int (pe_d (ok_take F) hr (pa2 (pv 1) pe_int))))
  (pss_cons (ps_v sc 3 (pe_make XTree.mak GTree (hr.mono (by decide)) rfl XTree.m XTree.bi .nil pass0 (pa1 (pv 2))))
  (pss_cons (ps_v sc 4 (pe_d (ok_state F) hr (pa1 (pv 2))))
  (pss_cons (ps_for PassesOwn.never rfl (pi_range2 rfl T.n_range (pa2 pe_int (pe_callB (call_max2 rfl) rfl T.n_max bt_max (pa2 pe_int (pe_callB (call_min2 rfl) rfl T.n_min bt_min (pa2 (pe_callB call_len_seq rfl T.n_len bt_len (pa1 (pv 0))) pe_int)))))) (pg_v sc 5)
   (pss_cons (ps_v sc 1 (pe_d (ok_box F) hr (pa1 (pe_d (ok_cell F) hr (pa2 (pv 0) (pv 5))))))
  (pss_cons (ps_v sc 6 (pe_d (ok_take F) hr (pa2 (pv 1) pe_int)))
  (pss_cons (ps_if (pt_not (pt_val (pe_d (ok_done F) hr (pa3 (pv 1) (pv 3) (pv 4)))))
   (pss_one (ps_ret pe_bl))
   pss_nil)
  (pss_cons (ps_for PassesOwn.never rfl (pi_range1 rfl T.n_range (pa1 pe_int)) (pg_v sc 7)
   (pss_cons (ps_v sc 8 (pe_d (ok_things F) hr (pa3 (pv 1) (pv 4) (pv 6))))
  (pss_cons (ps_v sc 9 (pe_d (ok_ldue F) hr (pa3 (pv 4) (pv 6) (pv 8))))
  (pss_one (ps_if (PW.pt (pw_and (pc op_notN (pv 9) pe_non) (pw_and1 (pt_not (pt_val (pe_d (ok_lsame F) hr (pa2 (pe_d (ok_ltried F) hr (pa3 (pv 6) (pv 3) (pv 8))) (pv 9))))))))
   (pss_one (ps_ret pe_bl))
   pss_nil)))))
  (pss_one (ps_if (pt_not (pt_val (pe_d (ok_stands F) hr (pa2 (pv 3) (pv 4)))))
   (pss_one (ps_ret pe_bl))
   pss_nil)))))))
  (pss_one (ps_ret pe_bl))))))),?_⟩
 walk;refine⟨s,0,ns,rfl,hS,fun i0=>?_⟩;walk;refine⟨i0,rfl,fun p H1 fp B1 S1=>?_⟩;walk;refine⟨p,4,0,rfl,B1,by omega,by decide,by decide,fun r H2 r0 r1 B2 k2=>?_⟩;have S2:Same H H2:=fun b o z=>k2 b o (S1 _ _ z) fun e=>by rw[e,fp] at z;cases z
 clear B1 k2 S1;walk;intro x dx fx fdx nxd;have S3:Same H2 (upd (upd H2 dx (.own x)) x (.ins c.T dx [])):=fun b o z=>by rw[upd_ne (ne_of_none z fx),upd_ne (ne_of_none z fdx)];exact z
 have e3:=upd_same (H:=upd H2 dx (.own x)) (a:=x) (o:=.ins c.T dx []);generalize upd (upd H2 dx (.own x)) x (.ins c.T dx [])=H3 at *;refine⟨x,dx,2+r,rfl,e3,by omega,by omega,fun a h H4 t4 sh4 nw4 bt4=>⟨rfl,?_⟩⟩;have S4:Same H H4:=fun b o z=>bt4 b o (S3 _ _ (S2 _ _ z)) fun e=>by rw[e] at z;have:=S2 _ _ z;rw[fx] at this;cases this
 have out4:∀b o,H b=some o->h b=none:=fun b o z=>by
  rcases nw4 b with e|e|e
  ·exact e
  ·rw[e] at z;have:=S2 _ _ z;rw[fx] at this;cases this
  ·have:=S3 _ _ (S2 _ _ z);rw[e] at this;cases this
 walk;refine⟨2+r,rfl,fun gN gS st dn nd la H5 S5 tn ts ds sN sS nwN nwS=>?_⟩
 have fr:∀b o,H4 b=some o->uH gN gS b=none:=fun b o z=>by
  rw[uH_none];constructor
  ·rcases nwN b with e|e
   ·exact e
   ·rw[e] at z;cases z
  ·rcases nwS b with e|e
   ·exact e
   ·rw[e] at z;cases z
 have inv5:Inv c a h (uH gN gS) x st (MS.init (2+r)) H5:=⟨t4,⟨gN,gS,dn,nd,la,[0],[],0,rfl,ds,tn,ts,rfl⟩,fun b=>by
  cases e:h b with
  | none=>exact .inl rfl
  | some o=>exact .inr (fr b o (sh4 _ _ e)),sh4.trans S5,uH_same sN sS⟩
 have ok0:=MOk.init (2+r);have S5':=S4.trans S5;have out5:∀b o,H b=some o->h b=none/\uH gN gS b=none:=fun b o z=>⟨out4 b o z,fr b o (S4 _ _ z)⟩;clear fr out4 nwN nwS sN sS S5 S4 nw4 bt4 S3 S2 e3;generalize uH gN gS=g at *;walk;refine⟨s,_,rfl,.inl (sqS S5' hS),?_⟩;walk;refine⟨_,_,rfl,?_⟩;walk;refine⟨_,_,rfl,?_⟩;rw[List.length_map]
 have b1:(if (if (21:Int)<(ns.length:Int) then (21:Int) else (ns.length:Int)) > 6 then (if (21:Int)<(ns.length:Int) then (21:Int) else (ns.length:Int)) else 6)<=21/\6<=(if (if (21:Int)<(ns.length:Int) then (21:Int) else (ns.length:Int)) > 6 then (if (21:Int)<(ns.length:Int) then (21:Int) else (ns.length:Int)) else 6):=by
  constructor<;>(repeat' split)<;>omega
 generalize (if (if (21:Int)<(ns.length:Int) then (21:Int) else (ns.length:Int)) > 6 then (if (21:Int)<(ns.length:Int) then (21:Int) else (ns.length:Int)) else 6)=top at *;walk;refine k_rng2 (by omega) (by omega) (by omega) (by omega) ?_
 refine q_forR (fun i σ H7=>∃(o1 o5 o6 o7 o8 o9:Option V) (a':TA) (h' g':Hp) (M':MS),σ=[some (.ref s),o1,some (.int (2+r)),some (.ref x),some (.ref st),o5,o6,o7,o8,o9]/\Inv c a' h' g' x st M' H7/\MOk i M'/\Same H H7/\∀b o,H b=some o->h' b=none/\g' b=none) ⟨_,_,_,_,_,_,a,h,g,_,rfl,inv5,ok0,S5',out5⟩ ?_ ?_
 ·rintro i σ H7 hi ⟨o1,o5,o6,o7,o8,o9,a',h',g',M',rfl,inv,ok,S7,out⟩;have hi':i<20:=by omega
  walk;refine⟨s,i+1,ns,(by rw[show (1:Int)+(i:Int)=((i+1:Nat):Int) by omega];rfl),sqS S7 hS,fun i1=>?_⟩;walk;refine⟨i1,rfl,fun p' H8 fp' B8 S8=>?_⟩;have np:∀b o,H b=some o->b≠p':=fun b o z e=>by have:=S7 _ _ z;rw[e,fp'] at this;cases this
  have hp':=inv.sh.free fp';have gp':=inv.sg.free fp';walk;refine⟨p',7,0,rfl,B8,by omega,by decide,by decide,fun d H9 d0 d1 B9 k9=>?_⟩;have K9:KB p' H7 H9:=fun b o z n=>k9 b o (S8 _ _ z) n;walk;refine⟨a',h',g',x,st,M',i,p',0+1,rfl,⟨inv.t,inv.l,inv.d,K9.same inv.sh hp',K9.same inv.sg gp'⟩,ok,by omega,B9,by omega,hp',gp',fun a2 h2 g2 M2 H10 inv2 ok2 st2=>?_⟩;obtain⟨st2,hp2,gp2,n0,hn0,B10⟩:=st2
  have S10:Same H H10:=fun b o z=>(st2 b o (K9 b o (S7 _ _ z) (np b o z)) (out b o z).1 (out b o z).2 (np b o z)).1;have out2:∀b o,H b=some o->h2 b=none/\g2 b=none:=fun b o z=>(st2 b o (K9 b o (S7 _ _ z) (np b o z)) (out b o z).1 (out b o z).2 (np b o z)).2;have few:=ok2.few;have ln:=ok2.ln
  have htop:∀q,M2.top=some q->q.natAbs<=1000:=fun q e=>by
   obtain⟨q',e',hq⟩:=ok2.tp;rw[e] at e';cases Option.some.inj e';have:=ok2.r.rg q (by unfold RS.places;exact List.mem_append_left _ (List.mem_append_left _ hq));omega
  have fewc:=ok2.cs;clear K9 k9 S8 B8 B9 inv ok S7 out hp' gp' fp';walk;refine k_rng1 (by decide) (by decide) ?_
  refine q_forR (fun j σ H11=>∃(o7 o8 o9:Option V) (n:Nat),σ=[some (.ref s),some (.ref p'),some (.int (2+r)),some (.ref x),some (.ref st),some (.int (1+i)),some (.int d),o7,o8,o9]/\Inv c a2 h2 g2 x st M2 H11/\Same H H11/\n<=500000+20 * j/\Box H11 p' n) ⟨_,_,_,n0,rfl,inv2,S10,by omega,B10⟩ ?_ ?_
  ·rintro j σ H11 hj ⟨o7',o8',o9',n,rfl,inv3,S11,hn,B11⟩;have hj3:j<3:=hj;walk;refine⟨p',n,g2,st,M2,d,rfl,d0,by omega,B11,by omega,inv3.l,inv3.sg,gp2,ok2.r,by omega,by omega,htop,fun l us H12 el nl tho k12 B12=>?_⟩;obtain⟨rr,ths,dpo⟩:=tho.ths (M:=M2) F.ko;have sh12:=k12.same inv3.sh hp2;have sg12:=k12.same inv3.sg gp2;have S12:Same H H12:=fun b o z=>k12 b o (S11 _ _ z) (np b o z)
   have fin:∀H',Same H12 H'->∀o7 o8 o9:Option V,∃(o7' o8' o9':Option V) (n:Nat),[some (.ref s),some (.ref p'),some (.int (2+r)),some (.ref x),some (.ref st),some (.int (1+i)),some (.int d),o7,o8,o9]=[some (.ref s),some (.ref p'),some (.int (2+r)),some (.ref x),some (.ref st),some (.int (1+i)),some (.int d),o7',o8',o9']/\Inv c a2 h2 g2 x st M2 H'/\Same H H'/\n<=500000+20 * (j+1)/\Box H' p' n:=fun H' S' o7 o8 o9=>⟨o7,o8,o9,n+20,rfl,⟨inv3.t,inv3.l,inv3.d,sh12.trans S',sg12.trans S'⟩,S12.trans S',by omega,B12.same S'⟩
   walk;refine⟨g2,st,M2,d,l,us,rr,rfl,inv3.l,sg12,ok2.r,by omega,by omega,el,ths,⟨fun e H13 S13=>?_,fun r' e ld H13 f13 S13 e13=>?_⟩⟩
   ·walk;refine⟨rfl,?_⟩;walk;refine iteNS rfl ?_;walk;exact fin _ S13 _ _ _
   ·walk;refine⟨rfl,?_⟩;walk;refine iteNX (fun z=>nomatch z) ?_;walk;refine⟨a2,h2,x,M2,d,l,us,r',rfl,inv3.t,sh12.trans S13,ok2.r,S13 _ _ el,e▸ths.keep S13,fun l' H14 S14 f14 e14=>?_⟩;obtain⟨len5,dpo⟩:=dpo r' e;walk;refine⟨l',ld,p',r'.due,rfl,e14,S14 _ _ e13,len5,fun y hy=>let⟨bL,bI,q⟩:=dpo y hy;⟨bL,bI,q.kb fun b o z _=>S14 _ _ (S13 _ _ z)⟩,fun H15 S15=>?_⟩;walk
    exact fin _ (S13.trans (S14.trans S15)) _ _ _
  ·rintro σ H11 ⟨o7',o8',o9',n,rfl,inv3,S11,hn,B11⟩;walk;refine⟨a2,h2,x,g2,st,M2,i+1,rfl,inv3.t,inv3.sh,inv3.l,inv3.sg,ok2,by omega,fun HA SA=>?_⟩;walk;exact⟨_,_,_,_,_,_,a2,h2,g2,M2,rfl,⟨inv3.t,inv3.l,inv3.d,inv3.sh.trans SA,inv3.sg.trans SA⟩,ok2,S11.trans SA,out2⟩
 ·rintro σ H7 ⟨o1,o5,o6,o7,o8,o9,a',h',g',M',rfl,inv,ok,S7,out⟩;walk;exact k H7
section
variable {K:Frag}{mg:Str->Option Value}{nm cn q x:Str}{st:Stmt}{ps:List Str}{h:Heap}{C D f:Addr}{od an:Option Addr}{osl:Array (Option Value)}{kV doc pm cdv ct:Value}
theorem fn_facts {d}(l1:K.lookup f=some ⟨.type "function",od,.func d,osl⟩):keepIn K (.ref f)=true/\isFn K (.ref f)=true:=by
 refine⟨by unfold keepIn;dsimp only;rw[l1],?_⟩;unfold isFn;rw[show typeIn K (.ref f)=(K.lookup f).map (·.cls) from rfl,l1];rfl
theorem kit_m {dd cd b}(l:K.lookup D=some ⟨.type "type",dd,.cls cd,osl⟩)(s:mroIn K C (.ref C)=some true)(m:mroIn K C (.ref D)=some b):kitOne K (.ref C) (.ref D)=some b:=by
 unfold kitOne;by_cases e:C=D
 ·subst e;rw[if_pos (by simp),<- m,s]
 ·rw[if_neg (by intro z;exact e (Value.ref.inj (beq_iff_eq.mp z)))];have h':clsIn K D=some cd:=by unfold clsIn;rw[l]
  have ty:typeIn K (.ref D)=some (.type "type"):=by
   show (K.lookup D).map (·.cls)=_;rw[l];rfl
  unfold PySem.W.kitCls;dsimp only;rw[if_pos (by rw[h',ty];rfl)];exact m
theorem fun_uniq {fd fd'}(a:Fun K x q st f fd)(b:Fun K x q st f fd'):fd=fd':=by
 obtain⟨_,_,_,_,_,_,_,_,_,_,l1,_⟩:=a.ex;obtain⟨_,_,_,_,_,_,_,_,_,_,l2,_⟩:=b.ex;rw[l1] at l2;cases l2;rfl
def BB (K:Frag)(mg:Str->Option Value)(nm q:Str)(st:Stmt):Prop:=∃C D f fd,mg "Leaf" = some (.ref C)/\mg "Inner" = some (.ref D)/\Meth K C nm f/\Meth K D nm f/\Fun K nm q st f fd/\Binds K fd ["self"] []
def KT (K:Frag)(mg:Str->Option Value):Prop:=∃cL cI,mg "Leaf" = some (.ref cL)/\mg "Inner" = some (.ref cI)/\kitOne K (.ref cL) (.ref cL)=some true/\kitOne K (.ref cL) (.ref cI)=some false/\kitOne K (.ref cI) (.ref cL)=some false/\kitOne K (.ref cI) (.ref cI)=some true/\KdO K ⟨cL,cI⟩
theorem kit_t {dd cd T}(h:K.lookup D=some ⟨.type "type",dd,.cls cd,osl⟩)(n:subIn K (.type T) (.ref D)=some false):kitOne K (.type T) (.ref D)=some false:=by
 unfold kitOne PySem.W.kitCls;rw[if_neg (by intro z;cases beq_iff_eq.mp z)];dsimp only;rw[if_pos (by unfold clsIn;rw[show typeIn K (.ref D)=(K.lookup D).map (·.cls) from rfl,h];rfl)];exact n
theorem kit_o {dd d' cd cd' s'}(h:K.lookup C=some ⟨.type "type",dd,.cls cd,osl⟩)(h':K.lookup D=some ⟨.type "type",d',.cls cd',s'⟩):KdO K ⟨C,D⟩:=fun T hT=>by
 simp only[List.mem_cons,List.not_mem_nil,or_false] at hT;rcases hT with rfl|rfl|rfl|rfl|rfl|rfl|rfl<;>exact⟨kit_t h (by kernel_rfl),kit_t h' (by kernel_rfl)⟩
section
variable (X:K.In h)(G:h.Ns mainGlobals mg)
include X G
theorem int_of {i:Int}{t}(a:nsIn K mainGlobals x=some (some (.int i t))):∃t,mg x=some (.int i t):=⟨t,mg_of X G a⟩
theorem kin_mk {cL cI d2 d3 e2 e3 s2 s3}(aL:nsIn K mainGlobals "Leaf" = some (some (.ref cL)))(aI:nsIn K mainGlobals "Inner" = some (some (.ref cI)))
  (lL:K.lookup cL=some ⟨.type "type",d2,.cls e2,s2⟩) (lI:K.lookup cI=some ⟨.type "type",d3,.cls e3,s3⟩) (m1:mroIn K cL (.ref cL)=some true) (m2:mroIn K cI (.ref cI)=some true) (m5:mroIn K cL (.ref cI)=some false) (m6:mroIn K cI (.ref cL)=some false):KT K mg:=
 ⟨cL,cI,mg_of X G aL,mg_of X G aI,kit_m lL m1 m1,kit_m lI m1 m5,kit_m lL m2 m6,kit_m lI m2 m2,kit_o lL lI⟩
section
variable (k1:findIn K (.ref C) nm=some (some (.ref f)))(l1:K.lookup f=some ⟨.type "function",od,.func (fnOf nm q (defArgs st) (defBody st) (defScope st) .none kV doc pm an cdv ct),osl⟩)(c1:codeIn K cdv q=true)
  (hb:∀(kV doc pm:Value) (an:Option Addr) (cdv ct:Value) (us:List Value),us.length=ps.length->bindArgs (fnOf nm q (defArgs st) (defBody st) (defScope st) .none kV doc pm an cdv ct) ⟨us,[]⟩=pure (ps.zip us))
include k1 l1 c1 hb
theorem meth_mk (aC:nsIn K mainGlobals cn=some (some (.ref C))):MM K mg cn nm q st ps:=by
 obtain⟨kf,ff⟩:=fn_facts l1;exact⟨C,f,_,mg_of X G aC,⟨k1,ff,kf⟩,fun_mk (st:=st) l1 c1 kf,(fun_mk (st:=st) l1 c1 kf).binds hb⟩
theorem both_mk (e:ps=(["self"]:List Str))(aC:nsIn K mainGlobals "Leaf" = some (some (.ref C)))(aD:nsIn K mainGlobals "Inner" = some (some (.ref D)))(k2:findIn K (.ref D) nm=some (some (.ref f))):BB K mg nm q st:=by
 obtain⟨kf,ff⟩:=fn_facts l1;subst e;exact⟨C,D,f,_,mg_of X G aC,mg_of X G aD,⟨k1,ff,kf⟩,⟨k2,ff,kf⟩,fun_mk (st:=st) l1 c1 kf,(fun_mk (st:=st) l1 c1 kf).binds hb⟩
end
section
variable (aC:nsIn K mainGlobals cn=some (some (.ref C)))(l1:K.lookup f=some ⟨.type "function",od,.func (fnOf "__init__" q (defArgs st) (defBody st) (defScope st) .none kV doc pm an cdv ct),osl⟩)(c1:codeIn K cdv q=true)
  (hb:∀(kV doc pm:Value) (an:Option Addr) (cdv ct:Value) (us:List Value),us.length=ps.length->bindArgs (fnOf "__init__" q (defArgs st) (defBody st) (defScope st) .none kV doc pm an cdv ct) ⟨us,[]⟩=pure (ps.zip us))
include aC l1 c1 hb
theorem pg_mk (e1:cn=("Page" : Str))(e2:q=("Page.__init__" : Str))(e3:st=inClass (top 42) 0)(e4:ps=(["self","keys","goods"]:List Str))(b1:specialIn K (.ref C) "__getattribute__" = some (some (.builtin "type.__getattribute__")))(b2:PySem.W.readsIn K C (.type "type")=true)
  (b3:PySem.W.findCls K (.ref C) (.type "type") "__init__" = some (.val (.ref f))):∃cP fP fdP,PgN K mg cP fP fdP:=by
 obtain⟨kf,ff⟩:=fn_facts l1;subst e1 e2 e3 e4;exact⟨C,f,_,⟨fun_mk l1 c1 kf,(fun_mk (st:=inClass (top 42) 0) l1 c1 kf).binds hb,⟨b1,b2,b3,kf⟩,mg_of X G aC⟩⟩
variable (m1:PySem.W.makesIn K C=true)(i1:findIn K (.ref C) "__init__" = some (some (.ref f)))(i2:keepIn K (.ref C)=true)
  (p1:PySem.W.plainGet K C Str.empty=true) (p2:hasDictIn K C=true) (p3:PySem.W.plainOver K C=true) (p4:findIn K (.ref C) "__setattr__" = some (some (.builtin "object.__setattr__")))
include m1 i1 i2 p1 p2 p3 p4
theorem cl_mk:∃fd,Mk K C f/\Fun K "__init__" q st f fd/\Binds K fd ps []/\mg cn=some (.ref C)/\Cls K C:=by
 obtain⟨kf,ff⟩:=fn_facts l1;exact⟨_,⟨m1,i1,ff,i2⟩,fun_mk (st:=st) l1 c1 kf,(fun_mk (st:=st) l1 c1 kf).binds hb,mg_of X G aC,⟨p1,p2,p3,p4⟩⟩
theorem kdn_mk (e4:ps=(["self","keys","goods"]:List Str))(q1:findIn K (.ref C) "__class__" = some (some (.builtin "object.__class__")))(q2:specialIn K (.builtin "object.__class__") "__get__" = some (some (.builtin "getset_descriptor.__get__")))(q3:takesIn K (.builtin "object.__class__")=some true)(q4:mroIn K C (.type "object")=some true)
  (n1:findIn K (.ref C) "key_row" = some none) (n2:findIn K (.ref C) "good_row" = some none):∃C f fd,KdN K mg cn q st C f fd:=by
 obtain⟨fd,a,b,c,d,e⟩:=cl_mk X G aC l1 c1 hb m1 i1 i2 p1 p2 p3 p4;subst e4;exact⟨C,f,fd,⟨a,b,c,d,⟨e,q1,q2,q3,q4⟩,n1,n2⟩⟩
theorem rdn_mk (e1:cn=("Rounds" : Str))(e2:q=("Rounds.__init__" : Str))(e3:st=inClass (top 46) 0)(e4:ps=(["self"]:List Str))(n1:findIn K (.ref C) "in_use" = some none)(n2:findIn K (.ref C) "kept_laps" = some none)(n3:findIn K (.ref C) "free_ones" = some none)(n4:findIn K (.ref C) "call_laps" = some none)(n5:findIn K (.ref C) "lap_now" = some none):∃C f fd,RdN K mg C f fd:=by
 obtain⟨fd,a,b,c,d,e⟩:=cl_mk X G aC l1 c1 hb m1 i1 i2 p1 p2 p3 p4;subst e1 e2 e3 e4;exact⟨C,f,fd,⟨a,b,c,d,e,n1,n2,n3,n4,n5⟩⟩
theorem ndn_mk (e1:cn=("Node" : Str))(e2:q=("Node.__init__" : Str))(e3:st=inClass (top 52) 0)(e4:ps=(["self","level","bears","high","right"]:List Str))(n1:findIn K (.ref C) "level" = some none)(n2:findIn K (.ref C) "bears" = some none)(n3:findIn K (.ref C) "high" = some none)(n4:findIn K (.ref C) "right" = some none)(n5:findIn K (.ref C) "holder" = some none)(n6:findIn K (.ref C) "written" = some none):∃C f fd,NdN K mg C f fd:=by
 obtain⟨fd,a,b,c,d,e⟩:=cl_mk X G aC l1 c1 hb m1 i1 i2 p1 p2 p3 p4;subst e1 e2 e3 e4;exact⟨C,f,fd,⟨a,b,c,d,e,n1,n2,n3,n4,n5,n6⟩⟩
theorem trn_mk (e1:cn=("Tree" : Str))(e2:q=("Tree.__init__" : Str))(e3:st=inClass (top 53) 0)(e4:ps=(["self","most"]:List Str))(n1:findIn K (.ref C) "most_keys" = some none)(n2:findIn K (.ref C) "own_rounds" = some none)(n3:findIn K (.ref C) "nodes" = some none)(n4:findIn K (.ref C) "versions" = some none)(n5:findIn K (.ref C) "top_place" = some none):∃C f fd,TrN K mg C f fd:=by
 obtain⟨fd,a,b,c,d,e⟩:=cl_mk X G aC l1 c1 hb m1 i1 i2 p1 p2 p3 p4;subst e1 e2 e3 e4;exact⟨C,f,fd,⟨a,b,c,d,e,n1,n2,n3,n4,n5⟩⟩
end
theorem nec_mk (aC:nsIn K mainGlobals cn=some (some (.ref C)))(e1:findIn K (.ref C) "__ne__" = some (some (.builtin "object.__ne__")))(e2:findIn K (.ref C) "__eq__" = some (some (.builtin "object.__eq__")))(e3:mroIn K C (.type "object")=some true):∃C,mg cn=some (.ref C)/\NeC K C:=⟨C,mg_of X G aC,e1,e2,e3⟩
end
end
structure CF (K:Frag)(mg:Str->Option Value)(T C:Addr)(x q:Str)(st:Stmt)(ps:List Str):Prop where
 lk:∃(qn:Str) (N:Addr) (bs:List Value) (sn:List Str) (sub:List Value) (ab:Bool) (col:Option Bool) (dd:Option Addr) (k0 k1 k2 k3 k5:Option Value),K.lookup C=some (excClassObj x qn C N bs (.ref T::bmV) true sn sub ab col dd k0 k1 k2 k3 k5 "ValueError.__new__")
 ini:∃fI fd,findIn K (.ref C) "__init__" = some (some (.ref fI))/\isFn K (.ref fI)=true/\Fun K "__init__" q st fI fd/\Binds K fd ("self" :: ps) []
 kp:keepIn K (.ref C)=true
 sa:findIn K (.ref C) "__setattr__" = some (some (.builtin "object.__setattr__"))
 ga:findIn K (.ref C) "__getattribute__" = some (some (.builtin "BaseException.__getattribute__"))
 no:findIn K (.ref C) "__getattr__" = some none
 ca:findIn K (.ref C) "__class__" = some (some (.builtin "object.__class__"))
 mC:mg x=some (.ref C)
 na:∀f∈ps,NoAttr K C f
structure TF (K:Frag)(mg:Str->Option Value)(T:Addr):Prop where
 lk:∃(qn:Str) (N:Addr) (bs:List Value) (sn:List Str) (sub:List Value) (ab:Bool) (col:Option Bool) (dd:Option Addr) (k0 k1 k2 k3 k5:Option Value),K.lookup T=some (excClassObj "TreeError" qn T N bs bmV true sn sub ab col dd k0 k1 k2 k3 k5 "ValueError.__new__") /\
  ∃(d0:Value) (d1:Option Addr) (es:Array DictEntry) (n:Nat) (sl':Array (Option Value)),K.lookup N=some ⟨d0,d1,.dict es n,sl'⟩/\strK es=true/\nsFind es "__init__" = none
 b:BaseInit K T
 init:findIn K (.ref T) "__init__" = some (some (.builtin "ValueError.__init__"))
 kp:keepIn K (.ref T)=true
 ga:findIn K (.ref T) "__getattribute__" = some (some (.builtin "BaseException.__getattribute__"))
 no:findIn K (.ref T) "__getattr__" = some none
 ca:findIn K (.ref T) "__class__" = some (some (.builtin "object.__class__"))
 cn:specialIn K (.builtin "object.__class__") "__get__" = some (some (.builtin "getset_descriptor.__get__"))
 ct:takesIn K (.builtin "object.__class__")=some true
 mT:mg "TreeError" = some (.ref T)
section
variable {K:Frag}{mg:Str->Option Value}{T C:Addr}{x q:Str}{st:Stmt}{ps:List Str}
theorem cls_in {nm qn N bs bm sn sub ab}{col:Option Bool}{dd k0 k1 k2 k3 k5 id}(h:K.lookup C=some (excClassObj nm qn C N bs bm true sn sub ab col dd k0 k1 k2 k3 k5 id)) :
  ∃cd,clsIn K C=some cd/\cd.name=nm/\cd.hasDict=true/\cd.mro=.ref C::bm/\typeIn K (.ref C)=some (.type "type"):=by
 refine⟨_,by unfold clsIn;rw[h],rfl,rfl,rfl,?_⟩;show (K.lookup C).map (·.cls)=_;rw[h];rfl
theorem CF.cd (c:CF K mg T C x q st ps):∃cd,clsIn K C=some cd/\cd.name=x/\cd.hasDict=true/\cd.mro=.ref C::.ref T::bmV/\typeIn K (.ref C)=some (.type "type"):=by
 obtain⟨_,_,_,_,_,_,_,_,_,_,_,_,_,h⟩:=c.lk;exact cls_in h
theorem TF.cd (t:TF K mg T):∃cd,clsIn K T=some cd/\cd.name = "TreeError"/\cd.hasDict=true/\cd.mro=.ref T::bmV/\typeIn K (.ref T)=some (.type "type"):=by
 obtain⟨_,_,_,_,_,_,_,_,_,_,_,_,_,h,_⟩:=t.lk;exact cls_in h
theorem mro_cd {cd:ClassData}{l b}(h:clsIn K C=some cd)(m:cd.mro=.ref C::l):mroIn K C b=some ((Value.ref C::l).contains b):=by
 unfold mroIn;rw[h,Option.bind_some,m];rfl
theorem hd_cd {cd:ClassData}(h:clsIn K C=some cd)(d:cd.hasDict=true):hasDictIn K C=true:=by
 unfold hasDictIn;rw[h];exact d
theorem CF.g (c:CF K mg T C x q st ps)(t:TF K mg T):ExG K C:=by
 obtain⟨cd,h,_,d,m,_⟩:=c.cd;exact⟨c.ga,c.no,(mro_cd h m).trans rfl,hd_cd h d,c.ca,t.cn,t.ct,(mro_cd h m).trans rfl,(mro_cd h m).trans rfl,(mro_cd h m).trans rfl,(mro_cd h m).trans rfl,(mro_cd h m).trans rfl⟩
theorem CF.er (c:CF K mg T C x q st ps)(t:TF K mg T):∃fI fd,ErN K mg x q st ps C T fI fd:=by
 obtain⟨cd,h,_,d,m,ty⟩:=c.cd;obtain⟨fI,fd,i1,i2,i3,i4⟩:=c.ini;obtain⟨qn,N,bs,sn,sub,ab,col,dd,k0,k1,k2,k3,k5,l⟩:=c.lk;obtain⟨_,TN,_,_,_,_,_,_,_,_,_,_,_,tl,d0,d1,es,n,sl',l2,s1,s2⟩:=t.lk
 exact⟨fI,fd,{ f:=⟨⟨⟨_,_,_,_,_,_,_,_,_,_,_,_,_,_,_,l⟩,⟨_,_,_,_,tl,d0,d1,es,n,sl',l2,s1,s2⟩,i1,i2,c.kp⟩,hd_cd h d,c.sa⟩,g:=c.g t,b:=t.b,r:=⟨(mro_cd h m).trans rfl,ty⟩,fn:=i3,bi:=i4,mC:=c.mC,mT:=t.mT,no:=c.na,xC:=⟨(mro_cd h m).trans rfl,ty,by rw[h];rfl⟩,self:=(mro_cd h m).trans (by rw[List.contains_cons];simp),up:=(mro_cd h m).trans (by rw[List.contains_cons,List.contains_cons];simp) }⟩
theorem TF.xm (t:TF K mg T):ExM K T:=by
 obtain⟨cdT,hT,_,dT,mT,tyT⟩:=t.cd;exact⟨(mro_cd hT mT).trans rfl,tyT,by rw[hT];rfl⟩
theorem kit_of {cd cd':ClassData}{D l}(h:clsIn K C=some cd)(m:cd.mro=.ref C::l)(h':clsIn K D=some cd')(ty:typeIn K (.ref D)=some (.type "type")):kitOne K (.ref C) (.ref D)=some ((Value.ref C::l).contains (.ref D)):=by
 unfold kitOne;by_cases e:C=D
 ·subst e;rw[if_pos (by simp)];simp
 ·rw[if_neg (by intro z;exact e (Value.ref.inj (beq_iff_eq.mp z)))];unfold PySem.W.kitCls;dsimp only;rw[if_pos (by rw[h',ty];rfl)];exact mro_cd h m
theorem val_of {cd:ClassData}{l}(h:clsIn K C=some cd)(m:cd.mro=.ref C::l):kitOne K (.ref C) (.type "ValueError")=some ((Value.ref C::l).contains (.type "ValueError")):=by
 unfold kitOne;rw[if_neg (by intro z;cases beq_iff_eq.mp z)];unfold PySem.W.kitCls;dsimp only;rw[if_pos (by decide +kernel)];exact mro_cd h m
theorem CF.kit {D y q' st' ps'}(a:CF K mg T C x q st ps)(b:CF K mg T D y q' st' ps')(t:TF K mg T)(ht:y ≠ "TreeError"):kitOne K (.ref C) (.ref D)=some (decide (x=y)):=by
 obtain⟨cd,h,n,_,m,_⟩:=a.cd;obtain⟨cd',h',n',_,_,ty⟩:=b.cd;obtain⟨cdT,hT,nT,_⟩:=t.cd;rw[kit_of h m h' ty];have h1:D≠T:=fun e=>ht (by subst e;rw[hT] at h';cases h';rw[<- n',nT])
 have h2:(Value.ref D==Value.ref C)=decide (x=y):=by
  by_cases e:D=C
  ·subst e;rw[h] at h';cases h';rw[decide_eq_true (n.symm.trans n')];simp
  ·have:x≠y:=fun z=>e (Value.ref.inj (Option.some.inj (b.mC.symm.trans (by rw[<- z];exact a.mC))));rw[decide_eq_false this];simp[e]
 rw[List.contains_cons,List.contains_cons,h2,show (Value.ref D==Value.ref T)=false by simp[h1],show bmV.contains (Value.ref D)=false from rfl];simp
theorem CF.val (a:CF K mg T C x q st ps):kitOne K (.ref C) (.type "ValueError")=some true:=by
 obtain⟨cd,h,_,_,m,_⟩:=a.cd;exact(val_of h m).trans rfl
theorem cls_mk {h:Heap}(X:K.In h)(G:h.Ns mainGlobals mg){fI N qn bs sn sub ab}{col:Option Bool}{dd k0 k1 k2 k3 k5 od an osl}{kV doc pm cdv ct:Value}
  (aC:nsIn K mainGlobals x=some (some (.ref C))) (aT:nsIn K mainGlobals "TreeError" = some (some (.ref T))) (lC:K.lookup C=some (excClassObj x qn C N bs (.ref T::bmV) true sn sub ab col dd k0 k1 k2 k3 k5 "ValueError.__new__"))
  (i1:findIn K (.ref C) "__init__" = some (some (.ref fI))) (i3:keepIn K (.ref C)=true) (i5:findIn K (.ref C) "__setattr__" = some (some (.builtin "object.__setattr__")))
  (g1:findIn K (.ref C) "__getattribute__" = some (some (.builtin "BaseException.__getattribute__"))) (g2:findIn K (.ref C) "__getattr__" = some none) (g4:findIn K (.ref C) "__class__" = some (some (.builtin "object.__class__")))
  (l1:K.lookup fI=some ⟨.type "function",od,.func (fnOf "__init__" q (defArgs st) (defBody st) (defScope st) .none kV doc pm an cdv ct),osl⟩) (c1:codeIn K cdv q=true) (na:∀f∈ps,NoAttr K C f)
  (hb:∀(kV doc pm:Value) (an:Option Addr) (cdv ct:Value) (us:List Value),us.length=(("self" : Str)::ps).length->bindArgs (fnOf "__init__" q (defArgs st) (defBody st) (defScope st) .none kV doc pm an cdv ct) ⟨us,[]⟩=pure ((("self" : Str)::ps).zip us)) :
  ∃C T,mg "TreeError" = some (.ref T)/\CF K mg T C x q st ps:=by
 have kf:keepIn K (.ref fI)=true:=by unfold keepIn;dsimp only;rw[l1]
 have ff:isFn K (.ref fI)=true:=by
  unfold isFn;rw[show typeIn K (.ref fI)=(K.lookup fI).map (·.cls) from rfl,l1];rfl
 exact⟨C,T,mg_of X G aT,⟨⟨qn,N,bs,sn,sub,ab,col,dd,k0,k1,k2,k3,k5,lC⟩,⟨fI,_,i1,ff,fun_mk (st:=st) l1 c1 kf,(fun_mk (st:=st) l1 c1 kf).binds hb⟩,i3,i5,g1,g2,g4,mg_of X G aC,na⟩⟩
theorem na1 {f}(h:findIn K (.ref C) f=some none):∀g∈[f],NoAttr K C g:=fun g hg=>by rw[List.mem_singleton.mp hg];exact h
theorem na2 {f f'}(h:findIn K (.ref C) f=some none)(h':findIn K (.ref C) f'=some none):∀g∈[f,f'],NoAttr K C g:=fun g hg=>by
 simp only[List.mem_cons,List.not_mem_nil,or_false] at hg;rcases hg with rfl|rfl
 ·exact h
 ·exact h'
theorem tf_mk {h:Heap}(X:K.In h)(G:h.Ns mainGlobals mg){N qn bs sn sub ab}{col:Option Bool}{dd k0 k1 k2 k3 k5 d0 d1 es}{n:Nat}{sl'}
  (aT:nsIn K mainGlobals "TreeError" = some (some (.ref T))) (lT:K.lookup T=some (excClassObj "TreeError" qn T N bs bmV true sn sub ab col dd k0 k1 k2 k3 k5 "ValueError.__new__")) (lN:K.lookup N=some ⟨d0,d1,.dict es n,sl'⟩) (s1:strK es=true) (s2:nsFind es "__init__" = none)
  (b1:specialIn K (.ref T) "__getattribute__" = some (some (.builtin "type.__getattribute__"))) (b2:PySem.W.readsIn K T (.type "type")=true) (b3:PySem.W.findCls K (.ref T) (.type "type") "__init__" = some (.val (.builtin "ValueError.__init__")))
  (i1:findIn K (.ref T) "__init__" = some (some (.builtin "ValueError.__init__"))) (i3:keepIn K (.ref T)=true)
  (g1:findIn K (.ref T) "__getattribute__" = some (some (.builtin "BaseException.__getattribute__"))) (g2:findIn K (.ref T) "__getattr__" = some none) (g4:findIn K (.ref T) "__class__" = some (some (.builtin "object.__class__")))
  (g5:specialIn K (.builtin "object.__class__") "__get__" = some (some (.builtin "getset_descriptor.__get__"))) (g6:takesIn K (.builtin "object.__class__")=some true):∃T,TF K mg T:=
 ⟨T,⟨⟨qn,N,bs,sn,sub,ab,col,dd,k0,k1,k2,k3,k5,lT,d0,d1,es,n,sl',lN,s1,s2⟩,⟨b1,b2,b3⟩,i1,i3,g1,g2,g4,g5,g6,mg_of X G aT⟩⟩
end
theorem by1 {P:List Value->Prop}{x0:Str}(h:∀a0,P [a0]):∀us:List Value,us.length=[x0].length->P us
 | [a0],_=>h a0
theorem by2 {P:List Value->Prop}{x0 x1:Str}(h:∀a0 a1,P [a0,a1]):∀us:List Value,us.length=[x0,x1].length->P us
 | [a0,a1],_=>h a0 a1
theorem by3 {P:List Value->Prop}{x0 x1 x2:Str}(h:∀a0 a1 a2,P [a0,a1,a2]):∀us:List Value,us.length=[x0,x1,x2].length->P us
 | [a0,a1,a2],_=>h a0 a1 a2
theorem by4 {P:List Value->Prop}{x0 x1 x2 x3:Str}(h:∀a0 a1 a2 a3,P [a0,a1,a2,a3]):∀us:List Value,us.length=[x0,x1,x2,x3].length->P us
 | [a0,a1,a2,a3],_=>h a0 a1 a2 a3
theorem by5 {P:List Value->Prop}{x0 x1 x2 x3 x4:Str}(h:∀a0 a1 a2 a3 a4,P [a0,a1,a2,a3,a4]):∀us:List Value,us.length=[x0,x1,x2,x3,x4].length->P us
 | [a0,a1,a2,a3,a4],_=>h a0 a1 a2 a3 a4
theorem by6 {P:List Value->Prop}{x0 x1 x2 x3 x4 x5:Str}(h:∀a0 a1 a2 a3 a4 a5,P [a0,a1,a2,a3,a4,a5]):∀us:List Value,us.length=[x0,x1,x2,x3,x4,x5].length->P us
 | [a0,a1,a2,a3,a4,a5],_=>h a0 a1 a2 a3 a4 a5
structure Fc (K:Frag)(mg:Str->Option Value):Prop where
 r:Rst K mg
 PX:∃cP fP fdP,PgN K mg cP fP fdP
 LX:∃C f fd,KdN K mg "Leaf" "Leaf.__init__" (inClass (top 43) 0) C f fd
 IX:∃C f fd,KdN K mg "Inner" "Inner.__init__" (inClass (top 44) 0) C f fd
 KX:KT K mg
 LQ:∃C,mg "Leaf" = some (.ref C)/\NeC K C
 IQ:∃C,mg "Inner" = some (.ref C)/\NeC K C
 BK:BB K mg "all_keys" "Page.all_keys" (inClass (top 42) 1)
 BG:BB K mg "goods" "Page.goods" (inClass (top 42) 2)
 RX:∃C f fd,RdN K mg C f fd
 NX:∃C f fd,NdN K mg C f fd
 TX:∃C f fd,TrN K mg C f fd
 TT:∃T,TF K mg T
 eP:∃C T,mg "TreeError" = some (.ref T)/\CF K mg T C "NoPlace" "NoPlace.__init__" (inClass (top 5) 0) ["found"]
 eD:∃C T,mg "TreeError" = some (.ref T)/\CF K mg T C "NoDoer" "NoDoer.__init__" (inClass (top 8) 0) ["found"]
 eE:∃C T,mg "TreeError" = some (.ref T)/\CF K mg T C "NoEdge" "NoEdge.__init__" (inClass (top 10) 0) ["high","right"]
 eG:∃C T,mg "TreeError" = some (.ref T)/\CF K mg T C "NoPage" "NoPage.__init__" (inClass (top 4) 0) ["found"]
 eL:∃C T,mg "TreeError" = some (.ref T)/\CF K mg T C "NoLevel" "NoLevel.__init__" (inClass (top 7) 0) ["found"]
 eM:∃C T,mg "TreeError" = some (.ref T)/\CF K mg T C "NoMost" "NoMost.__init__" (inClass (top 6) 0) ["found"]
 eW:∃C T,mg "TreeError" = some (.ref T)/\CF K mg T C "Twice" "Twice.__init__" (inClass (top 13) 0) ["found"]
def Rf.nm:Rf->Str|.level _=>"NoLevel"|.most _=>"NoMost"|.twice _=>"Twice"|.edge _ _=>"NoEdge"|.doer _=>"NoDoer"|.page _=>"NoPage"|.place _=>"NoPlace"
theorem mkF {K}{mg:Str->Option Value}(Z:Fc K mg):∃c,∀P w base,Fx P w K mg base c:=by
 obtain⟨cL,fL,fdL,XL⟩:=Z.LX;obtain⟨cI,fI,fdI,XI⟩:=Z.IX;obtain⟨_,_,e1,e2,LL,LI,IL,II,KO⟩:=Z.KX;cases mg_eq XL.m e1;cases mg_eq XI.m e2;obtain⟨_,e1,nL⟩:=Z.LQ;cases mg_eq XL.m e1;obtain⟨_,e2,nI⟩:=Z.IQ;cases mg_eq XI.m e2;obtain⟨_,_,fK,fdK,e1,e2,kL,kI,nK,bK⟩:=Z.BK;cases mg_eq XL.m e1;cases mg_eq XI.m e2;obtain⟨_,_,fG,fdG,e1,e2,gL,gI,nG,bG⟩:=Z.BG;cases mg_eq XL.m e1;cases mg_eq XI.m e2
 obtain⟨cR,fR,fdR,XR⟩:=Z.RX;obtain⟨cN,fN,fdN,XN⟩:=Z.NX;obtain⟨cT,fT,fdT,XT⟩:=Z.TX;obtain⟨TT,t⟩:=Z.TT;obtain⟨kP,_,e1,xP⟩:=Z.eP;cases mg_eq t.mT e1;obtain⟨kD,_,e1,xD⟩:=Z.eD;cases mg_eq t.mT e1;obtain⟨kE,_,e1,xE⟩:=Z.eE;cases mg_eq t.mT e1;obtain⟨kG,_,e1,xG⟩:=Z.eG;cases mg_eq t.mT e1;obtain⟨kL,_,e1,xL⟩:=Z.eL;cases mg_eq t.mT e1;obtain⟨kM,_,e1,xM⟩:=Z.eM;cases mg_eq t.mT e1;obtain⟨kW,_,e1,xW⟩:=Z.eW
 cases mg_eq t.mT e1
 have cf:∀r:Rf,∃q st ps,CF K mg TT (r.C ⟨kP,kD,kE,kG,kL,kM,kW⟩) r.nm q st ps:=fun r=>by
  cases r<;>first|exact⟨_,_,_,xP⟩|exact⟨_,_,_,xD⟩|exact⟨_,_,_,xE⟩|exact⟨_,_,_,xG⟩|exact⟨_,_,_,xL⟩|exact⟨_,_,_,xM⟩|exact⟨_,_,_,xW⟩
 have ix:∀r q:Rf,decide (r.nm=q.nm)=(r.ix==q.ix):=fun r q=>by cases r<;>cases q<;>first|rfl|decide
 have tt:∀r:Rf,r.nm ≠ "TreeError":=fun r=>by cases r<;>(dsimp only[Rf.nm];decide)
 refine⟨⟨⟨cL,cI⟩,cR,cN,cT,⟨kP,kD,kE,kG,kL,kM,kW⟩,TT⟩,fun P w base=>⟨Z.r,Z.PX,⟨_,_,XL⟩,⟨_,_,XI⟩,⟨XL.ins,XI.ins,XL.m,XI.m,LL,LI,IL,II⟩,⟨fK,fdK,fun C z=>?_,nK,bK⟩,⟨fG,fdG,fun C z=>?_,nG,bG⟩,⟨_,_,XR⟩,⟨_,_,XN⟩,⟨_,_,XT⟩,xP.er t,xD.er t,xE.er t,xG.er t,xL.er t,xM.er t,xW.er t,t.xm,fun r q=>?_,fun r=>?_,fun C z=>?_,KO⟩⟩
 case refine_3=>
  obtain⟨_,_,_,a⟩:=cf r;obtain⟨_,_,_,b⟩:=cf q;exact(a.kit b t (tt q)).trans (congrArg some (ix r q))
 case refine_4=>
  obtain⟨_,_,_,a⟩:=cf r;exact a.val
 case refine_5=>rcases z with rfl|rfl<;>assumption
 all_goals rcases z with rfl|rfl<;>first|exact⟨XL.ins.cl,by assumption⟩|exact⟨XI.ins.cl,by assumption⟩
theorem last {P w K}{mg:Str->Option Value}{fa}(Z:Fc K mg)(hmg:mg "law" = some (.ref fa)) :
  ∃fd:FuncData,(∀(s:Shared) (u:Value),BindsTo s fd ⟨[u],[]⟩ [("_law_script",u)])/\∀base:Heap,FnOk P w K mg base CX0 16 fa fd ["_law_script"] (spLaw K):=by
 obtain⟨c,F⟩:=mkF Z;obtain⟨f,fd,Dl⟩:=Z.r.d_law;cases mg_eq hmg Dl.m;refine⟨fd,?_,fun base=>?_⟩
 ·obtain⟨oc,od,kV,doc,pm,an,cdv,ct,osl,e,lk,hcd⟩:=Dl.fn.ex;subst e;exact fun s u=>.of_eq rfl
 ·obtain⟨f',fd',D',G'⟩:=ok_law (F P w base);cases mg_eq hmg D'.m;cases fun_uniq Dl.fn D'.fn;exact G'
end K31
open PySem PySem.W PyProof.Rows
set_option maxRecDepth 100000 in
set_option maxHeartbeats 0 in
theorem PySem.Challenge.cw_nolocktree_k36_doors_refused_holds : PySem.Challenge.rw_nolocktree_k36_doors_refused.Holds := by
 refine PySem.Challenge.K36hd ?_
 k_fill
 refine L2.walk_ofK (l:=PySem.Challenge.rw_nolocktree_k36_doors_refused) (n:=63) (k:=16) (x:="_law_script") (CX:=L2.CX0) (sp:=K31.spLaw) rfl (by decide) rfl ⟨fun _=>rfl,by decide,by decide,rfl⟩ (fun w h Y=>PySem.W.kIn_of Y) ?F ?S ?C
 case S=>exact fun K H a ns hl hO hS=>⟨a,ns,rfl,hS,hl,fun _=>rfl⟩
 case C=>exact fun _ _ _ _ z=>z
 case F=>
  intro w mg fa h KX G hmg
  have F:K31.Fc (L2.KOf KX) mg:=by
   dsimp only[L2.KOf];constructor
   case PX=>
    refine' K31.pg_mk KX G ?_ ?_ ?_ (fun _ _ _ _ _ _=>K31.by3 fun _ _ _=>rfl) rfl rfl rfl rfl ?_ ?_ ?_
    any_goals k_is
    try any_goals k_is
   case LX|IX=>
    refine' K31.kdn_mk KX G ?_ ?_ ?_ (fun _ _ _ _ _ _=>K31.by3 fun _ _ _=>rfl) ?_ ?_ ?_ ?_ ?_ ?_ ?_ rfl ?_ ?_ ?_ ?_ ?_ ?_
    any_goals k_is
    try any_goals k_is
   case KX=>
    refine' K31.kin_mk KX G ?_ ?_ ?_ ?_ ?_ ?_ ?_ ?_
    any_goals k_is
    try any_goals k_is
   case LQ|IQ=>
    refine' K31.nec_mk KX G ?_ ?_ ?_ ?_
    any_goals k_is
    try any_goals k_is
   case BK|BG=>
    refine' K31.both_mk KX G ?_ ?_ ?_ (fun _ _ _ _ _ _=>K31.by1 fun _=>rfl) rfl ?_ ?_ ?_
    any_goals k_is
    try any_goals k_is
   case RX=>
    refine' K31.rdn_mk KX G ?_ ?_ ?_ (fun _ _ _ _ _ _=>K31.by1 fun _=>rfl) ?_ ?_ ?_ ?_ ?_ ?_ ?_ rfl rfl rfl rfl ?_ ?_ ?_ ?_ ?_
    any_goals k_is
    try any_goals k_is
   case NX=>
    refine' K31.ndn_mk KX G ?_ ?_ ?_ (fun _ _ _ _ _ _=>K31.by5 fun _ _ _ _ _=>rfl) ?_ ?_ ?_ ?_ ?_ ?_ ?_ rfl rfl rfl rfl ?_ ?_ ?_ ?_ ?_ ?_
    any_goals k_is
    try any_goals k_is
   case TX=>
    refine' K31.trn_mk KX G ?_ ?_ ?_ (fun _ _ _ _ _ _=>K31.by2 fun _ _=>rfl) ?_ ?_ ?_ ?_ ?_ ?_ ?_ rfl rfl rfl rfl ?_ ?_ ?_ ?_ ?_
    any_goals k_is
    try any_goals k_is
   case TT=>
    refine' K31.tf_mk KX G ?_ ?_ ?_ ?_ ?_ ?_ ?_ ?_ ?_ ?_ ?_ ?_ ?_ ?_ ?_
    any_goals k_is
    all_goals kernel_rfl
   case eP|eD|eG|eL|eM|eW=>
    refine' K31.cls_mk KX G ?_ ?_ ?_ ?_ ?_ ?_ ?_ ?_ ?_ ?_ ?_ (K31.na1 ?_) (fun _ _ _ _ _ _=>K31.by2 fun _ _=>rfl)
    any_goals k_is
    try any_goals k_is
   case eE=>
    refine' K31.cls_mk KX G ?_ ?_ ?_ ?_ ?_ ?_ ?_ ?_ ?_ ?_ ?_ (K31.na2 ?_ ?_) (fun _ _ _ _ _ _=>K31.by3 fun _ _ _=>rfl)
    any_goals k_is
    try any_goals k_is
   case r=>
    constructor
    case nz|nV=>
     refine' PySem.W.mg_none_of KX G ?_
     k_is
    case T=>constructor<;>first|(refine' PySem.W.mg_none_of KX G ?_;k_is)|(refine' K31.int_of KX G ?c;(case c=>k_is))
    all_goals first
     | (refine' L2.dn_mk (ps:=[_]) KX G ?_ ?_ ?_ ?_ (fun _ _ _ _ _ _=>K31.by1 fun _=>rfl);(any_goals k_is);(try any_goals k_is))
     | (refine' L2.dn_mk (ps:=[_,_]) KX G ?_ ?_ ?_ ?_ (fun _ _ _ _ _ _=>K31.by2 fun _ _=>rfl);(any_goals k_is);(try any_goals k_is))
     | (refine' L2.dn_mk (ps:=[_,_,_]) KX G ?_ ?_ ?_ ?_ (fun _ _ _ _ _ _=>K31.by3 fun _ _ _=>rfl);(any_goals k_is);(try any_goals k_is))
     | (refine' L2.dn_mk (ps:=[_,_,_,_]) KX G ?_ ?_ ?_ ?_ (fun _ _ _ _ _ _=>K31.by4 fun _ _ _ _=>rfl);(any_goals k_is);(try any_goals k_is))
     | (refine' L2.dn_mk (ps:=[_,_,_,_,_]) KX G ?_ ?_ ?_ ?_ (fun _ _ _ _ _ _=>K31.by5 fun _ _ _ _ _=>rfl);(any_goals k_is);(try any_goals k_is))
     | (refine' K31.meth_mk (ps:=[_]) KX G ?_ ?_ ?_ (fun _ _ _ _ _ _=>K31.by1 fun _=>rfl) ?_;(any_goals k_is);(try any_goals k_is))
     | (refine' K31.meth_mk (ps:=[_,_]) KX G ?_ ?_ ?_ (fun _ _ _ _ _ _=>K31.by2 fun _ _=>rfl) ?_;(any_goals k_is);(try any_goals k_is))
     | (refine' K31.meth_mk (ps:=[_,_,_]) KX G ?_ ?_ ?_ (fun _ _ _ _ _ _=>K31.by3 fun _ _ _=>rfl) ?_;(any_goals k_is);(try any_goals k_is))
     | (refine' K31.meth_mk (ps:=[_,_,_,_,_]) KX G ?_ ?_ ?_ (fun _ _ _ _ _ _=>K31.by5 fun _ _ _ _ _=>rfl) ?_;(any_goals k_is);(try any_goals k_is))
     | (refine' K31.meth_mk (ps:=[_,_,_,_,_,_]) KX G ?_ ?_ ?_ (fun _ _ _ _ _ _=>K31.by6 fun _ _ _ _ _ _=>rfl) ?_;(any_goals k_is);(try any_goals k_is))
  obtain⟨fd,hb,hf⟩:=K31.last (P:=PySem.Challenge.rw_nolocktree_k36_doors_refused.prog) (w:=w) F hmg;exact⟨fd,hb,fun base _ _=>hf base⟩
