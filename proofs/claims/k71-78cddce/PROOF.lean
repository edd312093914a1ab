import PyProof.Rows.All
import Wide.All
import OpenK.KLine
import KE.KFromBytes
import KE.KRevSl
import KE.KIsAll
import Wide.FinOn
import Lean
import PyProof.EqAt
import PyProof.EqKinds
import PyProof.TupleCall
import PyProof.ExcInit
import PyProof.ExcClass3
import PyProof.ExcBaseAll.ValueError
import PyProof.ExcAttrAll.ValueError
import PyProof.ReprRoads
import PyProof.ReprReads
import PyProof.ExcRepr
import PyProof.RaisesMany
import PyProof.StationsW
import PyProof.RulesTry
import PyProof.RulesAs
import PyProof.Draws
import PyProof.EnumMake
import PyProof.EnumFor
import PyProof.ReprLen
import PyProof.ConsumeWalk
import PyProof.WalksMore
import PyProof.ListRange
import PyProof.Rows.SetFrom
import PyProof.SetRoads
import PyProof.FactsAll.subtypes_4
import PyProof.CollectStr
import PyProof.DictWalks
import PyProof.Rows.SortWalk
import PyProof.ZipIter
import PyProof.DictList
import PyProof.DictUpdate
import PyProof.MeetsSeq2
import PyProof.AttrMissHeap
import PyProof.TupleIter
import PyProof.FactsAll.zip
import KE.KDictOf
import KE.KEqDict
import PyProof.NsDelKeeps
import PyProof.DictItems
import PyProof.DictItemsLoops
import PyProof.DictValues
import KE.KPairComp
import KE.KItemsList
import PyProof.WalkInts
import PyProof.SeqI3
import PyProof.MinMaxWalk
import KE.KDictLaws
import KE.KMinKey
import PyProof.NeKinds
import PyProof.Rows.CallKwBuiltin
import PyProof.Rows.CallKw2
import PyProof.FactsAll.list
import PyProof.Rows.Range3
import PyProof.ListNew
import PyProof.SumWalk
import PyProof.Rows.SeqCalls
import KE.KAssignIn
import KE.KSortTup
import PyProof.FactsAll.dict_1
import KE.KUnpackStar
import PyProof.FactsAll.tuple
import KE.KTopLam
import KE.KSortKey
import KE.KNestM
import PySem.Challenge.RW_nolocktree_k71_plain_store
set_option compiler.extract_closed false
set_option Elab.async false
set_option linter.all false
set_option maxRecDepth 9999 in
set_option maxHeartbeats 0 in
def PySem.W.Fast:Nat:=let rec tw13181116067376972849:=0,tw15719141534298448045:=0,tw18291664370184942307:=0,tw16689875110673872424:=0,tw1520023321944862788:=0,tw1449694017966670439:=0,tw14293402072577372548:=0,tw18418244882253903654:=0,tw2986667652195691262:=0,tw9094933455885283992:=0,tw16024480370427044140:=0,tw5940222314331825355:=0,tw13200039452150830298:=0,tw11405586052855418139:=0,tw17227370421500005883:=0,tw3714160338359028179:=0,tw6213258555595138552:=0,tw7305248133159713110:=0,tw3110074638970486705:=0,tw10233054163262870375:=0,tw15703154321543275869:=0,tw15222948571725603976:=0,tw17088439057299122104:=0,tw16664099010736858882:=0,tw17629315905595513950:=0,tw15300298339951799802:=0,tw2902176085443440670:=0,tw14152117540105424717:=0,tw1644228112003280598:=0,tw14047497951148436715:=0,tw17797212347397695548:=0,tw9164261467281404245:=0,tw7115201906015274924:=0,tw3365447678454667809:=0,tw6845959778154731410:=0,tw11894056091149595345:=0,tw15801733611921718026:=0,tw12843644197904213680:=0,tw15152285760616664728:=0,tw18197084881512175243:=0,tw16953840046305655441:=0,tw7799532795617966759:=0,tw2849897264617907014:=0,tw7603216133773649983:=0,tw11695192935649550389:=0,tw12662848954307806953:=0,tw2970056029448937358:=0,tw11633006940012688441:=0,tw10925998816863464653:=0,tw4346982202766465685:=0,tw1082753510250208623:=0,tw12878874993995735053:=0,tw1689356694490347902:=0,tw4634330683415440521:=0,tw4758546221412286060:=0,tw12497205012215164491:=0,tw16825816127975528810:=0,tw9839664489785204673:=0,tw13506428857723814132:=0,tw11097051573365597612:=0,tw8117094576761697516:=0,tw13492269965816221968:=0,tw16597785954009592350:=0,tw13595580459004718591:=0,tw1523201113276778783:=0,tw7967101206898133477:=0,tw3467978908878354738:=0,tw17562765460937882953:=0,tw1802145545599180945:=0,tw8857049394280433656:=0,tw8839636642335445965:=0,tw7837774761695358547:=0,tw8841671758601369063:=0,tw5740725250494645196:=0,tw6709615962259731585:=0,tw15440965171157912364:=0,tw15797820931414269540:=0,tw14650063335852343277:=0,tw8780369054473151528:=0,tw3912858291574024139:=0,tw11047191172529308152:=0,tw2499847390663869083:=0,tw11983362750442855485:=0,tw8250620053616459526:=0,tw10276494534519102169:=0,tw7491143654861563844:=0,tw17081747861730505777:=0,tw11258859644724887631:=0,tw4385968382639912418:=0,tw14348779536911044254:=0,tw1355458810150487891:=0,tw9462821372742230429:=0,tw159101319816100490:=0,tw4121909873092148537:=0,tw8247733529796072103:=0,tw13990297868895217695:=0,tw15420352049287992345:=0,tw1447247937201482784:=0,tw2950434755898732152:=0,tw17172067399322536209:=0,tw6544150644456298115:=0,tw4714815505674538346:=0,tw3749413534579238382:=0,tw8542632081569121408:=0,tw7577497555770174328:=0,tw13388780234467486710:=0,tw4711252184475695122:=0,tw15021052438244475020:=0,tw4014395005854250412:=0,tw15389664664975702141:=0,tw17980116990762304545:=0,tw14886345924857821903:=0,tw11047791525519983467:=0,tw7320101953951806811:=0,tw17597090504149454893:=0,tw18319510160294025323:=0,tw2388460793770458081:=0,tw6867384830587076690:=0,tw13891785537518856198:=0,tw6385139332478386384:=0,tw7397962180989052162:=0,tw10516792931757660712:=0,tw4524443727188788654:=0,tw17436774158350695097:=0,tw8002570105950279880:=0,tw12923961783406789810:=0,tw16588176139916212543:=0,tw12874772889717743161:=0,tw1228195390854422662:=0,tw11302386924037167549:=0,tw5156726322696419562:=0,tw14575192386683521651:=0,tw12669492908065760896:=0,tw1839618920804443929:=0,tw17779824034341009270:=0,tw942317394598705671:=0,tw12980144625084119088:=0,tw12706597337527369601:=0,tw12199085071013250623:=0,tw2438266692983985398:=0,tw9629378464756398709:=0,tw18201599629609492299:=0,tw3485725438984511601:=0,tw271137760171482078:=0,tw12280403215943271523:=0,tw14713381230059832294:=0,tw3403198425222856163:=0,tw4519306859557950213:=0,tw2445534692494633816:=0,tw15338059429875150280:=0,tw16692691646735708102:=0,tw11969401532449601531:=0,tw3046101540660543702:=0,tw10375251748702824447:=0,tw7946886334169971707:=0,tw15006061612183722155:=0,tw18131064043121291416:=0,tw9357110779154237036:=0,tw6314470963782585990:=0,tw10423329643850525891:=0,tw8788928894688593562:=0,tw3966033556446487218:=0,tw1421452533592558371:=0,tw9150052088276069353:=0,tw15580887963821808505:=0,tw5563847587056164559:=0,tw14022794810163854983:=0,tw15801140405878087631:=0,tw1374636266648581546:=0,tw9505870385602766313:=0,tw3659087060523693621:=0,tw3879975709410100135:=0,tw6562789378946804190:=0,tw16694845336033716140:=0,tw6479175377293910594:=0,tw9275338502928537963:=0,tw17814088210639532452:=0,tw10950194314765321473:=0,tw5607953764557830437:=0,tw2977043107584584716:=0,tw5282644975180098061:=0,tw4657380127493865094:=0,tw15428248085121399318:=0,tw8231073049182822441:=0,tw6376759378572998853:=0,tw12474597454362904107:=0,tw1242193503266777393:=0,tw15421719894382332292:=0,tw1016653442015221464:=0,tw2226091493414516889:=0,tw9966222159977357496:=0,tw11477045655493262506:=0,tw1632288197950836937:=0,tw843822439998746938:=0,tw5542337605465235737:=0,tw17130412039661971409:=0,tw13962199649952987239:=0,tw12067087626803697263:=0,tw7071292124873480553:=0,tw12265643605335738589:=0,tw12196203216668635064:=0,tw11195637083824872900:=0,tw4721121327038184301:=0,tw2173422056546465077:=0,tw13156636993218357424:=0,tw10045802775757204350:=0,tw773248302174099752:=0,tw17540187955514712338:=0,tw13337764388634170778:=0,tw16394354981739665497:=0,tw15395113846476195507:=0,tw7737147903890681724:=0,tw10854809016049828609:=0,tw6646530469262795229:=0,tw18202728219749050154:=0,tw14904114915328178986:=0,tw13613813492606692282:=0,tw8625217409971161328:=0,tw11227163699455576714:=0,tw1405481195554659987:=0,tw8625817824297571464:=0,tw9915150661131826464:=0,tw2362582750991614801:=0,tw13693347921097348365:=0,tw13042070796130639385:=0,tw11297975128789384052:=0,tw241906790057423523:=0,tw14153839408769195509:=0,tw2889432824504522190:=0,tw11924530515301137820:=0,tw7805526691059056032:=0,tw6433144574422658285:=0,tw14916014133341358057:=0,tw3092406366898055633:=0,tw11679505846174659844:=0,tw5530215001477892199:=0,tw7619934251729725807:=0,tw6169844624767199046:=0,tw8689305279389311968:=0,tw9035181844194456737:=0,tw7381618441557643553:=0,tw3881520487826104092:=0,tw11684712386867727469:=0,tw10808628210892098611:=0,tw16336992735913655981:=0,tw3437875389418039084:=0,tw6222295035115452407:=0,tw17531935486661961991:=0,tw886953403121438744:=0;0
section
open PySem PySem.W PyProof.Rows
set_option maxRecDepth 100000 in
set_option maxHeartbeats 0 in
open_top PySem.Challenge.K71hd for PySem.Challenge.rw_nolocktree_k71_plain_store
end
open PySem.Around (under_plainId)
open Array (getElem?_toList length_toList push toList_append toList_reverse)
open Bool (and_eq_true false_eq_true)
open PySem.Builtin.List (listSameRef)
open PySem.Code (cUnits isFrame)
open PySem.Heap (get?_push_of_some get?_push_size get?_some_iff get?_update_other get?_update_self lt_size size_push)
open Int (toNat)
open List (all_cons all_eq_true all_map any_cons any_eq_true append_nil cons_append drop drop_sublist drop_zero filterMap_cons filter_append filter_cons filter_nil find?_cons flatten_append flatten_cons flatten_singleton forIn_cons getElem?_append_left getElem?_append_right getElem?_map getElem?_of_mem getElem?_set_self getElem?_take_of_lt getElem_drop getElem_mem getElem_of_mem getElem_take length_append length_cons length_drop length_filter_le length_map length_nil length_replicate length_reverse length_take lookup_cons map_append map_congr_left map_cons map_id map_map map_nil mem_append mem_append_left mem_append_right mem_cons mem_cons_of_mem mem_cons_self mem_filter mem_filterMap mem_map mem_of_getElem? mem_of_mem_drop mem_of_mem_take mem_range mem_reverse mem_singleton nil_append nodup_cons nodup_nil not_mem_nil of_mem_zip pairwise_append pairwise_iff_getElem pairwise_map perm_append_comm replicate size_toArray take_add_one take_append_drop take_length take_of_length_le take_sublist)
open Nat (add_le_add add_le_add_right add_zero le_of_ble_eq_true le_of_eq le_succ lt_of_le_of_lt lt_of_lt_of_le lt_succ_of_lt lt_succ_self min_eq_left ne_of_gt one_pos zero_add zero_le)
open PySem.Obj (data_mapFields isFreed_of_fields mapFields mapSeq)
open Option (bind_some getD_none map_eq_some_iff toList_some)
open PyProof.Rows (callWith_builtin1)
open PySem.F (args_tuple_add_2 entry_dict_get entry_tuple_add plainAttrs_dict plainAttrs_list slot_dict_get slot_dict_pop slot_tuple_add)
open PySem.W (any_some callWith_K emptyDict findCls findObj findObj_own handedIn instObj kat_cons kat_no kat_yes kitx_list lookIn looks_clsIn looks_typeIn makesIn methodCall_KW methodObj notCls plainGet plainGet_of plainOver readsIn set_plain takerIn)
open PySem.Value (builtin bytes float type)
open PySem.W (Frag findIn kitOne mroIn clsIn keepIn fnOf mg_of nsIn typeIn specialIn hasDictIn isFn codeIn kitAny takesIn subIn kia_one InstAt looks_mroIn looks_findIn)
set_option maxHeartbeats 2000000
set_option Elab.async false
set_option linter.all false
open PySem
variable {XP:(Str->Option Value)->Heap->Prop}{C Dc L T a b cc d dx f fI fa i1 i2 it l l1 l2 sl z:Addr}{N N':Addr->Prop}{A:Around}{osl:Array (Option Value)}{items its:Array Value}{bb expr tp:Bool}{op op':CmpOp}{env:Env}{PUT:Env->Addr->(Shared->Prop)->(Value->Shared->Prop)->Shared->Prop}{ce e e4 elt iter iter2 kx l' target tg tg2 value:Expr}{fd:FuncData}{base h h' h2:Heap}{pins pins':List (Addr×Obj)}{kw:List (Str×Value)}{as as' ch ex fp ts:List Addr}{gs:List Comprehension}{outer:List Env}{elts es es' ifs ifs2:List Expr}{ns:List Int}{js:List Nat}{body suite:List Stmt}{Nf ks loose ps:List Str}{its' ws:List Value}{M:Model}{c d' ep hi i j k0 kk ktg lo n n1 n2 nr t':Nat}{ob:Obj}{an ar od:Option Addr}{apos cpos p p' p2 pos pos' ptg px px' py spos tpos xp:Pos}{P prog:Program}{B:Prop}{K:Frag}{R:Result->Shared->Prop}{sc scope:Scope}{pl:Sem Bool}{newAcc:Sem Value}{s s' s₁ s₂:Shared}{b₀ st:Stmt}{cn m name nm q qual x x':Str}{m' mA mb mg:Str->Option Value}{acc cdv ctv doc f0 f1 oc pm u vl vu:Value}{E Q xe:Value->Shared->Prop}{w:World}{YP:World->Heap->Prop}
def aa:=@wpAny_bind
def ae:=@wpAny_pure
def af:=@get?_push_of_some
def ah:=@if_neg
def aj:=@Bool.false_ne_true
def ak:=@if_pos
def aq:=@decide_eq_true
def au:=@length_map
def av:=@Nat.ne_of_lt
def az:=@List.append_assoc
def aA:=@List.getElem?_eq_some_iff
def aB:=@length_append
def aD:=@Nat.le_refl
def aF:=@length_take
def aG:=@Option.some.inj
def aH:=@lt_of_lt_of_le
def aI:=@get?_push_size
def aJ:=@size_toArray
def aM:=@decide_eq_false
def aP:=@not_mem_nil
def aQ:=@getElem?_map
def aR:=@length_cons
def aS:=@lt_size
def aU:=@of_decide_eq_true
def aV:=@mem_cons
def aX:=@mem_cons_of_mem
def aY:=@absurd
def a_:=@mem_singleton
def ba:=@mem_append
def bf:=@length_drop
def bh:=@mem_append_right
def bj:=@wpAny_holding
def bn:=@wpAny_mono
def bt:=@mem_cons_self
def bC:=@length_nil
def bJ:=@getElem?_append_right
def bL:=@congrArg
def bV:=@mem_of_getElem?
def bX:=@map_cons
def bY:=@get?_update_self
def cg:=@plainAttrs_list
def cy:=@getElem?_append_left
def cH:=@append_nil
def cV:=@Nat.le_of_lt
def dE:=@mem_append_left
def dF:=@map_eq_some_iff
def dG:=@Ne.symm
def dU:=@map_append
def eA:=@length_filter_le
def eV:=@nodup_cons
def jv:=@mem_map
def u_:=@mem_filter
namespace L2
inductive Ex2 {α0 α1:Type}(p:α0->α1->Prop):Prop|mk (x0:α0) (x1:α1):p x0 x1->Ex2 p
inductive Ex3 {α0 α1 α2:Type}(p:α0->α1->α2->Prop):Prop|mk (x0:α0) (x1:α1) (x2:α2):p x0 x1 x2->Ex3 p
inductive Ex4 {α0 α1 α2 α3:Type}(p:α0->α1->α2->α3->Prop):Prop|mk (x0:α0) (x1:α1) (x2:α2) (x3:α3):p x0 x1 x2 x3->Ex4 p
inductive Ex5 {α0 α1 α2 α3 α4:Type}(p:α0->α1->α2->α3->α4->Prop):Prop|mk (x0:α0) (x1:α1) (x2:α2) (x3:α3) (x4:α4):p x0 x1 x2 x3 x4->Ex5 p
inductive Ex6 {α0 α1 α2 α3 α4 α5:Type}(p:α0->α1->α2->α3->α4->α5->Prop):Prop|mk (x0:α0) (x1:α1) (x2:α2) (x3:α3) (x4:α4) (x5:α5):p x0 x1 x2 x3 x4 x5->Ex6 p
inductive Ex7 {α0 α1 α2 α3 α4 α5 α6:Type}(p:α0->α1->α2->α3->α4->α5->α6->Prop):Prop|mk (x0:α0) (x1:α1) (x2:α2) (x3:α3) (x4:α4) (x5:α5) (x6:α6):p x0 x1 x2 x3 x4 x5 x6->Ex7 p
inductive An3 (p0 p1 p2:Prop):Prop|mk:p0->p1->p2->An3 p0 p1 p2
inductive An4 (p0 p1 p2 p3:Prop):Prop|mk:p0->p1->p2->p3->An4 p0 p1 p2 p3
inductive An5 (p0 p1 p2 p3 p4:Prop):Prop|mk:p0->p1->p2->p3->p4->An5 p0 p1 p2 p3 p4
inductive An6 (p0 p1 p2 p3 p4 p5:Prop):Prop|mk:p0->p1->p2->p3->p4->p5->An6 p0 p1 p2 p3 p4 p5
inductive An7 (p0 p1 p2 p3 p4 p5 p6:Prop):Prop|mk:p0->p1->p2->p3->p4->p5->p6->An7 p0 p1 p2 p3 p4 p5 p6
inductive An8 (p0 p1 p2 p3 p4 p5 p6 p7:Prop):Prop|mk:p0->p1->p2->p3->p4->p5->p6->p7->An8 p0 p1 p2 p3 p4 p5 p6 p7
end L2
set_option maxRecDepth 100000
namespace L2
open PySem PySem.Spec PyProof.Rows
abbrev Key:=Sum Int Str
def jc:Key->Value->Bool
 | .inl k,v=>Value.isInt k v
 | .inr x,v=>Value.isStrOf x v
def An (w:World):Key->Int
 | .inl k=>hashInt k
 | .inr x=>hashStr w x
theorem bS:∀{k:Key} {v:Value},jc k v=true->(Ex2 fun i t=>k=Sum.inl i/\v=Value.int i t)\/(Ex2 fun x t=>k=Sum.inr x/\v=Value.str x t)
 | .inl i,v,h=>by
  obtain⟨t,e⟩:=Value.isInt_shape (k:=i) (v:=v) h;exact .inl ⟨i,t,rfl,e⟩
 | .inr x,v,h=>by
  obtain⟨t,e⟩:=Value.isStrOf_shape (x:=x) (v:=v) h;exact .inr ⟨x,t,rfl,e⟩
theorem pM (i:Int)(t:Tok):jc (.inl i) (.int i t)=true:=by simp[jc,Value.isInt]
theorem pK (x:Str)(t:Tok):jc (.inr x) (.str x t)=true:=by simp[jc,Value.isStrOf]
theorem wQ (a b:Int):decide ((Sum.inl a:Key)=Sum.inl b)=(a==b):=by
 by_cases e:a=b
 ·subst e;simp
 ·have h:¬(Sum.inl a:Key)=Sum.inl b:=fun q=>e (Sum.inl.inj q);rw[aM h];exact(beq_eq_false_iff_ne.mpr e).symm
theorem wN (a b:Str):decide ((Sum.inr a:Key)=Sum.inr b)=decide (a=b):=by
 by_cases e:a=b
 ·subst e;simp
 ·have h:¬(Sum.inr a:Key)=Sum.inr b:=fun q=>e (Sum.inr.inj q);rw[aM h,aM e]
theorem wP (a:Int)(b:Str):decide ((Sum.inl a:Key)=Sum.inr b)=false:=aM (fun q=>nomatch q)
theorem wO (a:Str)(b:Int):decide ((Sum.inr a:Key)=Sum.inl b)=false:=aM (fun q=>nomatch q)
def bK (prog:Program)(w:World):PySem.KeyKind prog w Key where
 is:=jc
 hash:=An w
 inj:=fun v a b ha hb=>by
  rcases bS ha with⟨i,t,rfl,rfl⟩|⟨x,t,rfl,rfl⟩
  ·rcases bS hb with⟨j,u,rfl,e⟩|⟨y,u,rfl,e⟩
   ·injection e with e1 _;rw[e1]
   ·exact nomatch e
  ·rcases bS hb with⟨j,u,rfl,e⟩|⟨y,u,rfl,e⟩
   ·exact nomatch e
   ·injection e with e1 _;rw[e1]
 byValue:=fun k v h=>by
  rcases bS h with⟨i,t,rfl,rfl⟩|⟨x,t,rfl,rfl⟩<;>rfl
 pyHash:=fun hv h=>by
  rcases bS hv with⟨i,t,rfl,rfl⟩|⟨x,t,rfl,rfl⟩
  ·exact wpAny_pyHash_int h
  ·exact wpAny_pyHash_str h
 eqBool:=fun hu hv h=>by
  rcases bS hu with⟨i,t,rfl,rfl⟩|⟨x,t,rfl,rfl⟩
  ·rcases bS hv with⟨j,u,rfl,rfl⟩|⟨y,u,rfl,rfl⟩
   ·rw[wQ] at h;exact wpAny_eqBool_int h
   ·rw[wP] at h;exact SeqAt.EqAt.int_str i t y u _ _ _ _ h
  ·rcases bS hv with⟨j,u,rfl,rfl⟩|⟨y,u,rfl,rfl⟩
   ·rw[wO] at h;exact SeqAt.EqAt.str_int x t j u _ _ _ _ h
   ·rw[wN] at h;exact wpAny_eqBool_str h
 «strs»:=fun k x t v h=>by
  rcases bS h with⟨i,u,rfl,e⟩|⟨y,u,rfl,e⟩
  ·exact nomatch e
  ·injection e with e1 _;subst e1;cases v<;>rfl
theorem iC (prog:Program)(w:World)(k:Key)(v:Value):(bK prog w).is k v=jc k v:=rfl
theorem kR (prog:Program)(w:World)(i:Int)(t:Tok):(bK prog w).is (.inl i) (.int i t)=true:=pM i t
theorem kQ (prog:Program)(w:World)(x:Str)(t:Tok):(bK prog w).is (.inr x) (.str x t)=true:=pK x t
inductive V where
 | non|bl (b:Bool)|int (i:Int)|str (x:Str)|byt (b:Array UInt8)|flt (b:UInt64)|ref (a:Addr)|ty (n:String)
 deriving DecidableEq
variable {v y:L2.V}{kvs:List (L2.Key×L2.V)}{dvs xs ys zs:List L2.V}
def cb:V->Value->Prop
 | .non,u=>u=Value.none
 | .bl b,u=>u=Value.bool b
 | .int i,u=>∃t,u=Value.int i t
 | .str x,u=>∃t,u=Value.str x t
 | .byt b,u=>∃t,u=bytes b t
 | .flt b,u=>∃t,u=float b t
 | .ref a,u=>u=Value.ref a
 | .ty n,u=>u=type n
abbrev b_:List V->List Value->Prop:=Paired cb
theorem b_.length {us:List Value}(r:b_ xs us):xs.length=us.length:=Paired.length r
theorem b_.get:∀{xs:List V} {us:List Value} {i:Nat} {x:V},b_ xs us->xs[i]?=some x->∃u,us[i]?=some u/\cb x u
 | _,_,_,_,.nil,e=>by simp at e
 | _,_,0,_,.cons r _,e=>by simp at e;subst e;exact⟨_,rfl,r⟩
 | _,_,i+1,x,.cons _ t,e=>by
  obtain⟨u,h1,h2⟩:=b_.get (i:=i) (x:=x) t (by simpa using e);exact⟨u,by simpa using h1,h2⟩
theorem b_.set {x:V}{u:Value}(r:cb x u):∀{xs:List V} {us:List Value} (i:Nat),b_ xs us->b_ (xs.set i x) (us.set i u)
 | _,_,_,.nil=>.nil
 | _,_,0,.cons _ t=>.cons r t
 | _,_,i+1,.cons q t=>.cons q (b_.set r i t)
theorem b_.append:∀{xs ys:List V} {us ws:List Value},b_ xs us->b_ ys ws->b_ (xs++ys) (us++ws)
 | _,_,_,_,.nil,s=>s
 | _,_,_,_,.cons r t,s=>.cons r (b_.append t s)
theorem b_.take:∀{xs:List V} {us:List Value} (n:Nat),b_ xs us->b_ (xs.take n) (us.take n)
 | _,_,0,_=>.nil
 | _,_,_+1,.nil=>.nil
 | _,_,n+1,.cons r t=>.cons r (b_.take n t)
theorem b_.drop:∀{xs:List V} {us:List Value} (n:Nat),b_ xs us->b_ (xs.drop n) (us.drop n)
 | _,_,0,r=>r
 | _,_,_+1,.nil=>.nil
 | _,_,n+1,.cons _ t=>b_.drop n t
def ij:Option V->Option Value->Prop
 | some v,some u=>cb v u
 | none,none=>True
 | _,_=>False
def KV {κ:Type}:List (κ×V)->List (κ×Value)->Prop:=Paired fun(p:κ×V) (q:κ×Value)=>p.1=q.1/\cb p.2 q.2
def kV:Key->V
 | .inl i=>.int i
 | .inr x=>.str x
inductive HO where
 /-- a list -/
 | lst (xs:List V)
 /-- a tuple (never changes) -/
 | tup (xs:List V)
 /-- a dict whose keys are ints and texts; one whose keys are tuples of ints and texts (the empty one is both) -/
 | dK (kvs:List (Key×V))|dT (kvs:List (List Key×V))
 /-- a set of ints: its members, its size -/
 | set (S:Int->Bool) (n:Nat)
 /-- an instance of the class at C, its dict at dx, its attributes -/
 | ins (C dx:Addr) (fs:List (Str×V))
 /-- the dict of the instance at x -/
 | own (x:Addr)
 /-- the dict of an exception -/
 | xd (fs:List (Str×V))
 /-- a bound method, f of x -/
 | met (f x:Addr)
 /-- a range object lo, lo + 1, .. below hi -/
 | rng (lo hi:Int)
 /-- a thing that is known to the object (the script; a dict while a loop walks it): read, never written while it is so -/
 | frz (o:Obj) (u:HO)
 /-- a code object's table -/
 | tbl (ps:Array Value)
 /-- any other thing, by what is true of its one object (a def of one's own: SetO a S n := HO.ext fun h => ..) -/
 | ext (φ:Heap->Prop)
variable {o o0:L2.HO}
abbrev Hp:=Addr->Option HO
variable {H H' H1 H2 H₂ h1:L2.Hp}{Z:L2.V->L2.Hp->(List (Option L2.V)->Prop)->Prop}
def upd (H:Hp)(a:Addr)(o:HO):Hp:=fun b=>if b=a then some o else H b
theorem ay:upd H a o a=some o:=by unfold upd;rw[ak rfl]
theorem aE (h:b≠a):upd H a o b=H b:=by unfold upd;rw[ah h]
theorem tT {u}:upd (upd H a o) a u=upd H a u:=by
 funext b;unfold upd;split<;>rfl
theorem yT {u}(h:H a=some o)(h':H b=some u)(d:o≠u):a≠b:=by
 intro e;subst e;rw[h] at h';exact d (aG h')
theorem ao (h:H a=some o)(h':H b=none):a≠b:=by
 intro e;subst e;rw[h] at h';cases h'
theorem du {xs:Array Value}:∀o,(h.push { cls:=.type "tuple",data:=.seq xs }).get? h.objs.size=some o->o.dict=none:=fun o e=>by
 rw[aI _ rfl] at e;cases e;rfl
section
variable (P:Program)(w:World)
def bI (H:Hp)(h:Heap)(a:Addr):HO->Prop
 | .lst xs=>xs.length<=sizeLine/\Ex2 fun(its:List Value) (n:Nat)=>b_ xs its/\h.get? a=some { cls:=.type "list",data:=.seq its.toArray n }
 | .tup xs=>xs.length<=sizeLine/\∃its:List Value,b_ xs its/\IsTup h a its.toArray/\∀o,h.get? a=some o->o.dict=none
 | .dK kvs=>An3 (kvs.length<=sizeLine) ((a==sysModules)=false) (∃vs,KV kvs vs/\h.DictOf (bK P w) a vs)
 | .dT kvs=>kvs.length<=sizeLine/\(a==sysModules)=false/\∃xs:List (List Key×Addr×Value),
   Paired (fun(p:List Key×V) (q:List Key×Addr×Value)=>p.1=q.1/\H q.2.1=some (.tup (p.1.map kV))/\cb p.2 q.2.2) kvs xs/\∃o es ep,h.get? a=some o/\o.ExactDict/\o.data=.dict es ep/\es.toList=xs.map (entryOfKey (tupleKind (bK P w)))/\(xs.map (·.1)).Nodup
 | .set S n=>h.SetOf (intKind P w) a S n
 | .ins C dx fs=>H dx=some (.own a)/\fs.length<=1000/\dx≠a/\h.get? a=some (instObj C dx)/\∃mA,h.Ns1 dx mA/\(∀f,ij (fs.lookup f) (mA f))/\PySem.Within mA (fs.map (·.1))
 | .own _=>∃o,h.get? a=some o
 | .xd fs=>∃mA,h.Ns1 a mA/\∀f,ij (fs.lookup f) (mA f)
 | .rng lo hi=>Ex3 fun t u v=>h.get? a=some { cls:=.type "range",data:=.fields #[.int lo t,.int hi u,.int 1 v] }
 | .frz o u=>h.get? a=some o/\bI H h a u
 | .tbl ps=>h.get? a=some { cls:=.none,data:=.fields ps }
 | .met f x=>h.get? a=some (methodObj (.ref f) (.ref x))
 | .ext φ=>An3 (φ h) (∃o,h.get? a=some o) (∀h1 h2:Heap,φ h1->(∀o,h1.get? a=some o->h2.get? a=some o)->φ h2)
def HOk (H:Hp)(h:Heap):Prop:=∀a o,H a=some o->bI P w H h a o
end
section
theorem bI.lt (x:bI P w H h a o):a<h.objs.size:=by
 cases o with
 | lst xs=>obtain⟨_,_,_,_,e⟩:=x;exact aS e
 | tup xs=>obtain⟨_,_,_,p,_⟩:=x;exact p.lt
 | dK kvs=>obtain⟨_,_,_,_,o,_,_,e,_⟩:=x;exact aS e
 | dT kvs=>obtain⟨_,_,_,_,o,_,_,e,_⟩:=x;exact aS e
 | set S n=>obtain⟨o,_,_,_,e,_⟩:=x;exact aS e
 | ins C dx fs=>obtain⟨_,_,_,e,_⟩:=x;exact aS e
 | own y=>obtain⟨_,e⟩:=x;exact aS e
 | xd fs=>obtain⟨_,⟨_,_,_,e,_⟩,_⟩:=x;exact aS e
 | rng lo hi=>obtain⟨_,_,_,e⟩:=x;exact aS e
 | frz ob u=>obtain⟨e,_⟩:=x;exact aS e
 | tbl ps=>exact aS (show h.get? a=some _ from x)
 | met f y=>exact aS (show h.get? a=some _ from x)
 | ext φ=>obtain⟨_,⟨_,e⟩,_⟩:=x;exact aS e
theorem Paired.mapP {α β:Type}{F G:α->β->Prop}:∀{l₁:List α} {l₂:List β},Paired F l₁ l₂->(∀a b,F a b->G a b)->Paired G l₁ l₂
 | _,_,.nil,_=>.nil
 | _,_,.cons r t,f=>.cons (f _ _ r) (Paired.mapP t f)
theorem bI.stay (x:bI P w H h a o)(k:∀b u,(b=a\/H b=some (.own a))->h.get? b=some u->h'.get? b=some u)
  (ho:∀b,H b=some (.own a)->H' b=some (.own a)) (ht:∀b xs,H b=some (.tup xs)->H' b=some (.tup xs)):bI P w H' h' a o:=by
 induction o with
 | lst xs=>obtain⟨z,its,n,r,e⟩:=x;exact⟨z,its,n,r,k _ _ (.inl rfl) e⟩
 | tup xs=>
  obtain⟨z,its,r,⟨ob,e,c⟩,dn⟩:=x;have e2:=k _ _ (.inl rfl) e;exact⟨z,its,r,⟨ob,e2,c⟩,fun o q=>by rw[e2] at q;cases q;exact dn _ e⟩
 | dK kvs=>obtain⟨z,y,vs,r,ob,es,ep,e,c⟩:=x;exact⟨z,y,vs,r,ob,es,ep,k _ _ (.inl rfl) e,c⟩
 | dT kvs=>
  obtain⟨z,y,xs,r,ob,es,ep,e,c⟩:=x;exact⟨z,y,xs,Paired.mapP r fun p q z=>⟨z.1,ht _ _ z.2.1,z.2.2⟩,ob,es,ep,k _ _ (.inl rfl) e,c⟩
 | set S n=>obtain⟨ob,es,ep,t,e,c⟩:=x;exact⟨ob,es,ep,t,k _ _ (.inl rfl) e,c⟩
 | ins C dx fs=>
  obtain⟨d,z,ne,e,mA,⟨od,es,ep,e2,c⟩,r⟩:=x;exact⟨ho _ d,z,ne,k _ _ (.inl rfl) e,mA,⟨od,es,ep,k _ _ (.inr d) e2,c⟩,r⟩
 | own y=>obtain⟨ob,e⟩:=x;exact⟨ob,k _ _ (.inl rfl) e⟩
 | xd fs=>obtain⟨mA,⟨od,es,ep,e,c⟩,r⟩:=x;exact⟨mA,⟨od,es,ep,k _ _ (.inl rfl) e,c⟩,r⟩
 | rng lo hi=>obtain⟨t,u,v,e⟩:=x;exact⟨t,u,v,k _ _ (.inl rfl) e⟩
 | frz ob u ih=>obtain⟨e,q⟩:=x;exact⟨k _ _ (.inl rfl) e,ih q⟩
 | tbl ps=>
  have e:h.get? a=some { cls:=.none,data:=.fields ps }:=x;show h'.get? a=some { cls:=.none,data:=.fields ps };exact k a _ (.inl rfl) e
 | met f y=>
  have e:h.get? a=some (methodObj (.ref f) (.ref y)):=x;show h'.get? a=some (methodObj (.ref f) (.ref y));exact k a _ (.inl rfl) e
 | ext φ=>obtain⟨p,⟨o,e⟩,st⟩:=x;exact⟨st _ _ p fun o q=>k _ _ (.inl rfl) q,⟨o,k _ _ (.inl rfl) e⟩,st⟩
theorem HOk.lt (x:HOk P w H h)(e:H a=some o):a<h.objs.size:=(x a o e).lt
theorem HOk.fresh (x:HOk P w H h)(e:h.objs.size<=a):H a=none:=by
 cases q:H a with
 | none=>rfl
 | some u=>exact aY (aH (x.lt q) e) (Nat.lt_irrefl _)
theorem HOk.kept (x:HOk P w H h)(k:∀b u,h.get? b=some u->h'.get? b=some u):HOk P w H h':=fun a o e=>
 (x a o e).stay (fun b u _ q=>k b u q) (fun _ q=>q) fun _ _ q=>q
theorem HOk.laid (x:HOk P w H h)(k:∀b u,h.get? b=some u->h'.get? b=some u)(hp:h.objs.size<=a)(new:bI P w (upd H a o) h' a o):HOk P w (upd H a o) h':=fun b u e=>by
 have hn:=x.fresh hp;by_cases hb:b=a
 ·subst hb;rw[ay] at e;cases e;exact new
 ·rw[aE hb] at e;exact(x b u e).stay (fun c v _ q=>k c v q) (fun c q=>by rw[aE (ao q hn)];exact q) fun c xs q=>by rw[aE (ao q hn)];exact q
end
def Rd (H:Hp)(a:Addr)(u:HO):Prop:=H a=some u\/∃o,H a=some (.frz o u)
theorem Rd.ok {u}(r:Rd H a u)(x:HOk P w H h):bI P w H h a u:=by
 rcases r with r|⟨o,r⟩
 ·exact x a u r
 ·obtain⟨_,q⟩:=x a _ r;exact q
def Mut:Option HO->Prop
 | some (.lst _)=>True
 | some (.dK _)=>True
 | some (.dT _)=>True
 | some (.set _ _)=>True
 | some (.ins _ _ _)=>True
 | some (.ext _)=>True
 | _=>False
section
variable {x e:Addr}{o':HO}
theorem HOk.write (ok:HOk P w H h)(mu:Mut (H x))(he:e=x\/H e=some (.own x))(k:∀b u,b≠e->h.get? b=some u->h'.get? b=some u)(heo:∃u,h'.get? e=some u)
  (new:bI P w (upd H x o') h' x o'):HOk P w (upd H x o') h':=fun b u q=>by
 have nown:∀c y,H c=some (.own y)->c≠x:=fun c y r z=>by subst z;rw[r] at mu;exact mu
 have ntup:∀c xs,H c=some (.tup xs)->c≠x:=fun c xs r z=>by subst z;rw[r] at mu;exact mu
 by_cases hb:b=x
 ·subst hb;rw[ay] at q;cases q;exact new
 ·rw[aE hb] at q;by_cases hbe:b=e
  ·have q':H b=some (.own x):=by
    rcases he with z|z
    ·exact aY (hbe.trans z) hb
    ·rw[hbe];exact z
   rw[q] at q';cases q';obtain⟨v,hv⟩:=heo;exact⟨v,by rw[hbe];exact hv⟩
  ·refine(ok b u q).stay (fun c v hc r=>k c v ?_ r) (fun c r=>by rw[aE (nown c b r)];exact r) fun c xs r=>by rw[aE (ntup c xs r)];exact r
   rcases hc with rfl|hc
   ·exact hbe
   ·rintro rfl;rcases he with z|z
    ·exact nown c b hc z
    ·rw[hc] at z;cases z;exact hb rfl
end
structure Un (fs ex:List Addr)(H H':Hp)(h h':Heap):Prop where
 keep:∀b o,h.get? b=some o->H b=none->b∉fs->b∉ex->h'.get? b=some o
 slot:∀b o,h.get? b=some o->H b=none->b∈fs->b∉ex->∃sl,h'.get? b=some { o with slots:=sl }
 free:∀b o,h.get? b=some o->H b=none->b∉ex->H' b=none
 there:∀b o,h.get? b=some o->b∉ex->∃o',h'.get? b=some o'
 tups:∀b xs,H b=some (.tup xs)->H' b=some (.tup xs)
 frzs:∀b o u,H b=some (.frz o u)->H' b=some (.frz o u)
 tbls:∀b ps,H b=some (.tbl ps)->∃more,H' b=some (.tbl (ps++more))
section
variable {fs:List Addr}{h1:Heap}{x e:Addr}
theorem Un.any (u:Un fs ex H H1 h h1)(q:h.get? b=some ob)(n:H b=none)(hx:b∉ex):∃sl,h1.get? b=some { ob with slots:=sl }:=by
 by_cases hb:b∈fs
 ·exact u.slot b ob q n hb hx
 ·exact⟨ob.slots,u.keep b ob q n hb hx⟩
theorem Un.kept (k:∀b u,h.get? b=some u->h'.get? b=some u):Un fs ex H H h h':=
 ⟨fun b ob q _ _ _=>k b ob q,fun b ob q _ _ _=>⟨ob.slots,k b ob q⟩,fun _ _ _ n _=>n,fun b ob q _=>⟨ob,k b ob q⟩,fun _ _ q=>q,fun _ _ _ q=>q,fun _ ps q=>⟨#[],by rw[q];simp⟩⟩
theorem Un.refl:Un fs ex H H h h:=Un.kept fun _ _ q=>q
theorem Un.laid (k:∀b u,h.get? b=some u->h'.get? b=some u)(hp:h.objs.size<=a)(hn:H a=none):Un fs ex H (upd H a o) h h' where
 keep:=fun b u q _ _ _=>k b u q
 slot:=fun b u q _ _ _=>⟨u.slots,k b u q⟩
 free:=fun b u q n _=>by rw[aE (av (aH (aS q) hp))];exact n
 there:=fun b u q _=>⟨u,k b u q⟩
 tups:=fun b xs q=>by rw[aE (ao q hn)];exact q
 frzs:=fun b u xs q=>by rw[aE (ao q hn)];exact q
 tbls:=fun b ps q=>⟨#[],by rw[aE (ao q hn),q];simp⟩
theorem Un.write (mu:Mut (H x))(he:e=x\/H e=some (.own x))(k:∀b u,b≠e->h.get? b=some u->h'.get? b=some u)(heo:∃u,h'.get? e=some u):Un fs ex H (upd H x o) h h':=by
 have hx:∀b,H b=none->b≠x:=fun b n z=>by subst z;rw[n] at mu;exact mu
 have hb:∀b,H b=none->b≠e:=fun b n z=>by
  subst z;rcases he with r|r
  ·exact hx b n r
  ·rw[n] at r;cases r
 have hm:∀b u,H b=some u->¬Mut (some u)->b≠x:=fun b u q nm z=>by subst z;rw[q] at mu;exact nm mu
 refine⟨fun b u q n _ _=>k b u (hb b n) q,fun b u q n _ _=>⟨u.slots,k b u (hb b n) q⟩,fun b u q n _=>by rw[aE (hx b n)];exact n,fun b u q _=>?_,
  fun b xs q=>by rw[aE (hm b _ q fun z=>z)];exact q,fun b u xs q=>by rw[aE (hm b _ q fun z=>z)];exact q,fun b ps q=>⟨#[],by rw[aE (hm b _ q fun z=>z),q];simp⟩⟩
 by_cases hbe:b=e
 ·subst hbe;exact heo
 ·exact⟨u,k b u hbe q⟩
end
def trk (h:Heap)(H:Hp):List Addr:=(List.range h.objs.size).filter fun a=>(H a).isSome
def qa (h:Heap)(H:Hp):Heap:=PySem.W.hideAll h (trk h H)
theorem p_ (h:Heap)(H:Hp):(qa h H).objs.size=h.objs.size:=PySem.W.hideAll_size _ _
theorem rQ {o}(e:h.get? b=some o)(n:H b=none):(qa h H).get? b=some o:=
 PySem.W.hideAll_get _ e fun hm=>by
  have q:(H b).isSome=true:=(u_.mp hm).2;rw[n] at q;simp at q
theorem uH {o}(e:(qa h H).get? b=some o):h.get? b=some o/\H b=none:=by
 have e':h.get? b=some o:=PySem.W.of_hideAll (trk h H) e;refine⟨e',?_⟩;cases q:H b with
 | none=>rfl
 | some x=>
  have hm:b∈trk h H:=u_.mpr ⟨mem_range.mpr (aS e'),by simp[q]⟩;have z:(qa h H).get? b=none:=PySem.W.hideAll_none (trk h H) hm;rw[z] at e;cases e
def ii (g h:Heap)(L:Addr):List (Addr×Obj):=(List.range h.objs.size).filterMap fun a=>if a=L\/(g.get? a).isSome=true then none else (h.get? a).map fun o=>(a,o)
theorem gW {g:Heap}{o}(h1:a≠L)(h2:g.get? a=none)(h3:h.get? a=some o):(a,o)∈ii g h L:=
 mem_filterMap.mpr ⟨a,mem_range.mpr (aS h3),by simp[h1,h2,h3]⟩
theorem ip {g:Heap}{p:Addr×Obj}(hp:p∈ii g h L):An3 (p.1≠L) (g.get? p.1=none) (h.get? p.1=some p.2):=by
 obtain⟨b,_,e⟩:=mem_filterMap.mp hp;split at e
 ·cases e
 ·rename_i hn
  cases q:h.get? b with
  | none=>rw[q] at e;simp at e
  | some u=>
   rw[q] at e;simp only[Option.map_some,Option.some.injEq] at e;subst e;refine⟨fun z=>hn (.inl z),?_,q⟩;show g.get? b=none;cases r:g.get? b with
   | none=>rfl
   | some v=>exact(hn (.inr (by simp[r]))).elim
theorem mo {g}:News g L h (ii g h L):=fun p hp=>let⟨a,b,c⟩:=ip hp;⟨c,a,b⟩
structure Mod (K:Frag)(mg:Str->Option Value)(base:Heap):Prop where
 kin:K.In base
 glob:base.Ns mainGlobals mg
 blt:∃mb,base.Ns builtinsNs mb/\∀x:Str,x ≠ "__name__"->mb x=bootBuiltins x
 nolimit:base.NoLimit
structure Cx where
 prog:Program
 w:World
 K:Frag
 mg:Str->Option Value
 base:Heap
 A:Around
 N:List Str
 s₀:Shared
 H₀:Hp
 env:Env
 outer:List Env
 stack:List Env
 ex:List Addr
 fn:Str->Bool
 calm:Bool
 pn:List (Addr×Obj)
 xe:Value->Shared->Prop
variable {X Y:L2.Cx}
def frs (l:List Env):List Addr:=l.filterMap (·.frame)
abbrev Cx.fs (X:Cx):List Addr:=frs X.outer
def Vis (sc:Scope)(x:Str):Prop:=sc.names.lookup x=some .local\/sc.names.lookup x=some .cell\/sc.names.lookup x=some .free
def Loc (sc:Scope)(x:Str):Prop:=sc.names.lookup x=some .local\/sc.names.lookup x=some .cell
def Av (env:Env)(h:Heap)(m:Str->Option Value)(x:Str)(u:Value):Prop:=
 (env.kindOf x=some .local/\m x=some u)\/((env.kindOf x=some .cell\/env.kindOf x=some .free)/\∃c,env.cells.lookup x=some c/\h.IsCell c (some u))
structure Cx.Ok (X:Cx):Prop where
 mod:Mod X.K X.mg X.base
 kind:X.env.scope.kind=.function
 glob:X.env.globals=mainGlobals
 blt:X.env.builtins=builtinsNs
 above:X.s₀.heap.objs.size<=X.env.locals
 inj:∀x y c,X.env.cells.lookup x=some c->X.env.cells.lookup y=some c->x=y
 has:∀x,(X.env.kindOf x=some .cell\/X.env.kindOf x=some .free)->∃c,X.env.cells.lookup x=some c
 cab:∀x c,X.fn x=true->X.env.cells.lookup x=some c->X.s₀.heap.objs.size<=c
 hd:X.calm=true->X.A.handled=none
 frames:X.A.frames=some X.stack
 stk:X.stack=X.outer\/(X.stack=X.env::X.outer/\X.env.frame=some X.env.locals)
 exf:∀b∈X.ex,b≠X.env.locals/\∀x c,X.env.cells.lookup x=some c->c≠b
 bs:∀b o,X.base.get? b=some o->X.s₀.heap.get? b=some o/\X.H₀ b=none
 bsz:X.base.objs.size<=X.s₀.heap.objs.size
 noex:∀b o,X.base.get? b=some o->b∉X.ex
 exfs:∀b∈X.ex,b∉X.fs
 funs:X.s₀.heap.FunFrames X.base X.outer
 frf:∀b∈X.fs,X.H₀ b=none
structure Inv (X:Cx)(pins:List (Addr×Obj))(σ:List (Option V))(H:Hp)(s:Shared):Prop where
 ok:X.Ok
 os:s.os=X.s₀.os
 bare:AllBare s.gens
 base:Un X.fs X.ex X.H₀ H X.s₀.heap s.heap
 loc:∃m,s.heap.Ns X.env.locals m/\∀(i:Nat) (x:Str) (v:V),X.N[i]?=some x->σ[i]?=some (some v)->Vis X.env.scope x->∃u,cb v u/\Av X.env s.heap m x u
 cell:∀x c,X.env.cells.lookup x=some c->∃v,s.heap.IsCell c v
 free:H X.env.locals=none
 freeC:∀x c,X.env.cells.lookup x=some c->H c=none
 pin:∀p∈X.pn++pins,s.heap.get? p.1=some p.2/\H p.1=none/\p.1≠X.env.locals/\p.1∉X.fs/\∀v,p.2.data≠.cell v
 hok:HOk X.prog X.w H s.heap
 len:σ.length=X.N.length
section
variable {σ:List (Option V)}
theorem Cx.Ok.nofr (ok:X.Ok){o}(e:X.base.get? b=some o):b∉X.fs:=fun hb=>by
 have:=(ok.funs.mem hb).1;rw[e] at this;cases this
theorem Inv.bs (I:Inv X pins σ H s):∀b o,X.base.get? b=some o->s.heap.get? b=some o/\H b=none:=fun b o e=>
 ⟨I.base.keep b o (I.ok.bs b o e).1 (I.ok.bs b o e).2 (I.ok.nofr e) (I.ok.noex b o e),I.base.free b o (I.ok.bs b o e).1 (I.ok.bs b o e).2 (I.ok.noex b o e)⟩
theorem Inv.bk (I:Inv X pins σ H s):∀b o,X.base.get? b=some o->s.heap.get? b=some o:=fun b o e=>(I.bs b o e).1
theorem Inv.mod (I:Inv X pins σ H s):Mod X.K X.mg X.base:=I.ok.mod
theorem Inv.kIn (I:Inv X pins σ H s):X.K.In s.heap:=I.ok.mod.kin.keeps I.bk
theorem Inv.fr (I:Inv X pins σ H s):∃m,Fr X.base X.env.locals s.heap m:=
 let⟨m,hn,_⟩:=I.loc
 ⟨m,hn,I.bk,Nat.le_trans I.ok.bsz I.ok.above⟩
theorem Inv.lt (I:Inv X pins σ H s):X.env.locals<s.heap.objs.size:=let⟨_,hn,_⟩:=I.loc;hn.lt
theorem Inv.sz (I:Inv X pins σ H s):X.s₀.heap.objs.size<=s.heap.objs.size:=Nat.le_trans I.ok.above (cV I.lt)
theorem Inv.nofs (I:Inv X pins σ H s)(h:s.heap.objs.size<=a):a∉X.fs:=fun hb=>by
 obtain⟨_,o,ho,_⟩:=I.ok.funs.mem hb;exact aY (aH (aS ho) (Nat.le_trans I.sz h)) (Nat.lt_irrefl _)
theorem Inv.cne (I:Inv X pins σ H s):∀x c,X.env.cells.lookup x=some c->c≠X.env.locals:=fun x c e z=>by
 obtain⟨v,o,ho,hd⟩:=I.cell x c e;obtain⟨m,⟨o',es,ep,ho',hd',_⟩,_⟩:=I.loc;rw[z,ho'] at ho;cases ho;rw[hd'] at hd;cases hd
theorem Inv.funs (I:Inv X pins σ H s):s.heap.FunFrames X.base X.outer:=by
 have all:∀(l:List Env),(∀b∈frs l,b∈X.fs)->X.s₀.heap.FunFrames X.base l->s.heap.FunFrames X.base l:=by
  intro l
  induction l with
  | nil=>intro _ _;trivial
  | cons env r ih=>
   intro hs hl;obtain⟨hk,⟨L,o,hf,hn,ho,hd⟩,hr⟩:=hl;have hL:L∈X.fs:=hs L (by unfold frs;rw[filterMap_cons,hf];exact bt);obtain⟨sl,e⟩:=I.base.slot L o ho (I.ok.frf L hL) hL fun z=>I.ok.exfs L z hL;exact⟨hk,⟨L,_,hf,hn,e,hd⟩,ih (fun b hb=>hs b (by unfold frs;rw[filterMap_cons,hf];exact aX _ hb)) hr⟩
 exact all X.outer (fun _ hb=>hb) I.ok.funs
theorem Inv.stack (I:Inv X pins σ H s):s.heap.FunFrames X.base X.stack:=by
 rcases I.ok.stk with e|⟨e,hf⟩
 ·rw[e];exact I.funs
 ·rw[e];obtain⟨m,hn,_⟩:=I.loc;refine .cons (by rw[I.ok.kind];decide) hf hn ?_ I.funs;exact Heap.get?_none_of_le (Nat.le_trans I.ok.bsz I.ok.above)
theorem Inv.stkSub (I:Inv X pins σ H s):∀b∈frs X.stack,b∈X.env.locals::X.fs:=fun b hb=>by
 rcases I.ok.stk with e|⟨e,hf⟩
 ·rw[e] at hb;exact aX _ hb
 ·rw[e] at hb;unfold frs at hb;rw[filterMap_cons,hf] at hb;exact hb
theorem Inv.stkFree (I:Inv X pins σ H s):∀b∈frs X.stack,H b=none:=fun b hb=>by
 rcases aV.mp (I.stkSub b hb) with e|hb
 ·rw[e];exact I.free
 ·obtain⟨_,o,ho,_⟩:=I.ok.funs.mem hb;exact I.base.free b o ho (I.ok.frf b hb) fun z=>I.ok.exfs b z hb
theorem Inv.step {g':Array GenState}{t':Nat}{d':Drawn}(I:Inv X pins σ H s)
  (hch:∀b∈ch,(b∈X.ex\/X.s₀.heap.objs.size<=b)/\b≠X.env.locals/\(∀x c,X.env.cells.lookup x=some c->c≠b)/\∀p∈X.pn++pins,p.1≠b)
  (keep:∀b o,b≠X.env.locals->b∉X.fs->b∉ch->s.heap.get? b=some o->H b=none->h'.get? b=some o)
  (slot:∀b o,b≠X.env.locals->b∈X.fs->b∉ch->s.heap.get? b=some o->H b=none->∃sl,h'.get? b=some { o with slots:=sl }) (free:∀b o,b∉ch->s.heap.get? b=some o->H b=none->H' b=none)
  (there:∀b o,b∉ch->s.heap.get? b=some o->∃o',h'.get? b=some o')
  (tups:∀b xs,H b=some (.tup xs)->H' b=some (.tup xs)) (frzs:∀b o u,H b=some (.frz o u)->H' b=some (.frz o u)) (tbls:∀b ps,H b=some (.tbl ps)->∃more,H' b=some (.tbl (ps++more)))
  (ns:∀m,s.heap.Ns X.env.locals m->h'.Ns X.env.locals m) (hok:HOk X.prog X.w H' h') (hg:AllBare g') :
  Inv X pins σ H' { s with heap:=h',gens:=g',drawn:=d',toks:=t' }:=by
 have neL:∀b o,X.s₀.heap.get? b=some o->b≠X.env.locals:=fun b o e=>av (aH (aS e) I.ok.above)
 have neC:∀b o,X.s₀.heap.get? b=some o->b∉X.ex->b∉ch:=fun b o e hx hb=>by
  rcases(hch b hb).1 with z|z
  ·exact hx z
  ·exact aY (aH (aS e) z) (Nat.lt_irrefl _)
 have cellK:∀x c,X.env.cells.lookup x=some c->∀v,s.heap.IsCell c v->h'.IsCell c v:=fun x c e v ⟨o,ho,hd⟩=>by
  have nch:c∉ch:=fun z=>(hch c z).2.2.1 x c e rfl;by_cases hc:c∈X.fs
  ·obtain⟨sl,q⟩:=slot c o (I.cne x c e) hc nch ho (I.freeC x c e);exact⟨_,q,hd⟩
  ·exact⟨o,keep c o (I.cne x c e) hc nch ho (I.freeC x c e),hd⟩
 refine⟨I.ok,I.os,hg,⟨fun b o e n hb hx=>?_,fun b o e n hb hx=>?_,fun b o e n hx=>?_,fun b o e hx=>?_,fun b xs e=>tups b xs (I.base.tups b xs e),fun b o xs e=>frzs b o xs (I.base.frzs b o xs e),fun b ps e=>?_⟩,?_,fun x c e=>?_,?_,fun x c e=>?_,fun p hp=>?_,hok,I.len⟩
 ·exact keep b o (neL b o e) hb (neC b o e hx) (I.base.keep b o e n hb hx) (I.base.free b o e n hx)
 ·obtain⟨sl,e1⟩:=I.base.slot b o e n hb hx;obtain⟨sl',e2⟩:=slot b _ (neL b o e) hb (neC b o e hx) e1 (I.base.free b o e n hx);exact⟨sl',e2⟩
 ·obtain⟨o',e1⟩:=I.base.there b o e hx;exact free b o' (neC b o e hx) e1 (I.base.free b o e n hx)
 ·obtain⟨o',e1⟩:=I.base.there b o e hx;exact there b o' (neC b o e hx) e1
 ·obtain⟨m1,e1⟩:=I.base.tbls b ps e;obtain⟨m2,e2⟩:=tbls b _ e1;exact⟨m1++m2,by rw[e2,Array.append_assoc]⟩
 ·obtain⟨m,hn,hl⟩:=I.loc;refine⟨m,ns m hn,fun i x v e1 e2 e3=>?_⟩;obtain⟨u,r,l⟩:=hl i x v e1 e2 e3;refine⟨u,r,?_⟩;rcases l with l|⟨k,c,e,z⟩
  ·exact .inl l
  ·exact .inr ⟨k,c,e,cellK x c e _ z⟩
 ·obtain⟨v,z⟩:=I.cell x c e;exact⟨v,cellK x c e v z⟩
 ·obtain⟨m,⟨o,_,_,ho,_⟩,_⟩:=I.loc;exact free _ o (fun z=>(hch _ z).2.1 rfl) ho I.free
 ·obtain⟨v,o,ho,hd⟩:=I.cell x c e;exact free c o (fun z=>(hch c z).2.2.1 x c e rfl) ho (I.freeC x c e)
 ·obtain⟨e,n,ne,nf,d⟩:=I.pin p hp;have nch:p.1∉ch:=fun z=>(hch p.1 z).2.2.2 p hp rfl;exact⟨keep p.1 p.2 ne nf nch e n,free p.1 p.2 nch e n,ne,nf,d⟩
theorem Inv.un {t':Nat}(I:Inv X pins σ H s)(u:Un X.fs [] H H' s.heap h')(hok:HOk X.prog X.w H' h'):Inv X pins σ H' { s with heap:=h',toks:=t' }:=by
 obtain⟨m,⟨o,es,ep,ho,r⟩,_⟩:=id I.loc;obtain⟨sl,hL⟩:=u.any ho I.free (by simp)
 exact I.step (g':=s.gens) (d':=s.drawn) (ch:=[]) (fun _ z=>nomatch z) (fun b o _ hb _ e n=>u.keep b o e n hb (by simp)) (fun b o _ hb _ e n=>u.slot b o e n hb (by simp)) (fun b o _ e n=>u.free b o e n (by simp)) (fun b o _ e=>u.there b o e (by simp)) u.tups u.frzs u.tbls (fun m' hm=>by
  obtain⟨o',es',ep',ho',r'⟩:=hm;rw[ho] at ho';cases ho'
  exact⟨_,es',ep',hL,r'⟩) hok I.bare
theorem Inv.call {g':Array GenState}{t':Nat}{d':Drawn}(I:Inv X pins σ H s)(u:Un (frs X.stack) ch H H' s.heap h')(hok:HOk X.prog X.w H' h')(hg:AllBare g')
  (hch:∀b∈ch,(b∈X.ex\/X.s₀.heap.objs.size<=b)/\b≠X.env.locals/\(∀x c,X.env.cells.lookup x=some c->c≠b)/\∀p∈X.pn++pins,p.1≠b) :
  Inv X pins σ H' { s with heap:=h',gens:=g',drawn:=d',toks:=t' }:=by
 obtain⟨m,⟨o,es,ep,ho,r⟩,_⟩:=id I.loc;obtain⟨sl,hL⟩:=u.any ho I.free fun z=>(hch _ z).2.1 rfl
 exact I.step (ch:=ch) hch (fun b o hL hb hc e n=>u.keep b o e n (fun z=>(aV.mp (I.stkSub b z)).elim hL hb) hc) (fun b o _ _ hc e n=>u.any e n hc) (fun b o hc e n=>u.free b o e n hc) (fun b o hc e=>u.there b o e hc) u.tups u.frzs u.tbls (fun m' hm=>by
  obtain⟨o',es',ep',ho',r'⟩:=hm;rw[ho] at ho';cases ho'
  exact⟨_,es',ep',hL,r'⟩) hok hg
theorem Inv.turned {t':Nat}(I:Inv X pins σ H s)(k:∀b o,b≠it->s.heap.get? b=some o->h'.get? b=some o)(hn:H it=none)(hL:it≠X.env.locals)
  (h1:it∈X.ex\/X.s₀.heap.objs.size<=it) (h2:∀x c,X.env.cells.lookup x=some c->c≠it) (h3:∀p∈X.pn++pins,p.1≠it):Inv X pins σ H { s with heap:=h',toks:=t' }:=by
 have nit:∀b u,H b=some u->b≠it:=fun b u e z=>by rw[z,hn] at e;cases e
 refine I.step (g':=s.gens) (d':=s.drawn) (ch:=[it]) (fun b hb=>?_) (fun b o _ _ hc e _=>k b o (fun z=>hc (by simp[z])) e) (fun b o _ _ hc e _=>⟨o.slots,k b o (fun z=>hc (by simp[z])) e⟩) (fun _ _ _ _ n=>n)
  (fun b o hc e=>⟨o,k b o (fun z=>hc (by simp[z])) e⟩) (fun _ _ e=>e) (fun _ _ _ e=>e) (fun b ps e=>⟨#[],by rw[e];simp⟩) (fun m hm=>?_) (fun b u e=>?_) I.bare
 ·have e:b=it:=by simpa using hb
  subst e;exact⟨h1,hL,h2,h3⟩
 ·obtain⟨o,es,ep,ho,r⟩:=hm;exact⟨o,es,ep,k _ o (dG hL) ho,r⟩
 ·refine(I.hok b u e).stay (fun c v hc q=>k c v ?_ q) (fun _ q=>q) fun _ _ q=>q;rcases hc with z|z
  ·rw[z];exact nit b u e
  ·exact nit c _ z
theorem Inv.tok (I:Inv X pins σ H s)(t:Nat):Inv X pins σ H { s with toks:=t }:=I.un (h':=s.heap) (t':=t) Un.refl I.hok
theorem Inv.kept {t':Nat}(I:Inv X pins σ H s)(k:∀b u,s.heap.get? b=some u->h'.get? b=some u):Inv X pins σ H { s with heap:=h',toks:=t' }:=I.un (Un.kept k) (I.hok.kept k)
theorem Inv.laid {t':Nat}(I:Inv X pins σ H s)(k:∀b u,s.heap.get? b=some u->h'.get? b=some u)(hp:s.heap.objs.size<=a)(new:bI X.prog X.w (upd H a o) h' a o) :
  Inv X pins σ (upd H a o) { s with heap:=h',toks:=t' }:=I.un (Un.laid k hp (I.hok.fresh hp)) (I.hok.laid k hp new)
theorem Inv.write {x e}{t':Nat}(I:Inv X pins σ H s)(mu:Mut (H x))(he:e=x\/H e=some (.own x))(k:∀b u,b≠e->s.heap.get? b=some u->h'.get? b=some u)(heo:∃u,h'.get? e=some u)
  (new:bI X.prog X.w (upd H x o) h' x o):Inv X pins σ (upd H x o) { s with heap:=h',toks:=t' }:=I.un (Un.write mu he k heo) (I.hok.write mu he k heo new)
theorem Inv.pins_of (I:Inv X pins σ H s)(h:∀p∈pins',s.heap.get? p.1=some p.2/\H p.1=none/\p.1≠X.env.locals/\p.1∉X.fs/\∀v,p.2.data≠.cell v):Inv X pins' σ H s:=
 ⟨I.ok,I.os,I.bare,I.base,I.loc,I.cell,I.free,I.freeC,fun p hp=>(ba.mp hp).elim (fun z=>I.pin p (dE _ z)) (h p),I.hok,I.len⟩
theorem mn {N:List Str}(hN:N.Nodup)(a:N[i]?=some x)(b:N[j]?=some x):i=j:=by
 obtain⟨h1,e1⟩:=aA.mp a;obtain⟨h2,e2⟩:=aA.mp b;exact(List.getElem_inj hN).mp (e1.trans e2.symm)
theorem jy {Q:Unit->Shared->Prop}(I:Inv X pins σ H s)(hN:X.N.Nodup)(hi:X.N[i]?=some x)(hx:Loc X.env.scope x)(r:cb v u)
  (h:∀s',Inv X pins (σ.set i (some v)) H s'->(∃a,Heap.SameBut a s.heap s'.heap/\(a=X.env.locals\/X.env.cells.lookup x=some a))->Q () s') (hf:X.fn x=true\/X.env.scope.names.lookup x=some .local:=by first|exact .inl rfl|exact .inr rfl|assumption):wpAny M A (storeName X.env x u) Q E s:=by
 obtain⟨m,hn,hl⟩:=id I.loc;have hcls:(X.env.scope.kind==.class||(X.env.scope.kind==.module&&X.env.locals != X.env.globals))=false:=by rw[I.ok.kind];rfl
 have hiσ:i<σ.length:=by rw[I.len];exact(aA.mp hi).1
 have cne:=I.cne
 have tracked:∀{a:Addr} {h':Heap},(∃o,s.heap.get? a=some o/\H a=none)->Heap.SameBut a s.heap h'->HOk X.prog X.w H h':=fun {a h'} ha hs b ob e=>by
  obtain⟨_,_,hfree⟩:=ha;refine(I.hok b ob e).stay (fun c w' hc q=>(hs.2 c ?_).trans q) (fun _ q=>q) fun _ _ q=>q;rintro rfl;rcases hc with rfl|hc
  ·rw[hfree] at e;cases e
  ·rw[hfree] at hc;cases hc
 rcases hx with hk|hk
 ·refine wpAny_storeName_local hk hn (fun h' hn' hs=>?_) hcls;obtain⟨oL,_,_,hoL,_⟩:=id hn;refine h _ ⟨I.ok,I.os,I.bare,⟨fun b o e n hb hx=>?_,fun b o e n hb hx=>?_,I.base.free,fun b o e hx=>?_,I.base.tups,I.base.frzs,I.base.tbls⟩,⟨_,hn',fun j y v' e1 e2 e3=>?_⟩,fun y c e=>?_,I.free,I.freeC,fun p hp=>?_,tracked ⟨oL,hoL,I.free⟩ hs,by simpa using I.len⟩ ⟨_,hs,.inl rfl⟩
  ·exact(hs.2 b (av (aH (aS e) I.ok.above))).trans (I.base.keep b o e n hb hx)
  ·obtain⟨sl,e1⟩:=I.base.slot b o e n hb hx;exact⟨sl,(hs.2 b (av (aH (aS e) I.ok.above))).trans e1⟩
  ·obtain⟨o',e1⟩:=I.base.there b o e hx;exact⟨o',(hs.2 b (av (aH (aS e) I.ok.above))).trans e1⟩
  ·by_cases hj:j=i
   ·subst hj;rw[hi] at e1;cases e1;rw[getElem?_set_self hiσ] at e2;cases e2;exact⟨u,r,.inl ⟨hk,by simp⟩⟩
   ·rw[List.getElem?_set_ne (dG hj)] at e2;obtain⟨u',r',q⟩:=hl j y v' e1 e2 e3;refine⟨u',r',?_⟩;rcases q with⟨k,e⟩|⟨k,c,e,z⟩
    ·refine .inl ⟨k,?_⟩;have:y≠x:=fun e=>hj (mn hN e1 (e▸hi));simp[this,e]
    ·exact .inr ⟨k,c,e,z.sameBut hs (cne y c e)⟩
  ·obtain⟨w',z⟩:=I.cell y c e;exact⟨w',z.sameBut hs (cne y c e)⟩
  ·obtain⟨e,n,ne,nf,d⟩:=I.pin p hp;exact⟨(hs.2 p.1 ne).trans e,n,ne,nf,d⟩
 ·have hfn:X.fn x=true:=by
   rcases hf with z|z
   ·exact z
   ·rw[z] at hk;cases hk
  obtain⟨c,hc⟩:=I.ok.has x (.inl hk);obtain⟨w',z⟩:=I.cell x c hc;refine wpAny_storeName_cell I.ok.kind hk hc z (fun h' hc' hs=>?_);obtain⟨oc,hoc,hocd⟩:=id z
  refine h { s with heap:=h' } ⟨I.ok,I.os,I.bare,⟨fun b o e n hb hx=>?_,fun b o e n hb hx=>?_,I.base.free,fun b o e hx=>?_,I.base.tups,I.base.frzs,I.base.tbls⟩,⟨m,hn.sameBut hs (dG (cne x c hc)),fun j y v' e1 e2 e3=>?_⟩,fun y c' e=>?_,I.free,I.freeC,fun p hp=>?_,tracked ⟨oc,hoc,I.freeC x c hc⟩ hs,by simpa using I.len⟩ ⟨c,hs,.inr hc⟩
  ·exact(hs.2 b (av (aH (aS e) (I.ok.cab x c hfn hc)))).trans (I.base.keep b o e n hb hx)
  ·obtain⟨sl,e1⟩:=I.base.slot b o e n hb hx;exact⟨sl,(hs.2 b (av (aH (aS e) (I.ok.cab x c hfn hc)))).trans e1⟩
  ·obtain⟨o',e1⟩:=I.base.there b o e hx;exact⟨o',(hs.2 b (av (aH (aS e) (I.ok.cab x c hfn hc)))).trans e1⟩
  ·by_cases hj:j=i
   ·subst hj;rw[hi] at e1;cases e1;rw[getElem?_set_self hiσ] at e2;cases e2;exact⟨u,r,.inr ⟨.inl hk,c,hc,hc'⟩⟩
   ·rw[List.getElem?_set_ne (dG hj)] at e2;obtain⟨u',r',q⟩:=hl j y v' e1 e2 e3;refine⟨u',r',?_⟩;rcases q with q|⟨k,c',e,z'⟩
    ·exact .inl q
    ·refine .inr ⟨k,c',e,z'.sameBut hs ?_⟩;rintro rfl;exact hj (mn hN e1 (I.ok.inj _ _ _ e hc▸hi))
  ·by_cases hcc:c'=c
   ·subst hcc;exact⟨_,hc'⟩
   ·obtain⟨w2,z2⟩:=I.cell y c' e;exact⟨w2,z2.sameBut hs hcc⟩
  ·obtain⟨e,n,ne,nf,d⟩:=I.pin p hp;refine⟨(hs.2 p.1 ?_).trans e,n,ne,nf,d⟩;intro q;rw[q,hoc] at e;have q':oc=p.2:=aG e;exact d w' (by rw[<- q'];exact hocd)
theorem fN {Q:Unit->Shared->Prop}(I:Inv X pins σ H s)(hN:X.N.Nodup)(hi:X.N[i]?=some x)(hx:Loc X.env.scope x)(r:cb v u)
  (h:∀s',Inv X pins (σ.set i (some v)) H s'->Q () s') (hf:X.fn x=true\/X.env.scope.names.lookup x=some .local:=by first|exact .inl rfl|exact .inr rfl|assumption):wpAny M A (storeName X.env x u) Q E s:=
 jy I hN hi hx r (fun s' I' _=>h s' I') hf
theorem Inv.call' (I:Inv X pins σ H s)(ho:s'.os=s.os)(u:Un (frs X.stack) ch H H' s.heap s'.heap)(hok:HOk X.prog X.w H' s'.heap)(hg:AllBare s'.gens)
  (hch:∀b∈ch,(b∈X.ex\/X.s₀.heap.objs.size<=b)/\b≠X.env.locals/\(∀x c,X.env.cells.lookup x=some c->c≠b)/\∀p∈X.pn++pins,p.1≠b):Inv X pins σ H' s':=by
 obtain⟨h',g',d',t',o'⟩:=s';have e:o'=s.os:=ho;subst e;exact I.call (g':=g') (t':=t') (d':=d') u hok hg hch
end
abbrev XK:=Value->Option Addr->Hp->Prop
abbrev St:=List (Option V)
variable {σ:L2.St}{ct:L2.St->L2.Hp->Prop}
abbrev VK:=V->Hp->Prop
variable {rd:L2.V->L2.V->L2.Hp->L2.VK->Prop}{rr:L2.V->List L2.V->L2.Hp->L2.VK->Prop}{rt:L2.VK}
abbrev TE:=St->Hp->VK->Prop
variable {t4 ta td te tl tv tx ty:L2.TE}{trs:List (L2.TE×L2.TE)}
abbrev TT:=St->Hp->(Bool->Hp->Prop)->Prop
variable {tA tc tc2 tt:L2.TT}
abbrev TA:=St->Hp->(List V->Hp->Prop)->Prop
structure Ends where
 nx:St->Hp->Prop
 rt:VK
 bk:St->Hp->Prop:=fun _ _=>False
 ct:St->Hp->Prop:=fun _ _=>False
abbrev TS:=Ends->St->Hp->Prop
variable {tb:L2.TS}
inductive EP (X:Cx)(pins:List (Addr×Obj))(σ:St)(Q:VK)(u:Value)(s':Shared):Prop|mk (v:V) (H':Hp):Inv X pins σ H' s'->cb v u->Q v H'->EP X pins σ Q u s'
inductive TP (X:Cx)(pins:List (Addr×Obj))(σ:St)(Q:Bool->Hp->Prop)(b:Bool)(s':Shared):Prop|mk (H':Hp):Inv X pins σ H' s'->Q b H'->TP X pins σ Q b s'
inductive AP (X:Cx)(pins:List (Addr×Obj))(σ:St)(Q:List V->Hp->Prop)(us:List Value)(s':Shared):Prop|mk (vs:List V) (H':Hp):Inv X pins σ H' s'->b_ vs us->Q vs H'->AP X pins σ Q us s'
def SP (X:Cx)(pins:List (Addr×Obj))(D:Ends)(f:Flow)(s':Shared):Prop:=
 match f with
 | .next=>Ex2 fun σ' H'=>Inv X pins σ' H' s'/\D.nx σ' H'
 | .brk=>Ex2 fun σ' H'=>Inv X pins σ' H' s'/\D.bk σ' H'
 | .cont=>Ex2 fun σ' H'=>Inv X pins σ' H' s'/\D.ct σ' H'
 | .ret u=>Ex3 fun v σ' H'=>An3 (Inv X pins σ' H' s') (cb v u) (D.rt v H')
def PE (X:Cx)(e:Expr)(t:TE):Prop:=
 ∀(pins:List (Addr×Obj)) (s:Shared) (σ:St) (H:Hp) (Q:VK),Inv X pins σ H s->t σ H Q->wpAny (model X.prog X.w) X.A (eval e X.env) (EP X pins σ Q) X.xe s
def PT (X:Cx)(e:Expr)(t:TT):Prop:=
 ∀(pins:List (Addr×Obj)) (s:Shared) (σ:St) (H:Hp) (Q:Bool->Hp->Prop),Inv X pins σ H s->t σ H Q->wpAny (model X.prog X.w) X.A (isTrue e X.env (eval e X.env)) (TP X pins σ Q) X.xe s
def PW (X:Cx)(e:Expr)(t:TT):Prop:=
 ∀(iL:Sem Value) (pins:List (Addr×Obj)) (s:Shared) (σ:St) (H:Hp) (Q:Bool->Hp->Prop),Inv X pins σ H s->t σ H Q->wpAny (model X.prog X.w) X.A (isTrue e X.env iL) (TP X pins σ Q) X.xe s
theorem PW.pt {t}(h:PW X e t):PT X e t:=h _
def PA (X:Cx)(es:List Expr)(t:TA):Prop:=
 ∀(pos:Pos) (pins:List (Addr×Obj)) (s:Shared) (σ:St) (H:Hp) (Q:List V->Hp->Prop),Inv X pins σ H s->t σ H Q->wpAny (model X.prog X.w) X.A (spliced (backTo pos (starEach es X.env))) (AP X pins σ Q) X.xe s
def PS (X:Cx)(st:Stmt)(t:TS):Prop:=
 ∀(pins:List (Addr×Obj)) (s:Shared) (σ:St) (H:Hp) (D:Ends),Inv X pins σ H s->t D σ H->wpAny (model X.prog X.w) X.A (exec st X.env) (SP X pins D) X.xe s
def PSs (X:Cx)(st:List Stmt)(t:TS):Prop:=
 ∀(pins:List (Addr×Obj)) (s:Shared) (σ:St) (H:Hp) (D:Ends),Inv X pins σ H s->t D σ H->wpAny (model X.prog X.w) X.A (execs st X.env) (SP X pins D) X.xe s
theorem thn {α:Type}{t:Sem α}{Q Q':α->Shared->Prop}(h:wpAny M A t Q E s)(hQ:∀a s,Q a s->Q' a s):wpAny M A t Q' E s:=bn h hQ fun _ _ x=>x
section
def xN (i:Nat):TE:=fun σ H Q=>∃v,σ[i]?=some (some v)/\Q v H
def tC (v:V):TE:=fun _ H Q=>Q v H
theorem wd (hN:X.N[i]?=some x)(hv:Vis X.env.scope x)(hd:(x==("__debug__" : Str))=false:=by decide)(hcd:(x==("__classdict__" : Str))=false:=by decide):PE X (.Name x pos) (xN i):=by
 intro pins s σ H Q I h;obtain⟨v,e,h⟩:=h;obtain⟨m,hn,hl⟩:=I.loc;obtain⟨u,r,l⟩:=hl i x v hN e hv;have fin:EP X pins σ Q u s:=⟨v,H,I,r,h⟩;rcases l with⟨hk,hm⟩|⟨hk,c,hc,hcell⟩
 ·exact wpAny_Name (wpAny_loadName_local I.ok.kind hk hn hm fin) hd
 ·rcases hk with hk|hk
  ·exact wpAny_Name (wpAny_loadName_cell I.ok.kind hk hc hcell fin) hd
  ·exact wpAny_Name (wpAny_loadName_free I.ok.kind hk hc hcell fin hcd) hd
theorem ai {i j pos}:PE X (.Constant (.int i) j pos) (tC (.int i)):=fun _ _ _ H _ I h=>wpAny_Constant_int ⟨.int i,H,I.tok _,⟨_,rfl⟩,h⟩
theorem cO {b j pos}:PE X (.Constant (.bool b) j pos) (tC (.bl b)):=fun _ _ _ H _ I h=>Constant_bool ⟨.bl b,H,I,rfl,h⟩
theorem dY {j pos}:PE X (.Constant .none j pos) (tC .non):=fun _ _ _ H _ I h=>Constant_none ⟨.non,H,I,rfl,h⟩
theorem bv {x j pos}:PE X (.Constant (.str x) j pos) (tC (.str x)):=fun _ _ _ H _ I h=>Calls.Constant_str ⟨.str x,H,I.tok _,⟨_,rfl⟩,h⟩
def Gl (X:Cx)(x:Str):Prop:=X.env.kindOf x=some .globalImplicit
theorem fA (I:Inv X pins σ H s)(hg:Gl X x)(hm:X.mg x=some u)(h:Q u s)
  (hd:(x==("__debug__" : Str))=false:=by decide):wpAny (model X.prog X.w) X.A (eval (.Name x pos) X.env) Q E s:=
 Calls.Name_function_global I.ok.kind hg (Calls.loadGlobal_global (by rw[I.ok.glob];exact I.mod.glob.keeps I.bk) hm h) hd
theorem gv (I:Inv X pins σ H s)(hg:Gl X x)(hm:X.mg x=none)(hv:bootBuiltins x=some u)(h:Q u s)
  (hn:x ≠ "__name__":=by decide) (hd:(x==("__debug__" : Str))=false:=by decide):wpAny (model X.prog X.w) X.A (eval (.Name x pos) X.env) Q E s:=by
 obtain⟨mb,h1,h2⟩:=I.mod.blt;exact Calls.Name_function_global I.ok.kind hg (Calls.loadGlobal_builtin (by rw[I.ok.glob];exact I.mod.glob.keeps I.bk) hm (by rw[I.ok.blt];exact h1.keeps I.bk) ((h2 x hn).trans hv) h) hd
theorem fq (hg:Gl X x)(hm:X.mg x=some u)(r:cb v u)(hd:(x==("__debug__" : Str))=false:=by decide):PE X (.Name x pos) (tC v):=
 fun _ _ _ H _ I h=>fA I hg hm ⟨v,H,I,r,h⟩ hd
theorem cF (hg:Gl X x)(hm:X.mg x=none)(hv:bootBuiltins x=some u)(r:cb v u)(hn:x ≠ "__name__":=by decide)(hd:(x==("__debug__" : Str))=false:=by decide):PE X (.Name x pos) (tC v):=
 fun _ _ _ H _ I h=>gv I hg hm hv ⟨v,H,I,r,h⟩ hn hd
variable {a b:Expr}{tb:TE}
def tB (t:TE):TT:=fun σ H Q=>t σ H fun x H1=>∃c,x=.bl c/\Q c H1
theorem bH {t}(h:PE X e t)(he:∀iL,isTrue e X.env iL=(do let v <- iL;standAt e.pos;holding [v] (truthy v)):=by intro _;rfl):PT X e (tB t):=by
 intro pins s σ H Q I hw;refine isTrue_plain (thn (h pins s σ H _ I hw) fun v s1 ⟨x,H1,I1,r1,q1⟩=>?_) (he _);obtain⟨d,rfl,q⟩:=q1;cases r1;exact wpAny_truthy_bool ⟨H1,I1,q⟩
variable {tB':TT}{rest:List Expr}
def zF (t u:TT):TT:=fun σ H Q=>t σ H fun c H1=>if c=true then u σ H1 Q else Q false H1
def tOr (t u:TT):TT:=fun σ H Q=>t σ H fun c H1=>if c=true then Q true H1 else u σ H1 Q
def zA (t:TT):TT:=fun σ H Q=>t σ H fun c H1=>Q (!c) H1
theorem gh (ha:PT X a tA):PW X (.BoolOp .And [a] pos) tA:=by
 intro wh pins s σ H Q I h;refine isTrue_and (thn (ha pins s σ H Q I h) fun c s1 e=>?_);cases c with
 | true=>exact isTrue_and_nil e
 | false=>exact e
theorem dL (ha:PT X a tA):PW X (.BoolOp .Or [a] pos) tA:=by
 intro wh pins s σ H Q I h;refine isTrue_or (thn (ha pins s σ H Q I h) fun c s1 e=>?_);cases c with
 | false=>exact isTrue_or_nil e
 | true=>exact e
theorem iy (ha:PT X a tA)(hb:PW X (.BoolOp .And (b::rest) pos) tB'):PW X (.BoolOp .And (a::b::rest) pos) (zF tA tB'):=by
 intro wh pins s σ H Q I h;refine isTrue_and (thn (ha pins s σ H _ I h) fun c s1 zz=>?_);obtain⟨H1,I1,q1⟩:=zz;cases c with
 | true=>exact hb wh pins s1 σ H1 Q I1 q1
 | false=>exact⟨H1,I1,q1⟩
theorem eF (ha:PT X a tA)(hb:PW X (.BoolOp .Or (b::rest) pos) tB'):PW X (.BoolOp .Or (a::b::rest) pos) (tOr tA tB'):=by
 intro wh pins s σ H Q I h;refine isTrue_or (thn (ha pins s σ H _ I h) fun c s1 zz=>?_);obtain⟨H1,I1,q1⟩:=zz;cases c with
 | true=>exact⟨H1,I1,q1⟩
 | false=>exact hb wh pins s1 σ H1 Q I1 q1
theorem ci (ha:PT X a tA):PT X (.UnaryOp .Not a pos) (zA tA):=by
 intro pins s σ H Q I h;exact isTrue_not (thn (ha pins s σ H (fun c H1=>Q (!c) H1) I h) fun b s1 zz=>by obtain⟨H1,i,q⟩:=zz;exact⟨H1,i,q⟩)
def vC (ta tb:TE):TE:=fun σ H Q=>ta σ H fun x H1=>∃c,x=.bl c/\if c=true then tb σ H1 Q else Q (.bl false) H1
def zy (ta tb:TE):TE:=fun σ H Q=>ta σ H fun x H1=>∃c,x=.bl c/\if c=true then Q (.bl true) H1 else tb σ H1 Q
def vq (ta:TE):TE:=fun σ H Q=>ta σ H fun x H1=>∃c,x=.bl c/\Q (.bl (!c)) H1
theorem cI {op t}(h:PE X a t):PE X (.BoolOp op [a] pos) t:=fun pins s σ H Q I hw=>BoolOp_one (h pins s σ H Q I hw)
theorem dg (ha:PE X a ta)(hb:PE X (.BoolOp .And (b::rest) pos) tb):PE X (.BoolOp .And (a::b::rest) pos) (vC ta tb):=by
 intro pins s σ H Q I h;refine BoolOp_and (thn (ha pins s σ H _ I h) fun v s1 zz=>?_);obtain⟨x,H1,I1,r1,q1⟩:=zz;obtain⟨c,rfl,q1⟩:=q1;cases r1;refine wpAny_truthy_bool ?_;cases c with
 | true=>exact hb pins s1 σ H1 Q I1 q1
 | false=>exact⟨.bl false,H1,I1,rfl,q1⟩
theorem iT (ha:PE X a ta)(hb:PE X (.BoolOp .Or (b::rest) pos) tb):PE X (.BoolOp .Or (a::b::rest) pos) (zy ta tb):=by
 intro pins s σ H Q I h;refine BoolOp_or (thn (ha pins s σ H _ I h) fun v s1 zz=>?_);obtain⟨x,H1,I1,r1,q1⟩:=zz;obtain⟨c,rfl,q1⟩:=q1;cases r1;refine wpAny_truthy_bool ?_;cases c with
 | false=>exact hb pins s1 σ H1 Q I1 q1
 | true=>exact⟨.bl true,H1,I1,rfl,q1⟩
theorem wf (ha:PE X a ta):PE X (.UnaryOp .Not a pos) (vq ta):=by
 intro pins s σ H Q I h;refine UnaryOp_ (thn (ha pins s σ H _ I h) fun v s1 zz=>?_);obtain⟨x,H1,I1,r1,q1⟩:=zz;obtain⟨c,rfl,q1⟩:=q1;cases r1;exact not_of (wpAny_truthy_bool ⟨.bl (!c),H1,I1,rfl,q1⟩)
def tIf (t:TT)(ta tb:TE):TE:=fun σ H Q=>t σ H fun c H1=>if c=true then ta σ H1 Q else tb σ H1 Q
theorem iU {c}(hc:PT X c tA)(ha:PE X a ta)(hb:PE X b tb):PE X (.IfExp c a b pos) (tIf tA ta tb):=by
 intro pins s σ H Q I h;refine wpAny_IfExp (thn (hc pins s σ H _ I h) fun d s1 zz=>?_);obtain⟨H1,I1,q1⟩:=zz;cases d with
 | true=>exact ha pins s1 σ H1 Q I1 q1
 | false=>exact hb pins s1 σ H1 Q I1 q1
end
def SqL (K:Frag)(H:Hp)(a:Addr)(xs:List V):Prop:=
 Rd H a (.lst xs) \/
  Ex3 fun(o:Obj) (its:Array Value) (n:Nat)=>An6 (K.lookup a=some o) (o.cls=.type "list") (o.dict=none) (o.data=.seq its n) (its.size<=sizeLine) (b_ xs its.toList)
def SqT (K:Frag)(H:Hp)(a:Addr)(xs:List V):Prop:=
 Rd H a (.tup xs) \/
  Ex3 fun(o:Obj) (its:Array Value) (n:Nat)=>An5 (K.lookup a=some o) (o.cls=.type "tuple") (o.data=.seq its n) (its.size<=sizeLine) (b_ xs its.toList)
def Ar:Value->Option V
 | .none=>some .non
 | .bool b=>some (.bl b)
 | .int i _=>some (.int i)
 | .str x _=>some (.str x)
 | .bytes b _=>some (.byt b)
 | .float b _=>some (.flt b)
 | .ref a=>some (.ref a)
 | .type n=>some (.ty n)
 | _=>none
theorem cb.abs {x}(r:cb x u):Ar u=some x:=by
 cases x with
 | non=>cases r;rfl
 | bl _=>cases r;rfl
 | int _=>obtain⟨t,rfl⟩:=r;rfl
 | str _=>obtain⟨t,rfl⟩:=r;rfl
 | byt _=>obtain⟨t,rfl⟩:=r;rfl
 | flt _=>obtain⟨t,rfl⟩:=r;rfl
 | ref _=>cases r;rfl
 | ty _=>cases r;rfl
theorem cb.inj {x}(r:cb x u)(q:cb y u):x=y:=aG (r.abs.symm.trans q.abs)
theorem b_.inj:∀{xs ys:List V} {us:List Value},b_ xs us->b_ ys us->xs=ys
 | _,_,_,.nil,.nil=>rfl
 | _,_,_,.cons r t,.cons r' t'=>by rw[r.inj r',b_.inj t t']
section
theorem SqL.of (h:H a=some (.lst xs)):SqL K H a xs:=.inl (.inl h)
theorem SqT.of (h:H a=some (.tup xs)):SqT K H a xs:=.inl (.inl h)
theorem Inv.list (I:Inv X pins σ H s)(h:SqL X.K H a xs):∃its:List Value,An3 (b_ xs its) (PlainL s.heap a its.toArray) (xs.length<=sizeLine):=by
 rcases h with h|⟨o,its,n,hk,hc,hd,hs,hz,r⟩
 ·obtain⟨z,its,n,r,e⟩:=h.ok I.hok;exact⟨its,r,⟨_,n,e,rfl,rfl,rfl⟩,z⟩
 ·refine⟨its.toList,r,⟨o,n,I.kIn a o hk,hc,hd,by simpa using hs⟩,?_⟩;have e:=r.length;simp only[length_toList] at e
  lia
theorem Inv.tuple (I:Inv X pins σ H s)(h:SqT X.K H a xs):∃its:List Value,An3 (b_ xs its) (IsTup s.heap a its.toArray) (xs.length<=sizeLine):=by
 rcases h with h|⟨o,its,n,hk,hc,hs,hz,r⟩
 ·obtain⟨z,its,r,p,_⟩:=h.ok I.hok;exact⟨its,r,p,z⟩
 ·refine⟨its.toList,r,⟨o,I.kIn a o hk,hc,n,by simpa using hs⟩,?_⟩;have e:=r.length;simp only[length_toList] at e
  lia
theorem Inv.list_inj (I:Inv X pins σ H s)(h:SqL X.K H a xs)(h':SqL X.K H a ys):xs=ys:=by
 obtain⟨its,r,⟨o,n,e,_,_,d⟩,_⟩:=I.list h;obtain⟨its',r',⟨o',n',e',_,_,d'⟩,_⟩:=I.list h';rw[e] at e';cases e';rw[d] at d';injection d' with d1 _;have:its=its':=by simpa using bL Array.toList d1
 subst this;exact r.inj r'
theorem Inv.tuple_inj (I:Inv X pins σ H s)(h:SqT X.K H a xs)(h':SqT X.K H a ys):xs=ys:=by
 obtain⟨its,r,⟨o,e,_,n,d⟩,_⟩:=I.tuple h;obtain⟨its',r',⟨o',e',_,n',d'⟩,_⟩:=I.tuple h';rw[e] at e';cases e';rw[d] at d';injection d' with d1 _;have:its=its':=by simpa using bL Array.toList d1
 subst this;exact r.inj r'
end
abbrev Cx.wish (X:Cx)(E:Value->Shared->Prop):Cx:={ X with xe:=E }
abbrev Cx.nox (X:Cx):Cx:=X.wish fun _ _=>False
theorem Cx.Ok.wish (ok:X.Ok)(E:Value->Shared->Prop):(X.wish E).Ok:=
 ⟨ok.mod,ok.kind,ok.glob,ok.blt,ok.above,ok.inj,ok.has,ok.cab,ok.hd,ok.frames,ok.stk,ok.exf,ok.bs,ok.bsz,ok.noex,ok.exfs,ok.funs,ok.frf⟩
theorem Cx.Ok.unwish (ok:(X.wish E).Ok):X.Ok:=
 ⟨ok.mod,ok.kind,ok.glob,ok.blt,ok.above,ok.inj,ok.has,ok.cab,ok.hd,ok.frames,ok.stk,ok.exf,ok.bs,ok.bsz,ok.noex,ok.exfs,ok.funs,ok.frf⟩
section
theorem Inv.wish (I:Inv X pins σ H s)(E:Value->Shared->Prop):Inv (X.wish E) pins σ H s:=⟨I.ok.wish E,I.os,I.bare,I.base,I.loc,I.cell,I.free,I.freeC,I.pin,I.hok,I.len⟩
theorem Inv.unwish (I:Inv (X.wish E) pins σ H s):Inv X pins σ H s:=⟨I.ok.unwish,I.os,I.bare,I.base,I.loc,I.cell,I.free,I.freeC,I.pin,I.hok,I.len⟩
theorem SP.unwish {D:Ends}{f:Flow}(h:SP (X.wish E) pins D f s'):SP X pins D f s':=by
 cases f with
 | next=>obtain⟨σ',H',I,q⟩:=h;exact⟨σ',H',I.unwish,q⟩
 | brk=>obtain⟨σ',H',I,q⟩:=h;exact⟨σ',H',I.unwish,q⟩
 | cont=>obtain⟨σ',H',I,q⟩:=h;exact⟨σ',H',I.unwish,q⟩
 | ret u=>obtain⟨v,σ',H',I,r,q⟩:=h;exact⟨v,σ',H',I.unwish,r,q⟩
theorem PSs.nox {st t}(h:PSs X.nox st t):PSs X st t:=fun pins s σ H D I hw=>
 bn (h pins s σ H D (I.wish _) hw) (fun _ _ q=>q.unwish) fun _ _ z=>False.elim z
end
section
variable {rest:List Stmt}{t u:TS}
def vt:TS:=fun D σ H=>D.nx σ H
def zt (t u:TS):TS:=fun D σ H=>t { D with nx:=u D } σ H
theorem aW:PSs X [] vt:=fun _ _ σ H _ I h=>wpAny_execs_nil ⟨σ,H,I,h⟩
theorem am (h1:PS X st t)(h2:PSs X rest u):PSs X (st::rest) (zt t u):=by
 intro pins s σ H D I h;refine wpAny_execs_cons (thn (h1 pins s σ H { D with nx:=u D } I h) fun f s1 q=>?_);cases f with
 | next=>
  obtain⟨σ',H',I',q⟩:=q;exact h2 pins s1 σ' H' D I' q
 | ret v=>exact q
 | brk=>exact q
 | cont=>exact q
theorem aw (h1:PS X st t):PSs X [st] t:=by
 intro pins s σ H D I h;refine wpAny_execs_cons (thn (h1 pins s σ H D I h) fun f s1 q=>?_);cases f with
 | next=>exact wpAny_execs_nil q
 | ret v=>exact q
 | brk=>exact q
 | cont=>exact q
theorem Inv.quiet (I:Inv X pins σ H s):interactive X.env=false:=by simp[interactive,I.ok.kind]
def vw (te:TE):TS:=fun D σ H=>te σ H fun _ H1=>D.nx σ H1
theorem cE (he:PE X e te)(hs:swapsWith e none pos.line X.env=pure false:=by rfl):PS X (.Expr e pos) (vw te):=by
 intro pins s σ H D I h;exact wpAny_Expr_any (thn (he pins s σ H _ I h) fun v s1 zz=>by obtain⟨x,H1,I1,r1,q1⟩:=zz;exact⟨σ,H1,I1,q1⟩) I.quiet hs
def zw (te:TE):TS:=fun D σ H=>te σ H D.rt
theorem aL (he:PE X e te):PS X (.Return (some e) pos) (zw te):=by
 intro pins s σ H D I h;exact wpAny_Return_some (thn (he pins s σ H _ I h) fun v s1 zz=>by obtain⟨x,H1,I1,r1,q1⟩:=zz;exact⟨x,σ,H1,I1,r1,q1⟩)
def zC (c:TT)(t u:TS):TS:=fun D σ H=>c σ H fun b H1=>if b=true then t D σ H1 else u D σ H1
theorem bF {c a b}(hc:PT X c tc)(ha:PSs X a t)(hb:PSs X b u):PS X (.If c a b pos) (zC tc t u):=by
 intro pins s σ H D I h;refine wpAny_If (thn (hc pins s σ H _ I h) fun d s1 zz=>?_);obtain⟨H1,I1,q1⟩:=zz;cases d with
 | true=>exact ha pins s1 σ H1 D I1 q1
 | false=>exact hb pins s1 σ H1 D I1 q1
def sC:TS:=fun _ _ _=>False
theorem qS:PS X st sC:=fun _ _ _ _ _ _ h=>h.elim
theorem gM {sts}:PSs X sts sC:=fun _ _ _ _ _ _ h=>h.elim
end
abbrev TG:=V->St->Hp->(St->Hp->Prop)->Prop
abbrev TGs:=List V->St->Hp->(St->Hp->Prop)->Prop
def PG (X:Cx)(target:Expr)(t:TG):Prop:=
 ∀(pins:List (Addr×Obj)) (s:Shared) (σ:St) (H:Hp) (v:V) (u:Value) (Q:St->Hp->Prop),Inv X pins σ H s->cb v u->t v σ H Q ->
  wpAny (model X.prog X.w) X.A (assign target X.env u) (fun _ s'=>Ex2 fun σ' H'=>Inv X pins σ' H' s'/\Q σ' H') X.xe s
def PGs (X:Cx)(ts:List Expr)(t:TGs):Prop:=
 ∀(pins:List (Addr×Obj)) (s:Shared) (σ:St) (H:Hp) (vs:List V) (us:List Value) (Q:St->Hp->Prop),Inv X pins σ H s->b_ vs us->t vs σ H Q ->
  wpAny (model X.prog X.w) X.A (assignInOrder ((assignEach ts X.env).map (·.2)) us) (fun _ s'=>Ex2 fun σ' H'=>Inv X pins σ' H' s'/\Q σ' H') X.xe s
abbrev xX:=V->V->V->Hp->(Hp->Prop)->Prop
def zQ (X:Cx)(t:xX):Prop:=
 ∀(pins:List (Addr×Obj)) (s:Shared) (σ:St) (H:Hp) (o i v:V) (ov iv u:Value) (Q:Hp->Prop),Inv X pins σ H s->cb o ov->cb i iv->cb v u->t o i v H Q ->
  wpAny (model X.prog X.w) X.A (setItem ov iv u) (fun _ s'=>∃H',Inv X pins σ H' s'/\Q H') X.xe s
section
def c_ (i:Nat):TG:=fun v σ H Q=>Q (σ.set i (some v)) H
theorem dC (hN:X.N.Nodup)(hi:X.N[i]?=some x)(hx:Loc X.env.scope x)(hf:X.fn x=true\/X.env.scope.names.lookup x=some .local:=by first|exact .inl rfl|exact .inr rfl|assumption):PG X (.Name x pos) (c_ i):=by
 intro pins s σ H v u Q I r h;exact wpAny_assign_Name (fN I hN hi hx r (fun s' I'=>⟨_,H,I',h⟩) hf)
def ve:TGs:=fun vs σ H Q=>vs=[]/\Q σ H
def fF (t:TG)(u:TGs):TGs:=fun vs σ H Q=>Ex2 fun v r=>vs=v::r/\t v σ H fun σ' H'=>u r σ' H' Q
theorem dB:PGs X [] ve:=by
 intro pins s σ H vs us Q I r h;obtain⟨e,h⟩:=h;subst e;cases r;exact assignInOrder_nil ⟨σ,H,I,h⟩
theorem bq {t}{u:TGs}(h1:PG X e t)(h2:PGs X es u)
  (hs:(assignEach (e::es) X.env).map (·.2)=assign e X.env::(assignEach es X.env).map (·.2):=by rfl):PGs X (e::es) (fF t u):=by
 intro pins s σ H vs us Q I r h;obtain⟨v,vr,e1,h⟩:=h;subst e1;cases r with
 | cons r rr=>
  rw[hs];refine assignInOrder_cons (thn (h1 pins s σ H _ _ _ I r h) fun _ s1 zz=>?_);obtain⟨σ1,H1,I1,q1⟩:=zz;exact h2 pins s1 σ1 H1 _ _ Q I1 rr q1
def vd (K:Frag)(n:Nat)(t:TGs):TG:=fun v σ H Q=>Ex2 fun a xs=>An4 (v=.ref a) (SqT K H a xs) (xs.length=n) (t xs σ H Q)
theorem fh {k:Nat}{t:TGs}(hc:X.calm=true)(h:PGs X es t)
  (hn:(assignEach es X.env).length=n:=by rfl) (hst:(assignEach es X.env).findIdx? (·.1)=none:=by rfl):PG X (.Tuple es k pos) (vd X.K n t):=by
 intro pins s σ H v u Q I r hw;obtain⟨a,xs,e1,hq,hl,hw⟩:=hw;subst e1;cases r;obtain⟨its,rv,ht,hz⟩:=I.tuple hq;refine assign_Tuple_tuple (I.ok.hd hc) ht (by simp[hn,<- hl,rv.length]) hst fun h' hx=>?_;have I1:Inv X pins σ H { s with heap:=h' }:=I.kept (t':=s.toks) fun b o e=>hx b o (av (aS e)) e;exact h pins _ σ H xs _ Q I1 (by simpa using rv) hw
def zP (to ti:TE)(t:xX):TG:=fun v σ H Q=>to σ H fun o H1=>ti σ H1 fun i H2=>t o i v H2 fun H3=>Q σ H3
theorem sS {o i to ti}{t:xX}(ho:PE X o to)(hi:PE X i ti)(hs:zQ X t)
  (ha:∀v,assign (.Subscript o i pos) X.env v=(do
   let ov <- holding [v] (eval o X.env)
   let iv <- holding [v,ov] (eval i X.env)
   standAt pos
   holding [v,ov,iv] (setItem ov iv v)
   release [v,ov,iv] []):=by intro _;rfl):PG X (.Subscript o i pos) (zP to ti t):=by
 intro pins s σ H v u Q I r h;rw[ha];refine aa (bj (thn (ho pins s σ H _ I h) fun ov s1 zz=>?_));obtain⟨x,H1,I1,r1,q1⟩:=zz;refine aa (bj (thn (hi pins s1 σ H1 _ I1 q1) fun iv s2 zz=>?_));obtain⟨y,H2,I2,r2,q2⟩:=zz;refine aa (wpAny_standAt (aa (bj (thn (hs pins s2 σ H2 x y v ov iv u _ I2 r1 r2 r q2) fun _ s3 zz=>?_))))
 obtain⟨H3,I3,q3⟩:=zz;exact wpAny_release ⟨σ,H3,I3,q3⟩
def qI (te:TE)(g:TG):TS:=fun D σ H=>te σ H fun x H1=>g x σ H1 D.nx
theorem gp {g}(he:PE X e te)(hg:PG X tg g)(hs:swapsWithSole [tg] e pos.line X.env=pure false:=by rfl)(hw:swappedStores [tg] e X.env=pure none:=by rfl)
  (h1:(assignEach [tg] X.env).map (·.2)=[assign tg X.env]:=by rfl):PS X (.Assign [tg] e pos) (qI te g):=by
 intro pins s σ H D I h;refine wpAny_Assign_stores (thn (he pins s σ H _ I h) fun v s1 ⟨x,H1,I1,r1,q1⟩=>?_) hs hw;rw[h1];exact thn (hg pins s1 σ H1 x v _ I1 r1 q1) fun _ s2 q=>q
theorem iz (hN:X.N.Nodup)(hi:X.N[i]?=some x)(hx:Loc X.env.scope x)(he:PE X e te)(hs:swapsWith e (some (.Name x pos')) pos.line X.env=pure false:=by rfl)(hf:X.fn x=true\/X.env.scope.names.lookup x=some .local:=by first|exact .inl rfl|exact .inr rfl|assumption) :
  PS X (.Assign [.Name x pos'] e pos) (qI te (c_ i)):=by
 intro pins s σ H D I h;refine wpAny_Assign_Name (thn (he pins s σ H _ I h) fun v s1 ⟨y,H1,I1,r1,q1⟩=>?_) hs;exact fN I1 hN hi hx r1 (fun s2 I2=>⟨_,H1,I2,q1⟩) hf
def zx (i j:Nat)(ta:TA):TS:=fun D σ H=>ta σ H fun vs H1=>Ex2 fun v w=>vs=[v,w]/\D.nx ((σ.set i (some v)).set j (some w)) H1
theorem sQ {y a b ta pt}{kt k2 pt2}(hc:X.calm=true)(hN:X.N.Nodup)(hi:X.N[i]?=some x)(hj:X.N[j]?=some y)(hij:i≠j)
  (hx:X.env.scope.names.lookup x=some .local) (hy:X.env.scope.names.lookup y=some .local) (ha:PA X [a,b] ta)
  (hw:swappedStores [.Tuple [.Name x px,.Name y py] kt pt] (.Tuple [a,b] k2 pt2) X.env=pure (some [x,y]))
  (hs:swapsWithSole [.Tuple [.Name x px,.Name y py] kt pt] (.Tuple [a,b] k2 pt2) pos.line X.env=pure false:=by rfl) :
  PS X (.Assign [.Tuple [.Name x px,.Name y py] kt pt] (.Tuple [a,b] k2 pt2) pos) (zx i j ta):=by
 intro pins s σ H D I h;rw[exec_Assign_arm];refine aa (wpAny_standAt ?_);rw[hs];refine aa (ae ?_);rw[ah (by decide)];refine aa (Tuple_ (thn (ha _ pins s σ H _ I h) fun us s1 zz=>?_));obtain⟨vs,H1,I1,r1,q1⟩:=zz;obtain⟨v,w,e1,q1⟩:=q1;subst e1
 obtain⟨u1,u2,rfl,rv,rw'⟩:Ex2 fun u1 u2=>An3 (us=[u1,u2]) (cb v u1) (cb w u2):=by
  cases r1 with
  | cons p q=>
   cases q with
   | cons p' q'=>
    cases q';exact⟨_,_,rfl,p,p'⟩
 refine wpAny_newObj_type ?_ (by show 2<=sizeLine;decide);have I2:Inv X pins σ H1 { s1 with heap:=s1.heap.push { cls:=.type "tuple",data:=.seq [u1,u2].toArray } }:=I1.kept (t':=s1.toks) fun b o e=>af _ e;rw[hw];refine aa (ae ?_)
 show wpAny (model X.prog X.w) X.A (do rule "assign.swapped-stores";let items <- unpackItems (.ref s1.heap.objs.size) 2 none;assignInOrder [fun v=>bindName X.env y v,fun v=>bindName X.env x v] items.reverse;pure Flow.next) _ _ _;refine aa (wpAny_rule (aa (unpackItems_tuple (items:=#[u1,u2]) (I.ok.hd hc) (IsTup.new s1.heap _) fun h' hx'=>?_)))
 have I3:=I2.kept (h':=h') (t':=s1.toks) fun b o e=>hx' b o (av (aS e)) e;show wpAny _ _ (assignInOrder [fun v=>bindName X.env y v,fun v=>bindName X.env x v] [u2,u1] >>= fun _=>pure Flow.next) _ _ _;refine aa (assignInOrder_cons (wpAny_bindName (fN I3 hN hj (.inl hy) rw' (fun s2 I4=>?_) (.inr hy))))
 refine assignInOrder_cons (wpAny_bindName (fN I4 hN hi (.inl hx) rv (fun s3 I5=>assignInOrder_nil (ae ?_)) (.inr hx)));rw[List.set_comm _ _ (dG hij)] at I5;exact⟨_,H1,I5,q1⟩
end
section
end
structure It where
 go:Nat->Hp->Prop
 yld:Nat->Hp->V->Hp->Prop
 stop:Nat->Hp->Prop
variable {J:L2.It}
def kc (X:Cx)(pins:List (Addr×Obj))(H:Hp)(b:Addr):Prop:=
 H b=none/\b≠X.env.locals/\b∉X.fs/\(b∈X.ex\/X.s₀.heap.objs.size<=b)/\(∀x c,X.env.cells.lookup x=some c->c≠b)/\∀p∈X.pn++pins,p.1≠b
theorem Inv.fpOk (I:Inv X pins σ H s)(hb:s.heap.objs.size<=b)(hn:H' b=none):kc X pins H' b:=by
 refine⟨hn,ne_of_gt (aH I.lt hb),I.nofs hb,.inr (Nat.le_trans I.sz hb),fun x c e z=>?_,fun p hp z=>?_⟩
 ·obtain⟨v,q⟩:=I.cell x c e;exact aY (aH q.lt (by rw[z];exact hb)) (Nat.lt_irrefl _)
 ·exact aY (aH (aS (I.pin p hp).1) (by rw[z];exact hb)) (Nat.lt_irrefl _)
structure Turn (P:Program)(w:World)(K:Frag)(tg:Expr)(J:It)(fp:List Addr)(it:Addr)(tn:Nat->Heap->Prop):Prop where
 mem:it∈fp
 obj:∀i h,tn i h->∀b∈fp,∃o,h.get? b=some o/\∀v,o.data≠.cell v
 keep:∀i h h',tn i h->(∀b∈fp,∀o,h.get? b=some o->h'.get? b=some o)->tn i h'
 item:∀(X:Cx),X.prog=P->X.w=w->X.K=K->X.calm=true->∀(i:Nat) (pins:List (Addr×Obj)) (s:Shared) (σ:St) (H:Hp) (E:Value->Shared->Prop),Inv X pins σ H s->(∀b∈fp,kc X pins H b)->tn i s.heap->J.go i H ->
  wpAny (model P w) X.A (pyNext (.ref it)) (fun r s1=>∃u,r=some u/\wpAny (model P w) X.A (letOwnedTupleGo tg (.ref it) u) (fun _ s2=>Ex2 fun x H'=>An5 (Inv X pins σ H' s2) (cb x u) (J.yld i H x H') (tn (i+1) s2.heap) (∀b∈fp,H' b=none)) E s1) E s
 done:∀(X:Cx),X.prog=P->X.w=w->X.K=K->X.calm=true->∀(i:Nat) (pins:List (Addr×Obj)) (s:Shared) (σ:St) (H:Hp) (E:Value->Shared->Prop),Inv X pins σ H s->(∀b∈fp,kc X pins H b)->tn i s.heap->J.stop i H ->
  wpAny (model P w) X.A (pyNext (.ref it)) (fun r s1=>r=none/\Inv X pins σ H s1) E s
 self:∀(A:Around) (i:Nat) (s:Shared) (Q:Value->Shared->Prop) (E:Value->Shared->Prop),tn i s.heap->Q (.ref it) s->wpAny (model P w) A (pyIter (.ref it)) Q E s
abbrev TI:=St->Hp->(It->Hp->Prop)->Prop
variable {wi wi2:L2.TI}
def PIE (X:Cx)(pins:List (Addr×Obj))(σ:St)(tg:Expr)(R:It->Hp->Prop)(itv:Value)(s2:Shared):Prop:=
 Ex5 fun(it:Addr) (fp:List Addr) (tn:Nat->Heap->Prop) (J:It) (H':Hp)=>An6 (itv=.ref it) (Inv X pins σ H' s2) (Turn X.prog X.w X.K tg J fp it tn) (tn 0 s2.heap) (∀b∈fp,kc X pins H' b) (R J H')
def PI (X:Cx)(tg iter:Expr)(wi:TI):Prop:=
 ∀(pins:List (Addr×Obj)) (s:Shared) (σ:St) (H:Hp) (R:It->Hp->Prop),Inv X pins σ H s->wi σ H R ->
  wpAny (model X.prog X.w) X.A (eval iter X.env) (fun v s1=>wpAny (model X.prog X.w) X.A (pyIter v) (PIE X pins σ tg R) X.xe s1) X.xe s
theorem uT {o:Obj}{n vs}{Q:Unit->Shared->Prop}(ho:s.heap.get? it=some o)(hc:o.cls=.type n)(hd:o.data=.fields vs)
    (hn:["enumerate","zip","dict_itemiterator","dict_reverseitemiterator","odict_iterator","itertools.zip_longest","itertools.pairwise"].contains n=false) (hQ:Q () s):wpAny M A (letOwnedTupleGo tg (.ref it) u) Q E s:=by
  unfold letOwnedTupleGo
  cases tg<;>first
    | exact ae hQ
    | (cases u<;>first
        | exact ae hQ
        | (refine aa (wpAny_load ho ?_)
           rw[hc,hd];show wpAny M A (if (["enumerate","zip","dict_itemiterator","dict_reverseitemiterator","odict_iterator","itertools.zip_longest","itertools.pairwise"].contains n&&vs[0]?==some (rawInt _))=true then _ else _) Q E s;rw[ah (by intro h;rw[hn,Bool.false_and] at h;cases h)]
           exact ae hQ))
def Itl (K:Frag)(a:Addr):It:=
 ⟨fun i H=>Ex2 fun xs x=>SqL K H a xs/\xs[i]?=some x,fun i H x H'=>H'=H/\∀xs,SqL K H a xs->xs[i]?=some x,fun i H=>∃xs,SqL K H a xs/\xs.length<=i⟩
def Itt (K:Frag)(a:Addr):It:=
 ⟨fun i H=>Ex2 fun xs x=>SqT K H a xs/\xs[i]?=some x,fun i H x H'=>H'=H/\∀xs,SqT K H a xs->xs[i]?=some x,fun i H=>∃xs,SqT K H a xs/\xs.length<=i⟩
def Itr (lo:Int)(n:Nat):It:=⟨fun i _=>i<n,fun i H x H'=>H'=H/\x=.int (lo+i),fun i _=>n<=i⟩
theorem nR (a it:Addr):Turn P w K tg (Itl K a) [it] it (fun i h=>h.IsListIter it a i) where
 mem:=by simp
 obj:=fun i h st b hb=>by
  have e:b=it:=by simpa using hb
  subst e;obtain⟨o,e,c,d⟩:=st;exact⟨o,e,fun v z=>by rw[d] at z;cases z⟩
 keep:=fun i h h' st k=>st.at fun o e=>k it (by simp) o e
 item:=by
  intro X hP hw hK hc i pins s σ H E I hf st hg;subst hP hw hK;obtain⟨xs,x,hq,hx⟩:=hg;obtain⟨its,rv,p,hz⟩:=I.list hq;obtain⟨u,hu,ru⟩:=rv.get hx;obtain⟨f0,f1,f2,f3,f4,f5⟩:=hf it (by simp);refine wpAny_pyNext_list_item st p.isList (x:=u) (by simpa using hu) fun h' st' sb=>?_;have I1:Inv X pins σ H { s with heap:=h' }:=I.turned (t':=s.toks) (fun b o hb e=>(sb.2 b hb).trans e) f0 f1 f3 f4 f5
  obtain⟨o,e,c,d⟩:=id st';exact⟨u,rfl,uT (s:={ s with heap:=h' }) e c d (by decide) ⟨x,H,I1,ru,⟨rfl,fun ys hy=>by rw[I.list_inj hy hq];exact hx⟩,st',fun b hb=>(hf b hb).1⟩⟩
 done:=by
  intro X hP hw hK hc i pins s σ H E I hf st hg;subst hP hw hK;obtain⟨xs,hq,hx⟩:=hg;obtain⟨its,rv,p,hz⟩:=I.list hq;obtain⟨f0,f1,f2,f3,f4,f5⟩:=hf it (by simp);have hl:=rv.length;exact wpAny_pyNext_list_end (I.ok.hd hc) st p.isList (by simp;lia) fun h' eb=>⟨rfl,I.turned (t':=s.toks) (fun b o hb e=>eb b o hb e) f0 f1 f3 f4 f5⟩
 self:=fun _ _ _ _ _ st h=>wpAny_pyIter_listiter st h
theorem mM (a it:Addr):Turn P w K tg (Itt K a) [it] it (fun i h=>h.IsTupleIter it a i) where
 mem:=by simp
 obj:=fun i h st b hb=>by
  have e:b=it:=by simpa using hb
  subst e;obtain⟨o,e,c,d⟩:=st;exact⟨o,e,fun v z=>by rw[d] at z;cases z⟩
 keep:=fun i h h' st k=>st.at fun o e=>k it (by simp) o e
 item:=by
  intro X hP hw hK hc i pins s σ H E I hf st hg;subst hP hw hK;obtain⟨xs,x,hq,hx⟩:=hg;obtain⟨its,rv,p,hz⟩:=I.tuple hq;obtain⟨u,hu,ru⟩:=rv.get hx;obtain⟨f0,f1,f2,f3,f4,f5⟩:=hf it (by simp);refine wpAny_pyNext_tuple_item st (show s.heap.IsTuple a its.toArray from p) (x:=u) (by simpa using hu) fun h' st' sb=>?_
  have I1:Inv X pins σ H { s with heap:=h' }:=I.turned (t':=s.toks) (fun b o hb e=>(sb.2 b hb).trans e) f0 f1 f3 f4 f5;obtain⟨o,e,c,d⟩:=id st';exact⟨u,rfl,uT (s:={ s with heap:=h' }) e c d (by decide) ⟨x,H,I1,ru,⟨rfl,fun ys hy=>by rw[I.tuple_inj hy hq];exact hx⟩,st',fun b hb=>(hf b hb).1⟩⟩
 done:=by
  intro X hP hw hK hc i pins s σ H E I hf st hg;subst hP hw hK;obtain⟨xs,hq,hx⟩:=hg;obtain⟨its,rv,p,hz⟩:=I.tuple hq;obtain⟨f0,f1,f2,f3,f4,f5⟩:=hf it (by simp);have hl:=rv.length;exact wpAny_pyNext_tuple_end (I.ok.hd hc) st (show s.heap.IsTuple a its.toArray from p) (by simp;lia) fun h' eb=>⟨rfl,I.turned (t':=s.toks) (fun b o hb e=>eb b o hb e) f0 f1 f3 f4 f5⟩
 self:=fun _ _ _ _ _ st h=>wpAny_pyIter_tupleiter st h
theorem mN (it:Addr)(lo:Int)(n:Nat):Turn P w K tg (Itr lo n) [it] it (fun i h=>IsRangeIter h it (lo+(i:Nat) * 1) ((n:Int) - (i:Nat)) 1) where
 mem:=by simp
 obj:=fun i h st b hb=>by
  have e:b=it:=by simpa using hb
  subst e
  exact⟨_,st,fun v z=>by
   have z':Data.fields _=Data.cell v:=z
   cases z'⟩
 keep:=fun i h h' st k=>k it (by simp) _ st
 item:=by
  intro X hP hw hK hc i pins s σ H E I hf st hg;subst hP hw hK;obtain⟨f0,f1,f2,f3,f4,f5⟩:=hf it (by simp);have W:=Walks.range (prog:=X.prog) (w:=X.w) (I.ok.hd hc) it lo 1 n;refine W.item i s _ _ hg st fun v h' tk hv st' kk=>?_;obtain⟨t,rfl⟩:=hv;have I1:Inv X pins σ H { s with heap:=h',toks:=tk }:=I.turned (fun b o hb e=>kk b o (by simpa using hb) e) f0 f1 f3 f4 f5
  refine⟨_,rfl,uT (s:={ s with heap:=h',toks:=tk }) (n:="range_iterator") st' rfl rfl (by decide) ⟨.int (lo+i),H,I1,⟨t,?_⟩,⟨rfl,rfl⟩,st',fun b hb=>(hf b hb).1⟩⟩;rw[Int.mul_one]
 done:=by
  intro X hP hw hK hc i pins s σ H E I hf st hg;subst hP hw hK;obtain⟨f0,f1,f2,f3,f4,f5⟩:=hf it (by simp);exact wpAny_pyNext_range_end (I.ok.hd hc) st (by have:n<=i:=hg;lia) fun h' eb=>⟨rfl,I.turned (t':=s.toks) (fun b o hb e=>eb b o hb e) f0 f1 f3 f4 f5⟩
 self:=fun _ _ _ _ _ st h=>wpAny_pyIter_rangeiter st h
section
def uS (K:Frag)(tl:TE):TI:=fun σ H R=>tl σ H fun x H1=>∃a,An3 (x=.ref a) (∃xs,SqL K H1 a xs) (R (Itl K a) H1)
def Ap (K:Frag)(tl:TE):TI:=fun σ H R=>tl σ H fun x H1=>∃a,An3 (x=.ref a) (∃xs,SqT K H1 a xs) (R (Itt K a) H1)
theorem cZ {l}(hl:PE X l tl):PI X tg l (uS X.K tl):=by
 intro pins s σ H R I h;refine thn (hl pins s σ H _ I h) fun v s1 zz=>?_;obtain⟨x,H1,I1,r1,q1⟩:=zz;obtain⟨a,e,⟨xs,hq⟩,q⟩:=q1;subst e;cases r1;obtain⟨its,rv,p,hz⟩:=I1.list hq;refine wpAny_pyIter_list p.isList ?_;refine⟨s1.heap.objs.size,[s1.heap.objs.size],_,_,H1,rfl,I1.kept (t':=s1.toks) fun b o e=>af _ e,nR a _,⟨_,aI _ rfl,rfl,rfl⟩,fun b hb=>?_,q⟩
 have e:b=s1.heap.objs.size:=by simpa using hb
 subst e;exact I1.fpOk (aD _) (I1.hok.fresh (aD _))
theorem wc {l}(hl:PE X l tl):PI X tg l (Ap X.K tl):=by
 intro pins s σ H R I h;refine thn (hl pins s σ H _ I h) fun v s1 zz=>?_;obtain⟨x,H1,I1,r1,q1⟩:=zz;obtain⟨a,e,⟨xs,hq⟩,q⟩:=q1;subst e;cases r1;obtain⟨its,rv,p,hz⟩:=I1.tuple hq;refine wpAny_pyIter_tuple (show s1.heap.IsTuple a its.toArray from p) ?_
 refine⟨s1.heap.objs.size,[s1.heap.objs.size],_,_,H1,rfl,I1.kept (t':=s1.toks) fun b o e=>af _ e,mM a _,⟨_,aI _ rfl,rfl,rfl⟩,fun b hb=>?_,q⟩;have e:b=s1.heap.objs.size:=by simpa using hb
 subst e;exact I1.fpOk (aD _) (I1.hok.fresh (aD _))
theorem lQ {R:It->Hp->Prop}{lo hi:Int}{t u v:Tok}{tk:Nat}(I:Inv X pins σ H s)(h1:-(2 ^ 62)<=lo)(h2:lo<2 ^ 62)(h3:-(2 ^ 62)<=hi)(h4:hi<2 ^ 62)
  (q:R (Itr lo (hi - lo).toNat) H):wpAny (model X.prog X.w) X.A (pyIter (.ref s.heap.objs.size)) (PIE X pins σ tg R) E { s with heap:=s.heap.push { cls:=.type "range",data:=.fields #[.int lo t,.int hi u,.int 1 v] },toks:=tk }:=by
 refine wpAny_pyIter_range (IsRange.new ..) (small_one h1 h2 h3 h4) ?_;have I1:Inv X pins σ H { s with heap:=s.heap.push { cls:=.type "range",data:=.fields #[.int lo t,.int hi u,.int 1 v] },toks:=tk }:=I.kept fun b o e=>af _ e
 refine⟨(s.heap.push { cls:=.type "range",data:=.fields #[.int lo t,.int hi u,.int 1 v] }).objs.size,[(s.heap.push { cls:=.type "range",data:=.fields #[.int lo t,.int hi u,.int 1 v] }).objs.size],_,_,H,rfl,
  I1.kept (t':=tk) fun b o e=>af _ e,mN _ lo (hi - lo).toNat,?_,fun b hb=>?_,q⟩
 ·have e1:lo+((0:Nat):Int) * 1=lo:=by simp
  have e2:(((hi - lo).toNat:Nat):Int) - ((0:Nat):Int)=Builtin.Range.rangeSize lo hi 1:=by rw[rangeSize_one];split<;>lia
  show IsRangeIter _ _ (lo+((0:Nat):Int) * 1) ((((hi - lo).toNat:Nat):Int) - ((0:Nat):Int)) 1;rw[e1,e2];exact aI _ rfl
 ·have e:b=(s.heap.push { cls:=.type "range",data:=.fields #[.int lo t,.int hi u,.int 1 v] }).objs.size:=by simpa using hb
  subst e;exact I1.fpOk (aD _) (I1.hok.fresh (aD _))
def wZ (ta:TA):TI:=fun σ H R=>ta σ H fun vs H1=>∃j:Int,An4 (vs=[.int j]) (-(2 ^ 62)<=j) (j<2 ^ 62) (R (Itr 0 j.toNat) H1)
def wY (ta:TA):TI:=fun σ H R=>ta σ H fun vs H1=>Ex2 fun(i j:Int)=>An3 (vs=[.int i,.int j]) (An4 (-(2 ^ 62)<=i) (i<2 ^ 62) (-(2 ^ 62)<=j) (j<2 ^ 62)) (R (Itr i (j - i).toNat) H1)
theorem jF {a ta}(hg:Gl X "range")(hm:X.mg "range" = none)(ha:PA X [a] ta)(hs:starEach [a] X.env=[(false,eval a X.env)]:=by rfl):PI X tg (.Call (.Name "range" p) [a] [] pos) (wZ ta):=by
 intro pins s σ H R I h;refine Call_ (gv I hg hm boot_range (PyProof.Rows.callWith_type1 (thn (ha pos pins s σ H _ I h) fun us s1 ⟨vs,H1,I1,r1,q1⟩=>?_) hs rfl));obtain⟨j,e,q1,q2,q⟩:=q1;subst e;cases r1 with
 | cons r rr=>
  cases rr;obtain⟨t,rfl⟩:=r;exact call_range_1 (lQ I1 (by lia) (by lia) q1 q2 (by simpa using q))
theorem oM {a b ta}(hg:Gl X "range")(hm:X.mg "range" = none)(ha:PA X [a,b] ta)(hs:starEach [a,b] X.env=[(false,eval a X.env),(false,eval b X.env)]:=by rfl)(hs2:starEach [b] X.env=[(false,eval b X.env)]:=by rfl) :
  PI X tg (.Call (.Name "range" p) [a,b] [] pos) (wY ta):=by
 intro pins s σ H R I h;refine Call_ (gv I hg hm boot_range (PyProof.Rows.callWith_type1 (thn (ha pos pins s σ H _ I h) fun us s1 ⟨vs,H1,I1,r1,q1⟩=>?_) (by rw[hs,hs2]) (by rw[hs2];rfl)));obtain⟨i,j,e,⟨q1,q2,q3,q4⟩,q⟩:=q1;subst e;cases r1 with
 | cons r rr=>
  cases rr with
  | cons r' rr=>
   cases rr;obtain⟨t,rfl⟩:=r;obtain⟨t',rfl⟩:=r';exact call_range_2 (lQ I1 q1 q2 q3 q4 q)
def xO (wi:TI)(g:TG)(tb:TS):TS:=fun D σ H=>wi σ H fun J H1=>∃W:Nat->Nat->St->Hp->Prop,(∃m,W 0 m σ H1)/\∀i m σ H,W i m σ H ->
 (J.stop i H/\D.nx σ H)\/(J.go i H/\∃N:St->Hp->Prop,(∀σ' H',N σ' H'->∃m',m'<m/\W (i+1) m' σ' H')/\∀x H',J.yld i H x H'->g x σ H' fun σ2 H2=>tb { D with nx:=N,ct:=N,bk:=D.nx } σ2 H2)
def iA (fp:List Addr)(h:Heap):List (Addr×Obj):=fp.filterMap fun b=>(h.get? b).map fun o=>(b,o)
theorem dw {o}(hb:b∈fp)(e:h.get? b=some o):(b,o)∈iA fp h:=mem_filterMap.mpr ⟨b,hb,by rw[e];rfl⟩
theorem pk {p:Addr×Obj}(hp:p∈iA fp h):p.1∈fp/\h.get? p.1=some p.2:=by
 obtain⟨b,hb,e⟩:=mem_filterMap.mp hp;cases q:h.get? b with
 | none=>rw[q] at e;cases e
 | some o=>
  rw[q] at e;have e':(b,o)=p:=aG e;subst e';exact⟨hb,q⟩
theorem Inv.pinned (I:Inv X pins σ H s)(hf:∀b∈fp,kc X pins H b)(ho:∀b∈fp,∃o,s.heap.get? b=some o/\∀v,o.data≠.cell v):Inv X (pins++iA fp s.heap) σ H s:=
 I.pins_of fun p hp=>(ba.mp hp).elim (fun z=>I.pin p (bh _ z)) fun z=>by
  obtain⟨hb,e⟩:=pk z;obtain⟨f0,f1,f2,_⟩:=hf p.1 hb;obtain⟨o,e',d⟩:=ho p.1 hb;rw[e] at e';cases e';exact⟨e,f0,f1,f2,d⟩
theorem Inv.unpinned {pl}(I:Inv X (pins++pl) σ H s):Inv X pins σ H s:=I.pins_of fun p hp=>I.pin p (bh _ (dE _ hp))
theorem gn {g}(hp:PassesOwn (model X.prog X.w) X.A X.env X.xe)(hc:X.calm=true)(hi:PI X tg iter wi)(hg:PG X tg g)(hb:PSs X body tb)
  (hs:∀x,foldedSetIterable iter X.env x=pure x:=by intro _;rfl):PS X (.For tg iter body [] pos) (xO wi g tb):=by
 intro pins s σ H D I h;refine wpAny_For (thn (hi pins s σ H _ I h) fun v s1 h1=>thn h1 fun itv s2 h2=>?_) hs;obtain⟨it,fp,tn,J,H2,e,I2,T,st2,f2,W,⟨m0,w0⟩,turn⟩:=h2;subst e
 -- what stays true of the iterator's objects through the loop
 have stat:∀{H':Hp},(∀b∈fp,H' b=none)->∀b∈fp,kc X pins H' b:=fun hn b hb=>⟨hn b hb,(f2 b hb).2⟩;refine codeAny_forLoop_any (fun n s'=>Ex3 fun i σ' H'=>An4 (Inv X pins σ' H' s') (tn i s'.heap) (∀b∈fp,H' b=none) (W i n σ' H')) ?_ m0 ⟨0,σ,H2,I2,st2,fun b hb=>(f2 b hb).1,w0⟩;rintro n s3 ⟨i,σ3,H3,I3,st3,fr3,w3⟩;rcases turn i n σ3 H3 w3 with⟨stop,qn⟩|⟨go,N,hN,step⟩
 ·refine wpAny_passesOwn hp (thn (T.done X rfl rfl rfl hc i pins s3 σ3 H3 X.xe I3 (stat fr3) st3 stop) fun r s4 zz=>?_);obtain⟨hr,I4⟩:=zz;subst hr;exact wpAny_execs_nil ⟨σ3,H3,I4,qn⟩
 ·refine wpAny_passesOwn hp (thn (T.item X rfl rfl rfl hc i pins s3 σ3 H3 X.xe I3 (stat fr3) st3 go) fun r s4 zz=>?_);obtain⟨u,hr,h4⟩:=zz;subst hr;refine wpAny_passesOwn hp (thn h4 fun _ s5 zz=>?_);obtain⟨x,H5,I5,r5,y5,st5,fr5⟩:=zz;have I5':=I5.pinned (stat fr5) (T.obj _ _ st5);refine wpAny_passesOwn hp (thn (hg _ s5 σ3 H5 x u _ I5' r5 (step x H5 y5)) fun _ s6 zz=>?_);obtain⟨σ6,H6,I6,q6⟩:=zz
  refine wpAny_passesOwn hp (thn (hb _ s6 σ6 H6 _ I6 q6) fun f s7 q7=>?_)
  have again:∀{σ7:St} {H7:Hp},Inv X (pins++iA fp s5.heap) σ7 H7 s7->N σ7 H7->∃m,m<n/\Ex3 fun i σ' H'=>An4 (Inv X pins σ' H' s7) (tn i s7.heap) (∀b∈fp,H' b=none) (W i m σ' H'):=fun {σ7 H7} I7 n7=>by
   obtain⟨m',hm,w7⟩:=hN σ7 H7 n7;refine⟨m',hm,i+1,σ7,H7,I7.unpinned,T.keep _ _ _ st5 fun b hb o e=>(I7.pin (b,o) (bh _ (bh _ (dw hb e)))).1,fun b hb=>?_,w7⟩;obtain⟨o,e,d⟩:=T.obj _ _ st5 b hb;exact(I7.pin (b,o) (bh _ (bh _ (dw hb e)))).2.1
  cases f with
  | next=>obtain⟨σ7,H7,I7,n7⟩:=q7;exact again I7 n7
  | cont=>obtain⟨σ7,H7,I7,n7⟩:=q7;exact again I7 n7
  | brk=>obtain⟨σ7,H7,I7,q7⟩:=q7;exact⟨σ7,H7,I7.unpinned,q7⟩
  | ret v=>obtain⟨x7,σ7,H7,I7,r7,q7⟩:=q7;exact⟨x7,σ7,H7,I7.unpinned,r7,q7⟩
end
theorem rX {g:TG}{D:Ends}(Pv:Nat->St->Hp->Prop)(h0:Pv 0 σ H)(hl:∀i σ H,i<=xs.length->Pv i σ H->SqL K H a xs)
  (hs:∀i x σ H,xs[i]?=some x->Pv i σ H->g x σ H fun σ2 H2=>tb { D with nx:=Pv (i+1),ct:=Pv (i+1),bk:=D.nx } σ2 H2) (hd:∀σ H,Pv xs.length σ H->D.nx σ H) :
  ∃W:Nat->Nat->St->Hp->Prop,(∃m,W 0 m σ H)/\∀i m σ H,W i m σ H ->
   ((Itl K a).stop i H/\D.nx σ H)\/((Itl K a).go i H/\∃N:St->Hp->Prop,(∀σ' H',N σ' H'->∃m',m'<m/\W (i+1) m' σ' H')/\∀x H',(Itl K a).yld i H x H'->g x σ H' fun σ2 H2=>tb { D with nx:=N,ct:=N,bk:=D.nx } σ2 H2):=by
 refine⟨fun i m σ H=>An3 (m=xs.length - i) (i<=xs.length) (Pv i σ H),⟨xs.length,by simp,zero_le _,h0⟩,?_⟩;rintro i m σ H ⟨rfl,hi,p⟩;have q:=hl i σ H hi p;by_cases hlt:i<xs.length
 ·refine .inr ⟨⟨xs,xs[i],q,by simp[hlt]⟩,Pv (i+1),fun σ' H' p'=>⟨xs.length - (i+1),by lia,rfl,hlt,p'⟩,fun x H' y=>?_⟩;obtain⟨e,y⟩:=y;subst e;exact hs i x σ _ (y xs q) p
 ·have e:i=xs.length:=by lia
  subst e;exact .inl ⟨⟨xs,q,aD _⟩,hd σ H p⟩
theorem qe {lo:Int}{g:TG}{D:Ends}(Pv:Nat->St->Hp->Prop)(h0:Pv 0 σ H)
  (hs:∀i σ H,i<n->Pv i σ H->g (.int (lo+i)) σ H fun σ2 H2=>tb { D with nx:=Pv (i+1),ct:=Pv (i+1),bk:=D.nx } σ2 H2) (hd:∀σ H,Pv n σ H->D.nx σ H) :
  ∃W:Nat->Nat->St->Hp->Prop,(∃m,W 0 m σ H)/\∀i m σ H,W i m σ H ->
   ((Itr lo n).stop i H/\D.nx σ H)\/((Itr lo n).go i H/\∃N:St->Hp->Prop,(∀σ' H',N σ' H'->∃m',m'<m/\W (i+1) m' σ' H')/\∀x H',(Itr lo n).yld i H x H'->g x σ H' fun σ2 H2=>tb { D with nx:=N,ct:=N,bk:=D.nx } σ2 H2):=by
 refine⟨fun i m σ H=>An3 (m=n - i) (i<=n) (Pv i σ H),⟨n,by simp,zero_le _,h0⟩,?_⟩;rintro i m σ H ⟨rfl,hi,p⟩;by_cases hlt:i<n
 ·refine .inr ⟨hlt,Pv (i+1),fun σ' H' p'=>⟨n - (i+1),by lia,rfl,hlt,p'⟩,fun x H' y=>?_⟩;obtain⟨e,y⟩:=y;subst e y;exact hs i σ _ hlt p
 ·have e:i=n:=by lia
  subst e;exact .inl ⟨aD _,hd σ H p⟩
abbrev R2:=V->V->Hp->VK->Prop
variable {r r':L2.R2}
def OpR (X:Cx)(f:Value->Value->Sem Value)(r:R2):Prop:=
 ∀(pins:List (Addr×Obj)) (s:Shared) (σ:St) (H:Hp) (x y:V) (v u:Value) (Q:VK),Inv X pins σ H s->cb x v->cb y u->r x y H Q ->
  wpAny (model X.prog X.w) X.A (f v u) (EP X pins σ Q) X.xe s
def UnR (X:Cx)(f:Value->Sem Value)(r:V->Hp->VK->Prop):Prop:=
 ∀(pins:List (Addr×Obj)) (s:Shared) (σ:St) (H:Hp) (x:V) (v:Value) (Q:VK),Inv X pins σ H s->cb x v->r x H Q ->
  wpAny (model X.prog X.w) X.A (f v) (EP X pins σ Q) X.xe s
def fe (X:Cx)(f:Value)(r:List V->Hp->VK->Prop):Prop:=
 ∀(pins:List (Addr×Obj)) (s:Shared) (σ:St) (H:Hp) (xs:List V) (us:List Value) (Q:VK),Inv X pins σ H s->b_ xs us->r xs H Q ->
  wpAny (model X.prog X.w) X.A (call f us) (EP X pins σ Q) X.xe s
def tOp (r:R2)(ta tb:TE):TE:=fun σ H Q=>ta σ H fun x H1=>tb σ H1 fun y H2=>r x y H2 Q
def tUn (r:V->Hp->VK->Prop)(ta:TE):TE:=fun σ H Q=>ta σ H fun x H1=>r x H1 Q
def rI (C:Int->Int->Prop)(g:Int->Int->V):R2:=fun x y H Q=>Ex2 fun i j=>An4 (x=.int i) (y=.int j) (C i j) (Q (g i j) H)
def rI0 (g:Int->Int->V):R2:=fun x y H Q=>Ex2 fun i j=>An3 (x=.int i) (y=.int j) (Q (g i j) H)
def rU (g:Int->V):V->Hp->VK->Prop:=fun x H Q=>∃i,x=.int i/\Q (g i) H
section
variable {a b c:Expr}{tb tc:TE}
theorem zm (ha:PE X a ta)(hb:PE X b tb){R:V->V->Hp->Prop}(I:Inv X pins σ H s)
  (h:ta σ H fun x H1=>tb σ H1 fun y H2=>R x y H2) {f:Value->Value->Sem Value}
  (hf:∀v u s2 x y H2,Inv X pins σ H2 s2->cb x v->cb y u->R x y H2->wpAny (model X.prog X.w) X.A (f v u) Q X.xe s2) :
  wpAny (model X.prog X.w) X.A (eval a X.env) (fun v s₁=>wpAny (model X.prog X.w) X.A (eval b X.env) (fun u s₂=>wpAny (model X.prog X.w) X.A (f v u) Q X.xe s₂) X.xe s₁) X.xe s:=by
 refine thn (ha pins s σ H _ I h) fun v s1 zz=>?_;obtain⟨x,H1,I1,r1,q1⟩:=zz;refine thn (hb pins s1 σ H1 _ I1 q1) fun u s2 zz=>?_;obtain⟨y,H2,I2,r2,q2⟩:=zz;exact hf v u s2 x y H2 I2 r1 r2 q2
theorem br {op:Operator}(ho:OpR X (binaryOp op) r)(ha:PE X a ta)(hb:PE X b tb):PE X (.BinOp a op b pos) (tOp r ta tb):=by
 intro pins s σ H Q I h;exact wpAny_BinOp (zm ha hb I h fun v u s2 x y H2 I2 rx ry q=>ho pins s2 σ H2 x y v u Q I2 rx ry q)
theorem oO {op:UnaryOp}{r:V->Hp->VK->Prop}(ho:UnR X (unaryOp op) r)(ha:PE X a ta):PE X (.UnaryOp op a pos) (tUn r ta):=by
 intro pins s σ H Q I h;exact UnaryOp_ (thn (ha pins s σ H _ I h) fun v s1 zz=>by obtain⟨x,H1,I1,r1,q1⟩:=zz;exact ho pins s1 σ H1 x v Q I1 r1 q1)
theorem opI {f:Value->Value->Sem Value}{C:Int->Int->Prop}{g:Int->Int->Int}
  (rule:∀(i j:Int) (t u:Tok) (s:Shared) (Q:Value->Shared->Prop) (E:Value->Shared->Prop),C i j->Q (.int (g i j) s.toks) { s with toks:=s.toks+1 }->wpAny (model X.prog X.w) X.A (f (.int i t) (.int j u)) Q E s) :
  OpR X f (rI C fun i j=>.int (g i j)):=by
 intro pins s σ H x y v u Q I rx ry h;obtain⟨i,j,rfl,rfl,hc,q⟩:=h;obtain⟨t,rfl⟩:=rx;obtain⟨t',rfl⟩:=ry;exact rule i j t t' s _ _ hc ⟨.int (g i j),H,I.tok _,⟨_,rfl⟩,q⟩
theorem zL {f:Value->Value->Sem Value}{g:Int->Int->Int}
  (rule:∀(i j:Int) (t u:Tok) (s:Shared) (Q:Value->Shared->Prop) (E:Value->Shared->Prop),Q (.int (g i j) s.toks) { s with toks:=s.toks+1 }->wpAny (model X.prog X.w) X.A (f (.int i t) (.int j u)) Q E s) :
  OpR X f (rI0 fun i j=>.int (g i j)):=by
 intro pins s σ H x y v u Q I rx ry h;obtain⟨i,j,rfl,rfl,q⟩:=h;obtain⟨t,rfl⟩:=rx;obtain⟨t',rfl⟩:=ry;exact rule i j t t' s _ _ ⟨.int (g i j),H,I.tok _,⟨_,rfl⟩,q⟩
theorem xR {f:Value->Value->Sem Value}{g:Int->Int->Bool}
  (rule:∀(i j:Int) (t u:Tok) (s:Shared) (Q:Value->Shared->Prop) (E:Value->Shared->Prop),Q (.bool (g i j)) s->wpAny (model X.prog X.w) X.A (f (.int i t) (.int j u)) Q E s) :
  OpR X f (rI0 fun i j=>.bl (g i j)):=by
 intro pins s σ H x y v u Q I rx ry h;obtain⟨i,j,rfl,rfl,q⟩:=h;obtain⟨t,rfl⟩:=rx;obtain⟨t',rfl⟩:=ry;exact rule i j t t' s _ _ ⟨.bl (g i j),H,I,rfl,q⟩
def x_ (i j:Int):Prop:=0<=j/\j<=1000000/\i.natAbs<2 ^ 64
def zr (i j:Int):Prop:=(-(2 ^ 64)<i/\i<2 ^ 64)\/(-(2 ^ 64)<j/\j<2 ^ 64)
theorem zr.ok {i j:Int}(h:zr i j):IntMulOk i j:=by
 rcases h with⟨h1,h2⟩|⟨h1,h2⟩
 ·exact .of_left (intBits_le_64 h1 h2)
 ·exact .of_right (intBits_le_64 h1 h2)
theorem dh:OpR X (binaryOp .Add) (rI0 fun i j=>.int (i+j)):=zL fun _ _ _ _ _ _ _ q=>add_int q
theorem cY:OpR X (binaryOp .Sub) (rI0 fun i j=>.int (i - j)):=zL fun _ _ _ _ _ _ _ q=>sub_int q
theorem me:OpR X (binaryOp .Mult) (rI zr fun i j=>.int (i * j)):=opI fun _ _ _ _ _ _ _ hc q=>mul_int q hc.ok
theorem jK:OpR X (binaryOp .Mod) (rI (fun _ j=>0<j) fun i j=>.int (i % j)):=opI fun i j _ _ _ _ _ hc q=>by
 have h1:(0:Int)<j:=hc;exact mod_int' (by lia) (by rw[Int.fmod_eq_emod_of_nonneg i (by lia)];exact q)
theorem dj:OpR X (binaryOp .Pow) (rI x_ fun i j=>.int (i ^ j.toNat)):=opI fun _ _ _ _ _ _ _ hc q=>pow_int_small hc.1 hc.2.1 hc.2.2 q
theorem unI {f:Value->Sem Value}{g:Int->Int}
  (rule:∀(i:Int) (t:Tok) (s:Shared) (Q:Value->Shared->Prop) (E:Value->Shared->Prop),Q (.int (g i) s.toks) { s with toks:=s.toks+1 }->wpAny (model X.prog X.w) X.A (f (.int i t)) Q E s) :
  UnR X f (rU fun i=>.int (g i)):=by
 intro pins s σ H x v Q I rx h;obtain⟨i,rfl,q⟩:=h;obtain⟨t,rfl⟩:=rx;exact rule i t s _ _ ⟨.int (g i),H,I.tok _,⟨_,rfl⟩,q⟩
theorem lI:UnR X (unaryOp .USub) (rU fun i=>.int (-i)):=unI fun _ _ _ _ _ q=>neg_int q
end
def xQ:V->V->Bool
 | .non,.non=>true|.non,.int _=>true|.int _,.non=>true|.non,.bl _=>true|.bl _,.non=>true|.non,.str _=>true|.str _,.non=>true
 | .int _,.int _=>true|.bl _,.bl _=>true|.str _,.str _=>true|.byt _,.byt _=>true
 | .int _,.str _=>true|.str _,.int _=>true|.bl _,.str _=>true|.str _,.bl _=>true
 | _,_=>false
def rEq:R2:=fun x y H Q=>xQ x y=true/\Q (.bl (decide (x=y))) H
def rNe:R2:=fun x y H Q=>xQ x y=true/\Q (.bl (!decide (x=y))) H
theorem qm {i j:Int}:decide (V.int i=V.int j)=(i==j):=by
 rw[Bool.eq_iff_iff];simp
theorem tI {i j}:decide (V.bl i=V.bl j)=(i==j):=by
 rw[Bool.eq_iff_iff];simp
theorem ql {i j}:decide (V.str i=V.str j)=(i==j):=by
 rw[Bool.eq_iff_iff];simp
theorem qo {i j:Array UInt8}:decide (V.byt i=V.byt j)=(i.toList==j.toList):=by
 rw[Bool.eq_iff_iff];cases i;cases j;simp
section
variable {a b c:Expr}{tb tc:TE}
theorem bN {Q k k'}(I:Inv X pins σ H s)(q:Q (.bl k) H)(e:k=k'):EP X pins σ Q (.bool k') s:=by
 subst e;exact⟨.bl k,H,I,rfl,q⟩
theorem cw:OpR X (compareOp .Eq) rEq:=by
 intro pins s σ H x y v u Q I rx ry h;obtain⟨hs,q⟩:=h;cases x with
 | non=>
  cases rx;cases y with
  | non=>cases ry;exact PySem.EqNone.eq_none_none (bN I q (by simp))
  | bl j=>cases ry;exact PySem.EqNone.eq_none_bool (bN I q (by simp))
  | int j=>obtain⟨t',rfl⟩:=ry;exact PySem.EqNone.eq_none_int (bN I q (by simp))
  | str j=>obtain⟨t',rfl⟩:=ry;exact PySem.EqNone.eq_none_str (bN I q (by simp))
  | _=>exact aY (show false=true from hs) aj
 | bl i=>
  cases rx;cases y with
  | non=>cases ry;exact PySem.EqNone.eq_bool_none (bN I q (by simp))
  | bl j=>cases ry;exact eq_bool (bN I q tI)
  | str j=>obtain⟨t',rfl⟩:=ry;exact PySem.EqMixed.eq_bool_str (bN I q (by simp))
  | _=>exact aY (show false=true from hs) aj
 | int i=>
  obtain⟨t,rfl⟩:=rx;cases y with
  | non=>cases ry;exact PySem.EqNone.eq_int_none (bN I q (by simp))
  | int j=>obtain⟨t',rfl⟩:=ry;exact eq_int (bN I q qm)
  | str j=>obtain⟨t',rfl⟩:=ry;exact PySem.EqMixed.eq_int_str (bN I q (by simp))
  | _=>exact aY (show false=true from hs) aj
 | str i=>
  obtain⟨t,rfl⟩:=rx;cases y with
  | non=>cases ry;exact PySem.EqNone.eq_str_none (bN I q (by simp))
  | bl j=>cases ry;exact PySem.EqMixed.eq_str_bool (bN I q (by simp))
  | int j=>obtain⟨t',rfl⟩:=ry;exact PySem.EqMixed.eq_str_int (bN I q (by simp))
  | str j=>obtain⟨t',rfl⟩:=ry;exact eq_str (bN I q ql)
  | _=>exact aY (show false=true from hs) aj
 | byt i=>
  obtain⟨t,rfl⟩:=rx;cases y with
  | byt j=>obtain⟨t',rfl⟩:=ry;exact PySem.W.eq_bytes (bN I q qo)
  | _=>exact aY (show false=true from hs) aj
 | _=>cases y<;>exact aY (show false=true from hs) aj
theorem jJ:OpR X (compareOp .NotEq) rNe:=by
 intro pins s σ H x y v u Q I rx ry h;obtain⟨hs,q⟩:=h;cases x with
 | non=>
  cases rx;cases y with
  | non=>cases ry;exact PySem.EqNone.ne_none_none (bN I q (by simp))
  | bl j=>cases ry;exact PySem.EqNone.ne_none_bool (bN I q (by simp))
  | int j=>obtain⟨t',rfl⟩:=ry;exact PySem.EqNone.ne_none_int (bN I q (by simp))
  | str j=>obtain⟨t',rfl⟩:=ry;exact PySem.EqNone.ne_none_str (bN I q (by simp))
  | _=>exact aY (show false=true from hs) aj
 | bl i=>
  cases rx;cases y with
  | non=>cases ry;exact PySem.EqNone.ne_bool_none (bN I q (by simp))
  | bl j=>cases ry;exact ne_bool (bN I q (bL not tI))
  | str j=>obtain⟨t',rfl⟩:=ry;exact PySem.EqMixed.ne_bool_str (bN I q (by simp))
  | _=>exact aY (show false=true from hs) aj
 | int i=>
  obtain⟨t,rfl⟩:=rx;cases y with
  | non=>cases ry;exact PySem.EqNone.ne_int_none (bN I q (by simp))
  | int j=>obtain⟨t',rfl⟩:=ry;exact ne_int (bN I q (bL not qm))
  | str j=>obtain⟨t',rfl⟩:=ry;exact PySem.EqMixed.ne_int_str (bN I q (by simp))
  | _=>exact aY (show false=true from hs) aj
 | str i=>
  obtain⟨t,rfl⟩:=rx;cases y with
  | non=>cases ry;exact PySem.EqNone.ne_str_none (bN I q (by simp))
  | bl j=>cases ry;exact PySem.EqMixed.ne_str_bool (bN I q (by simp))
  | int j=>obtain⟨t',rfl⟩:=ry;exact PySem.EqMixed.ne_str_int (bN I q (by simp))
  | str j=>obtain⟨t',rfl⟩:=ry;exact ne_str (bN I q (bL not ql))
  | _=>exact aY (show false=true from hs) aj
 | byt i=>
  obtain⟨t,rfl⟩:=rx;cases y with
  | byt j=>obtain⟨t',rfl⟩:=ry;exact PySem.W.ne_bytes (bN I q (bL not qo))
  | _=>exact aY (show false=true from hs) aj
 | _=>cases y<;>exact aY (show false=true from hs) aj
theorem gA:OpR X (compareOp .Lt) (rI0 fun i j=>.bl (decide (i<j))):=xR fun _ _ _ _ _ _ _ q=>lt_int q
theorem rm:OpR X (compareOp .LtE) (rI0 fun i j=>.bl (decide (i<=j))):=xR fun _ _ _ _ _ _ _ q=>le_int q
theorem rn:OpR X (compareOp .Gt) (rI0 fun i j=>.bl (decide (j<i))):=xR fun _ _ _ _ _ _ _ q=>gt_int q
theorem wr:OpR X (compareOp .GtE) (rI0 fun i j=>.bl (decide (j<=i))):=xR fun _ _ _ _ _ _ _ q=>ge_int q
theorem iB:OpR X (compareOp .Is) (fun x y H Q=>y=.non/\Q (.bl (decide (x=.non))) H):=by
 intro pins s σ H x y v u Q I rx ry h;obtain⟨rfl,q⟩:=h;cases ry;refine is_none_gen (bN I q ?_)
 cases x<;>first
  | (cases rx;rfl)
  | (obtain⟨t,rfl⟩:=rx;rfl)
theorem uz:OpR X (compareOp .IsNot) (fun x y H Q=>y=.non/\Q (.bl (!decide (x=.non))) H):=by
 intro pins s σ H x y v u Q I rx ry h;obtain⟨rfl,q⟩:=h;cases ry;refine isnot_none_gen (bN I q ?_)
 cases x<;>first
  | (cases rx;rfl)
  | (obtain⟨t,rfl⟩:=rx;rfl)
theorem cm (b:Expr)(h:op≠.In:=by decide)(h2:op≠.NotIn:=by decide):behindInMarks op b=false:=by
 have e1:(op==CmpOp.In)=false:=by cases op<;>first|rfl|exact aY rfl h
 have e2:(op==CmpOp.NotIn)=false:=by cases op<;>first|rfl|exact aY rfl h2
 cases b<;>simp[behindInMarks,e1,e2]
theorem bO (ho:OpR X (compareOp op) r)(ha:PE X a ta)(hb:PE X b tb)(hm:behindInMarks op b=false):PE X (.Compare a [op] [b] pos) (tOp r ta tb):=by
 intro pins s σ H Q I h;exact wpAny_Compare1 (zm ha hb I h fun v u s2 x y H2 I2 rx ry q=>ho pins s2 σ H2 x y v u Q I2 rx ry q) hm
def tY (t:TE):TT:=fun σ H Q=>t σ H fun x H'=>∃k,x=.bl k/\Q k H'
theorem iS (ho:OpR X (compareOp op) r)(ha:PE X a ta)(hb:PE X b tb)(hm:behindInMarks op b=false):PT X (.Compare a [op] [b] pos) (tY (tOp r ta tb)):=by
 intro pins s σ H Q I h
 refine wpAny_isTrue_Compare1 (thn (ha pins s σ H _ I h) fun v s1 ⟨x,H1,I1,r1,q1⟩=>thn (hb pins s1 σ H1 _ I1 q1) fun u s2 ⟨y,H2,I2,r2,q2⟩=>
  thn (ho pins s2 σ H2 x y v u _ I2 r1 r2 q2) fun c s3 ⟨z,H3,I3,r3,k,e,q3⟩=>?_) hm
 subst e;cases r3;exact wpAny_truthy_bool ⟨H3,I3,q3⟩
def sH (r r':R2)(ta tb tc:TE):TE:=fun σ H Q=>ta σ H fun x H1=>tb σ H1 fun y H2=>r x y H2 fun z H3=>∃k,z=.bl k/\(if k=true then tc σ H3 fun w' H4=>r' y w' H4 Q else Q (.bl false) H3)
theorem l_ (ho:OpR X (compareOp op) r)(ho':OpR X (compareOp op') r')(ha:PE X a ta)(hb:PE X b tb)(hc:PE X c tc)
  (hm:lastMarks [op,op'] [b,c]=false:=by with_unfolding_all rfl):PE X (.Compare a [op,op'] [b,c] pos) (sH r r' ta tb tc):=by
 intro pins s σ H Q I h
 refine Compare_chain (thn (ha pins s σ H _ I h) fun v s1 ⟨x,H1,I1,r1,q1⟩=>chain_link (thn (hb pins s1 σ H1 _ I1 q1) fun u s2 ⟨y,H2,I2,r2,q2⟩=>
  thn (ho pins s2 σ H2 x y v u _ I2 r1 r2 q2) fun d s3 ⟨z,H3,I3,r3,k,e,q3⟩=>?_)) hm
 subst e;cases r3;refine wpAny_truthy_bool ?_;cases k with
 | false=>exact ite_ff ⟨.bl false,H3,I3,rfl,q3⟩
 | true=>exact ite_tt (chain_last (thn (hc pins s3 σ H3 _ I3 q3) fun w' s4 ⟨z',H4,I4,r4,q4⟩=>ho' pins s4 σ H4 y z' u w' Q I4 r2 r4 q4))
theorem ms:(sizeLine:Nat)<2 ^ 63:=by rw[sizeLine_eq];decide
theorem fK {x us}(r:b_ [x] us):∃u,us=[u]/\cb x u:=by
 cases r with
 | cons r1 r2=>cases r2;exact⟨_,rfl,r1⟩
theorem mL {x us}(r:b_ [x,y] us):Ex2 fun u w'=>An3 (us=[u,w']) (cb x u) (cb y w'):=by
 cases r with
 | cons r1 r2=>
  cases r2 with
  | cons r3 r4=>cases r4;exact⟨_,_,rfl,r1,r3⟩
theorem gb (hc:X.calm=true):fe X (.builtin "max") (fun xs H Q=>Ex2 fun i j=>xs=[.int i,.int j]/\Q (.int (if j > i then j else i)) H):=by
 intro pins s σ H xs us Q I r h;obtain⟨i,j,rfl,q⟩:=h;obtain⟨u,w',rfl,⟨t,rfl⟩,⟨t',rfl⟩⟩:=mL r;refine max_two_ints (I.ok.hd hc) fun h' tk k=>⟨_,H,I.kept k,?_,q⟩;by_cases hj:j > i
 ·rw[ak hj,ak hj];exact⟨_,rfl⟩
 ·rw[ah hj,ah hj];exact⟨_,rfl⟩
theorem ig (hc:X.calm=true):fe X (.builtin "min") (fun xs H Q=>Ex2 fun i j=>xs=[.int i,.int j]/\Q (.int (if j<i then j else i)) H):=by
 intro pins s σ H xs us Q I r h;obtain⟨i,j,rfl,q⟩:=h;obtain⟨u,w',rfl,⟨t,rfl⟩,⟨t',rfl⟩⟩:=mL r;refine min_two_ints (I.ok.hd hc) fun h' tk k=>⟨_,H,I.kept k,?_,q⟩;by_cases hj:j<i
 ·rw[ak hj,ak hj];exact⟨_,rfl⟩
 ·rw[ah hj,ah hj];exact⟨_,rfl⟩
theorem j4:fe X (.type "int") (fun xs H Q=>(∃i,xs=[.int i]/\Q (.int i) H)\/∃k,xs=[.bl k]/\Q (.int (if k then 1 else 0)) H):=by
 intro pins s σ H xs us Q I r h;rcases h with⟨i,rfl,q⟩|⟨k,rfl,q⟩
 ·obtain⟨u,rfl,t,rfl⟩:=fK r;exact call_int_int ⟨.int i,H,I,⟨_,rfl⟩,q⟩
 ·obtain⟨u,rfl,r1⟩:=fK r;cases r1;exact call_int_bool ⟨.int (if k then 1 else 0),H,I.tok _,⟨_,rfl⟩,q⟩
end
structure ObjM (h:Heap)(x dx C:Addr)(mA:Str->Option Value):Prop where
 obj:h.get? x=some (instObj C dx)
 ns:h.Ns1 dx mA
 ne:dx≠x
theorem jP (n:h.Ns1 dx mA):∃od,h.get? dx=some od/\∀name,lookIn name od=some (mA name):=by
 obtain⟨o,es,ep,ho,hd,hk,_,hm⟩:=n;refine⟨o,ho,fun name=>?_⟩;have e:=hm name;unfold nsFind findBy at e;rw[<- Array.find?_toList] at e;unfold lookIn;rw[hd];dsimp only;split
 ·rename_i y q
  rw[q] at e;exact bL some e
 ·rename_i q
  rw[q] at e
  have a:es.toList.any (·.refKey)=false:=by
   rw[List.any_eq_false];intro y hy;obtain⟨z,t,hkey⟩:=hk y (Array.mem_toList_iff.mp hy);simp[DictEntry.refKey,hkey]
  have a':¬es.toList.any (·.refKey)=true:=by rw[a];exact aj
  rw[ah a'];exact bL some e
theorem ObjM.look {x}(I:ObjM h x dx C mA):∃od,InstAt h x (instObj C dx) C (some od)/\∀name,lookIn name od=some (mA name):=
 let⟨od,ho,hl⟩:=jP I.ns
 ⟨od,⟨I.obj,rfl,rfl,ho⟩,hl⟩
section
variable {x:Addr}{v:Value}
theorem uU (X:K.In s.heap)(I:ObjM s.heap x dx C mA)(hg:plainGet K C name=true)(hh:hasDictIn K C=true)
  (ha:findIn K (.ref C) name=some none) (hv:mA name=some v) (hv':handedIn v=true) (h:Q v { s with toks:=s.toks+1 }) :
  wpAny (model prog w) A (getAttr (.ref x) name expr) Q E s:=by
 obtain⟨od,J,hl⟩:=I.look;exact PySem.W.get_value X J (plainGet_of hg).1 (findObj_own hh ha rfl (by rw[hl,hv])) hv' h
theorem rR {Q:Value×List Value->Shared->Prop}(X:K.In s.heap)(I:ObjM s.heap x dx C mA)(hg:plainGet K C name=true)
  (hf:findIn K (.ref C) name=some (some (.ref f))) (ht:isFn K (.ref f)=true) (hv:mA name=none) (h:Q (.ref f,[.ref x]) s) :
  wpAny (model prog w) A (getMethod (.ref x) name pl) Q E s:=by
 obtain⟨od,J,hl⟩:=I.look;exact PySem.W.method_fn X J (plainGet_of hg).1 (plainGet_of hg).2 hf (beq_iff_eq.mp ht) (by show (lookIn name od).map (·.isSome)=some false;rw[hl,hv];rfl) h
theorem ua {ns:List Str}{Q:Unit->Shared->Prop}(X:K.In s.heap)(I:ObjM s.heap x dx C mA)
  (hs:findIn K (.ref C) "__setattr__" = some (some (.builtin "object.__setattr__"))) (hp:plainOver K C=true) (ht:takerIn K C name=some none) (hh:hasDictIn K C=true)
  (hw:PySem.Within mA ns) (hsz:ns.length<=sizeLine)
  (h:∀h',ObjM h' x dx C (fun y=>if y=name then some v else mA y)->Heap.SameBut dx s.heap h'->Q () { s with heap:=h',toks:=s.toks+2 }) :
  wpAny (model prog w) A (setAttr (.ref x) name v) Q E s:=by
 obtain⟨od,J,hl⟩:=I.look;refine set_plain X J hs (PySem.W.osa_open (s:={ s with toks:=s.toks+1 }) (r:=none) X J hp ht fun b=>?_);obtain⟨cd,hc,hd'⟩:=any_some hh;have hx:s.heap.get? x=some ⟨.ref C,some dx,.plain,#[]⟩:=I.obj;refine aa (ae (aa (aa (wpAny_loadPart hx (aa (PySem.W.Looks.here (s:={ s with toks:=s.toks+1 }) (looks_clsIn X hc) ?_))))));rw[hd']
 refine ae (a:=some dx) (aa (ae (aa ?_)));refine wpAny_nsSet1 (s:={ s with toks:=s.toks+1 }) I.ns fun h' hn2 hs2=>?_;obtain⟨oD,esD,epD,hoD,hdD,hcD⟩:=hn2.count (PySem.Within.cons name v hw);refine aa (wpAny_lookBehind hoD (by rw[hdD];exact pastItsLine_dict (Nat.le_trans hcD (by rw[aR];lia))) ?_)
 exact ae (h _ ⟨(hs2.2 _ (dG I.ne)).trans I.obj,hn2,I.ne⟩ hs2)
theorem rG {vs}(X:K.In s.heap)(hm:makesIn K C=true)
  (hi:findIn K (.ref C) "__init__" = some (some (.ref f))) (hf:typeIn K (.ref f)=some (.type "function"))
  (h:codeAny (model prog w) (A.under (.builtin "type.__call__" ⟨.ref C::vs,kw⟩)) (.call (.ref f) ⟨.ref (s.heap.objs.size+1)::vs,kw⟩) (PySem.W.InitBack (s.heap.objs.size+1) R)
   { s with heap:=(s.heap.push emptyDict).push (instObj C s.heap.objs.size) }) :
  codeAny (model prog w) A (.call (.ref C) ⟨vs,kw⟩) R s:=by
 obtain⟨hh,g,d,t,os⟩:=s;exact PySem.W.make_core (PySem.W.makes_of X hm) (looks_findIn X hi) (fun self=>PySem.W.bind_fn X self hf) (.inl rfl) h
end
def jr (f:Str)(v:V):List (Str×V)->List (Str×V)
 | []=>[(f,v)]
 | (g,x)::r=>if g=f then (g,v)::r else (g,x)::jr f v r
theorem gX (f g:Str)(v:V):∀fs:List (Str×V),(jr f v fs).lookup g=if g=f then some v else fs.lookup g
 | []=>by
  show List.lookup g [(f,v)]=_;by_cases h:g=f
  ·have hb:(g==f)=true:=beq_iff_eq.mpr h;simp only[List.lookup,hb,ak h]
  ·have hb:(g==f)=false:=beq_eq_false_iff_ne.mpr h;simp only[List.lookup,hb,ah h]
 | (k,x)::r=>by
  have ih:=gX f g v r;rw[show jr f v ((k,x)::r)=(if k=f then (k,v)::r else (k,x)::jr f v r) from rfl];by_cases hk:k=f
  ·rw[ak hk];by_cases h:g=k
   ·have hb:(g==k)=true:=beq_iff_eq.mpr h;simp only[List.lookup,hb,ak (h.trans hk)]
   ·have hb:(g==k)=false:=beq_eq_false_iff_ne.mpr h;simp only[List.lookup,hb,ah (fun e:g=f=>h (e.trans hk.symm))]
  ·rw[ah hk];by_cases h:g=k
   ·have hb:(g==k)=true:=beq_iff_eq.mpr h;simp only[List.lookup,hb,ah (fun e:g=f=>hk (h.symm.trans e))]
   ·have hb:(g==k)=false:=beq_eq_false_iff_ne.mpr h;simp only[List.lookup,hb];exact ih
theorem hG (f:Str)(v:V):∀fs:List (Str×V),f∈(jr f v fs).map (·.1)/\∀g,g∈fs.map (·.1)->g∈(jr f v fs).map (·.1)
 | []=>⟨by simp[jr],fun g h=>by simp at h⟩
 | (k,x)::r=>by
  obtain⟨i1,i2⟩:=hG f v r;rw[show jr f v ((k,x)::r)=(if k=f then (k,v)::r else (k,x)::jr f v r) from rfl];by_cases hk:k=f
  ·rw[ak hk];subst hk;exact⟨by simp,fun g h=>by simpa using h⟩
  ·rw[ah hk];refine⟨?_,fun g h=>?_⟩
   ·rw[bX];exact aX _ i1
   ·rw[bX] at h ⊢;rcases aV.mp h with e|e
    ·exact aV.mpr (.inl e)
    ·exact aX _ (i2 g e)
theorem gY (f:Str)(v:V):∀fs:List (Str×V),(jr f v fs).length<=fs.length+1
 | []=>by simp[jr]
 | (k,x)::r=>by
  have ih:=gY f v r;rw[show jr f v ((k,x)::r)=(if k=f then (k,v)::r else (k,x)::jr f v r) from rfl];by_cases hk:k=f
  ·rw[ak hk,aR,aR];lia
  ·rw[ah hk,aR,aR];lia
theorem ij.some_of {o}(r:ij (some v) o):∃u,o=some u/\cb v u:=by
 cases o with
 | none=>exact(show False from r).elim
 | some u=>exact⟨u,rfl,r⟩
theorem ij.none_of {o}(r:ij none o):o=none:=by
 cases o with
 | none=>rfl
 | some u=>exact(show False from r).elim
theorem jU (r:cb v u):handedIn u=true:=by
 cases v with
 | non=>cases(show u=Value.none from r);rfl
 | bl b=>cases(show u=Value.bool b from r);rfl
 | int i=>obtain⟨t,e⟩:=(show ∃t,u=Value.int i t from r);cases e;rfl
 | str x=>obtain⟨t,e⟩:=(show ∃t,u=Value.str x t from r);cases e;rfl
 | byt b=>obtain⟨t,e⟩:=(show ∃t,u=bytes b t from r);cases e;rfl
 | flt b=>obtain⟨t,e⟩:=(show ∃t,u=float b t from r);cases e;rfl
 | ref a=>cases(show u=Value.ref a from r);rfl
 | ty n=>cases(show u=type n from r);rfl
section
variable {fs:List (Str×V)}
theorem k_ (hok:HOk P w H h)(e:H a=some (.ins C dx fs)):∃mA,An5 (ObjM h a dx C mA) (∀f,ij (fs.lookup f) (mA f)) (PySem.Within mA (fs.map (·.1))) (fs.length<=1000) (H dx=some (.own a)):=by
 obtain⟨d,z,ne,ob,mA,n,r,q⟩:=(show bI P w H h a (.ins C dx fs) from hok a _ e);exact⟨mA,⟨ob,n,ne⟩,r,q,z,d⟩
end
structure Cls (K:Frag)(C:Addr):Prop where
 pg:plainGet K C Str.empty=true
 hd:hasDictIn K C=true
 po:plainOver K C=true
 sa:findIn K (.ref C) "__setattr__" = some (some (.builtin "object.__setattr__"))
theorem Cls.get (c:Cls K C)(f:Str):plainGet K C f=true:=c.pg
def cM (K:Frag)(C:Addr)(f:Str):Prop:=findIn K (.ref C) f=some none
theorem cM.taker {f}(n:cM K C f):takerIn K C f=some none:=by
 unfold takerIn;rw[show findIn K (.ref C) f=some none from n];rfl
structure Meth (K:Frag)(C:Addr)(m:Str)(f:Addr):Prop where
 at_:findIn K (.ref C) m=some (some (.ref f))
 fn:isFn K (.ref f)=true
 kp:keepIn K (.ref f)=true
section
variable {fs:List (Str×V)}{f:Str}
theorem ni {b}(I:Inv X pins σ H s)(e:H a=some (.ins C dx fs))(c:Cls X.K C)(n:cM X.K C f)(l:fs.lookup f=some v)
  (h:∀u s',Inv X pins σ H s'->cb v u->Q u s'):wpAny (model X.prog X.w) A (getAttr (.ref a) f b) Q E s:=by
 obtain⟨mA,O,r,_,_,_⟩:=k_ I.hok e;obtain⟨u,hu,ru⟩:=ij.some_of (v:=v) (o:=mA f) (by rw[<- l];exact r f);exact uU I.kIn O (c.get f) c.hd n hu (jU ru) (h u _ (I.tok _) ru)
theorem iG {g}{Q:Value×List Value->Shared->Prop}(I:Inv X pins σ H s)(e:H a=some (.ins C dx fs))(c:Cls X.K C)(k:Meth X.K C m g)(l:fs.lookup m=none)
  (h:Q (.ref g,[.ref a]) s):wpAny (model X.prog X.w) A (getMethod (.ref a) m pl) Q E s:=by
 obtain⟨mA,O,r,_,_,_⟩:=k_ I.hok e;have hn:mA m=none:=ij.none_of (by rw[<- l];exact r m);exact rR I.kIn O (c.get m) k.at_ k.fn hn h
theorem mQ {Q:Unit->Shared->Prop}(I:Inv X pins σ H s)(e:H a=some (.ins C dx fs))(c:Cls X.K C)(n:cM X.K C f)(hl:fs.length<1000)(ry:cb y u)
  (h:∀s',Inv X pins σ (upd H a (.ins C dx (jr f y fs))) s'->Q () s'):wpAny (model X.prog X.w) A (setAttr (.ref a) f u) Q E s:=by
 obtain⟨mA,O,r,wi,_,ho⟩:=k_ I.hok e;have hz:(fs.map (·.1)).length<=sizeLine:=by rw[au,sizeLine_eq];lia
 refine ua I.kIn O c.sa c.po n.taker c.hd wi hz fun h' O' sb=>h _ ?_;have hd:∃o,h'.get? dx=some o:=let⟨o,_,_,e',_⟩:=O'.ns;⟨o,e'⟩;refine I.write (x:=a) (e:=dx) (by rw[e];exact True.intro) (.inr ho) (fun b q hb z=>(sb.2 b hb).trans z) hd ?_;refine⟨by rw[aE O.ne];exact ho,?_,O.ne,O'.obj,_,O'.ns,fun g=>?_,fun g hg=>?_⟩
 ·have:=gY f y fs;lia
 ·show ij ((jr f y fs).lookup g) (if g=f then some u else mA g);rw[gX];by_cases q:g=f
  ·rw[ak q,ak q];exact ry
  ·rw[ah q,ah q];exact r g
 ·by_cases q:g=f
  ·rw[q];exact(hG f y fs).1
  ·refine(hG f y fs).2 g (wi g fun z=>hg ?_);show (if g=f then some u else mA g)=none;rw[ah q];exact z
theorem Inv.made (I:Inv X pins σ H s):Inv X pins σ (upd (upd H s.heap.objs.size (.own (s.heap.objs.size+1))) (s.heap.objs.size+1) (.ins C s.heap.objs.size []))
  { s with heap:=(s.heap.push emptyDict).push (instObj C s.heap.objs.size) }:=by
 have e1:(s.heap.push emptyDict).get? s.heap.objs.size=some emptyDict:=aI s.heap rfl
 have e2:((s.heap.push emptyDict).push (instObj C s.heap.objs.size)).get? (s.heap.objs.size+1)=some (instObj C s.heap.objs.size):=by
  have:=aI (s.heap.push emptyDict) (o:=instObj C s.heap.objs.size) rfl
  rwa[size_push] at this
 have e3:(s.heap.push emptyDict).Ns s.heap.objs.size (fun _=>none):=⟨emptyDict,#[],_,e1,rfl,(fun e he=>aY he (by simp)),fun _=>rfl⟩;have I1:=I.laid (a:=s.heap.objs.size) (o:=.own (s.heap.objs.size+1)) (h':=s.heap.push emptyDict) (t':=s.toks) (fun b u q=>af _ q) (aD _) ⟨_,e1⟩
 refine I1.laid (a:=s.heap.objs.size+1) (o:=.ins C s.heap.objs.size []) (t':=s.toks) (fun b u q=>af _ q) (le_of_eq (size_push _ _)) ?_;have ne:s.heap.objs.size≠s.heap.objs.size+1:=av (lt_succ_self _);refine⟨by rw[aE ne,ay],zero_le _,ne,e2,fun _=>none,(Heap.Ns1.of_empty e3).at fun o q=>af _ q,fun _=>True.intro,fun y hy=>aY rfl hy⟩
theorem qB (hb:attributeBase e f env (eval e env)=eval e env)
  (h:wpAny (model prog w) A (eval e env) (fun o s₁=>wpAny (model prog w) A (getAttr o f true) Q E s₁) E s):wpAny (model prog w) A (eval (.Attribute e f pos) env) Q E s:=
 Attribute_any_ h (by rw[arm_eval_Attribute,hb])
end
def zD (K:Frag)(ta:TE)(f:Str):TE:=fun σ H Q=>ta σ H fun x H1=>Ex5 fun a C dx fs v=>An6 (x=.ref a) (H1 a=some (.ins C dx fs)) (Cls K C) (cM K C f) (fs.lookup f=some v) (Q v H1)
def zH (K:Frag)(ta tv:TE)(f:Str):TS:=fun D σ H=>tv σ H fun y H1=>ta σ H1 fun x H2=>Ex4 fun a C dx fs=>An6 (x=.ref a) (H2 a=some (.ins C dx fs)) (Cls K C) (cM K C f) (fs.length<1000) (D.nx σ (upd H2 a (.ins C dx (jr f y fs))))
section
variable {o:Expr}{f:Str}
theorem lX (he:PE X e ta)(hb:attributeBase e f X.env (eval e X.env)=eval e X.env):PE X (.Attribute e f pos) (zD X.K ta f):=by
 intro pins s σ H Q I h;refine qB hb (thn (he pins s σ H _ I h) fun u s1 zz=>?_);obtain⟨x,H1,I1,rx,a,C,dx,fs,v,ex,ea,c,n,l,q⟩:=zz;subst ex;obtain rfl:u=Value.ref a:=rx;exact ni I1 ea c n l fun u' s2 I2 ru=>⟨v,H1,I2,ru,q⟩
theorem v8 (ha:PE X o ta)(hv:PE X value tv)(hs:swapsWith value (some (.Attribute o f pos')) pos.line X.env=pure false):PS X (.Assign [.Attribute o f pos'] value pos) (zH X.K ta tv f):=by
 intro pins s σ H D I h;refine plainObj_wpAny_Assign_Attribute (thn (hv pins s σ H _ I h) fun u s1 ⟨y,H1,I1,ry,q⟩=>thn (ha pins s1 σ H1 _ I1 q) fun ov s2 ⟨x,H2,I2,rx,a,C,dx,fs,ex,ea,c,n,l,q2⟩=>?_) hs;subst ex;obtain rfl:ov=Value.ref a:=rx;exact mQ I2 ea c n l ry fun s3 I3=>⟨σ,_,I3,q2⟩
end
section
variable {c:Value}{b:Bool}
end
structure RoomG (b:Bool)(k:Nat)(A:Around):Prop where
 hd:b=true->A.handled=none
 dp:A.depth+3 * k+5<recursionLimit
 un:A.units+16 * k+200<cLine
 gd:A.guards=some []
abbrev jp:=RoomG true
theorem RoomG.mono {b}{k:Nat}(r:RoomG b k A)(h:j<=k):RoomG b j A:=⟨r.hd,by have:=r.dp;lia,by have:=r.un;lia,r.gd⟩
theorem RoomG.deeper {b}{k:Nat}(r:RoomG b (k+1) A)(env:Env):RoomG b k (A.deeper env):=
 ⟨r.hd,by have:=r.dp;show A.depth+1+3 * k+5<_;lia,by have:=r.un;show A.units+3+16 * k+200<_;lia,r.gd⟩
theorem nc {us}:(A.under (.builtin "type.__call__" ⟨.ref C::us,kw⟩)).depth=A.depth+1:=by
 first|rfl|simp[Around.under,Code.weight,Code.isCreation,Code.isGuard,Code.isCaller,Code.frames,isFrame,guardIds]
theorem m_ {us}:(A.under (.builtin "type.__call__" ⟨.ref C::us,kw⟩)).units=A.units+1:=by
 first|rfl|simp[Around.under,cUnits,Code.frames,isFrame]
theorem kU {us}:(A.under (.builtin "type.__call__" ⟨.ref C::us,kw⟩)).guards=A.guards:=by
 first|rfl|simp[Around.under,cUnits,Code.frames,isFrame]
theorem RoomG.make {k:Nat}(r:jp (k+1) A)(C:Addr)(us:List Value)(kw:List (Str×Value)):jp k (A.under (.builtin "type.__call__" ⟨.ref C::us,kw⟩)):=
 ⟨r.hd,by have:=r.dp;rw[nc];lia,by have:=r.un;rw[m_];lia,by rw[kU];exact r.gd⟩
theorem RoomG.depth {b}{k:Nat}(r:RoomG b k A):A.depth<recursionLimit:=by have:=r.dp;lia
theorem RoomG.units {b}{k:Nat}(r:RoomG b k A):A.units+64<cLine:=by have:=r.un;lia
theorem RoomG.units0 {b}{k:Nat}(r:RoomG b k A):A.units<cLine:=by have:=r.un;lia
def qF:TA:=fun _ H Q=>Q [] H
def cN (ta:TE)(tr:TA):TA:=fun σ H Q=>ta σ H fun x H1=>tr σ H1 fun xs H2=>Q (x::xs) H2
section
variable {t:TA}
theorem ck:PA X [] qF:=fun _ _ _ _ H Q I h=>Calls.spliced_nil ⟨[],H,I,.nil,h⟩
theorem kJ (ha:PE X e te)(hr:PA X es t)(hs:starEach (e::es) X.env=(false,eval e X.env)::starEach es X.env:=by rfl):PA X (e::es) (cN te t):=by
 intro pos pins s σ H Q I h;rw[hs];show wpAny _ _ (spliced ((false,eval e X.env)::backTo pos (starEach es X.env))) _ _ s;refine Calls.spliced_cons (thn (ha pins s σ H _ I h) fun u s1 zz=>?_);obtain⟨x,H1,I1,r1,q1⟩:=zz;exact thn (hr pos pins s1 σ H1 _ I1 q1) fun us s2 ⟨xs,H2,I2,r2,q2⟩=>⟨x::xs,H2,I2,.cons r1 r2,q2⟩
def ye (t:TA):TE:=fun σ H Q=>t σ H fun xs H1=>xs.length<=sizeLine/\∀p,H1 p=none->Q (.ref p) (upd H1 p (.tup xs))
def yg (t:TA):TE:=fun σ H Q=>t σ H fun xs H1=>xs.length<=sizeLine/\∀p,H1 p=none->Q (.ref p) (upd H1 p (.lst xs))
theorem bR {x1}(h:PA X es t):PE X (.Tuple es x1 pos) (ye t):=by
 intro pins s σ H Q I hq;refine wpAny_Tuple_spliced (thn (h pos pins s σ H _ I hq) fun us s1 zz=>?_);obtain⟨xs,H1,I1,r,z,q⟩:=zz;refine⟨by rw[<- r.length];exact z,?_⟩;have hf:H1 s1.heap.objs.size=none:=I1.hok.fresh (aD _);refine⟨.ref s1.heap.objs.size,upd H1 s1.heap.objs.size (.tup xs),I1.laid (t':=s1.toks) (fun b u e=>af _ e) (aD _) ?_,rfl,q _ hf⟩
 exact⟨z,us,r,⟨_,aI _ rfl,rfl,_,rfl⟩,du⟩
theorem bD (h:PA X es t):PE X (.List es pos) (yg t):=by
 intro pins s σ H Q I hq;refine wpAny_List_spliced (thn (h pos pins s σ H _ I hq) fun us s1 zz=>?_);obtain⟨xs,H1,I1,r,z,q⟩:=zz;refine⟨by rw[<- r.length];exact z,?_⟩;have hf:H1 s1.heap.objs.size=none:=I1.hok.fresh (aD _);refine⟨.ref s1.heap.objs.size,upd H1 s1.heap.objs.size (.lst xs),I1.laid (t':=s1.toks) (fun b u e=>af _ e) (aD _) ?_,rfl,q _ hf⟩
 exact⟨z,us,0,r,aI _ rfl⟩
end
abbrev Sp:=List V->Hp->VK->XK->Prop
variable {sp:L2.Sp}
abbrev CXT:=List Env->Hp->Shared->XK->Value->Shared->Prop
variable {CX:L2.CXT}
structure Env0 (P:Program)(w:World)(K:Frag)(mg:Str->Option Value)(base:Heap)(A:Around)(outer:List Env)(s:Shared)(H:Hp):Prop where
 frames:A.frames=some outer
 mod:Mod K mg base
 bs:∀b o,base.get? b=some o->s.heap.get? b=some o/\H b=none
 bsz:base.objs.size<=s.heap.objs.size
 funs:s.heap.FunFrames base outer
 frf:∀b∈frs outer,H b=none
 hok:HOk P w H s.heap
 bare:AllBare s.gens
def CE (outer:List Env)(P:Program)(w:World)(H:Hp)(s:Shared)(Q:VK)(u:Value)(s':Shared):Prop:=
 Ex2 fun v H'=>An6 (s'.os=s.os) (AllBare s'.gens) (Un (frs outer) [] H H' s.heap s'.heap) (HOk P w H' s'.heap) (cb v u) (Q v H')
def CR (CX:CXT)(outer:List Env)(P:Program)(w:World)(H:Hp)(s:Shared)(Q:VK)(E:XK)(r:Result)(s':Shared):Prop:=
 match r with
 | .ok (.ret u)=>CE outer P w H s Q u s'
 | .ok _=>False
 | .error e=>CX outer H s E e s'
structure FnOkG (b:Bool)(P:Program)(w:World)(K:Frag)(mg:Str->Option Value)(base:Heap)(CX:CXT)(k:Nat)(f:Addr)(fd:FuncData)(ps:List Str)(sp:Sp):Prop where
 len:∀vs H Q E,sp vs H Q E->vs.length=ps.length
 run:∀(A:Around) (outer:List Env) (s:Shared) (H:Hp) (args:Args) (us:List Value) (vs:List V) (Q:VK) (E:XK),RoomG b k A->Env0 P w K mg base A outer s H->BindsTo s fd args (ps.zip us)->b_ vs us->sp vs H Q E ->
  codeAny (model P w) A (.call (.ref f) args) (CR CX outer P w H s Q E) s
abbrev nI:=FnOkG true
theorem Env0.make (e:Env0 P w K mg base A outer s H)(C:Addr)(us:List Value)(kw:List (Str×Value)) :
  Env0 P w K mg base (A.under (.builtin "type.__call__" ⟨.ref C::us,kw⟩)) outer s H:=⟨by first|exact e.frames|(simpa[Around.under,Code.envs,isFrame,pushEnvs] using e.frames),e.mod,e.bs,e.bsz,e.funs,e.frf,e.hok,e.bare⟩
section
theorem Inv.env0 (I:Inv X pins σ H s):Env0 X.prog X.w X.K X.mg X.base X.A X.stack s H:=
 ⟨I.ok.frames,I.ok.mod,I.bs,Nat.le_trans I.ok.bsz I.sz,I.stack,I.stkFree,I.hok,I.bare⟩
theorem Inv.after {Q}(I:Inv X pins σ H s)(h:CE X.stack X.prog X.w H s Q u s'):EP X pins σ Q u s':=by
 obtain⟨v,H',os,bare,un,hok,r,q⟩:=h;obtain⟨hh,g,d,t,os'⟩:=s';obtain rfl:os'=s.os:=os;exact⟨v,H',I.call (h':=hh) (g':=g) (d':=d) (t':=t) (ch:=[]) un hok bare (fun b z=>aY z (by simp)),r,q⟩
end
def n5 (sp:Sp)(dvs:List V)(E:XK)(t:TA):TE:=fun σ H Q=>t σ H fun vs H1=>sp (vs++dvs) H1 Q E
def kn (C:Addr)(m:Str)(sp:Sp)(dvs:List V)(E:XK)(ta:TE)(t:TA):TE:=fun σ H Q=>ta σ H fun x H1=>Ex3 fun a dx fs=>An4 (x=.ref a) (H1 a=some (.ins C dx fs)) (fs.lookup m=none) (t σ H1 fun vs H2=>sp (x::(vs++dvs)) H2 Q E)
def vv (C:Addr)(sp:Sp)(dvs:List V)(E:XK)(t:TA):TE:=fun σ H Q=>t σ H fun vs H1=>∀x dx,H1 x=none->H1 dx=none->dx≠x ->
 sp (.ref x::(vs++dvs)) (upd (upd H1 dx (.own x)) x (.ins C dx [])) (fun v H2=>v=.non/\Q (.ref x) H2) E
def eS (K:Frag)(fd:FuncData)(ps:List Str)(ds:List Value):Prop:=
 ∀(s:Shared) (us:List Value),K.In s.heap->(us++ds).length=ps.length->BindsTo s fd ⟨us,[]⟩ (ps.zip (us++ds))
theorem eS.all (h:∀us:List Value,us.length=ps.length->bindArgs fd ⟨us,[]⟩=pure (ps.zip us)):eS K fd ps []:=fun s us _ hl=>by
 rw[cH] at hl ⊢;exact .of_eq (h us hl)
def ei (CX:CXT)(X:Cx)(E:XK):Prop:=∀(pins:List (Addr×Obj)) (σ:St) (H:Hp) (s:Shared) (e:Value) (s':Shared),Inv X pins σ H s->CX X.stack H s E e s'->X.xe e s'
section
variable {k:Nat}{ds:List Value}{E:XK}{o:Expr}{t:TA}
theorem ot {b Q us vs}(F:FnOkG b X.prog X.w X.K X.mg X.base CX k f fd ps sp)(hr:RoomG b k X.A)(hb:eS X.K fd ps ds)(hd:b_ dvs ds)(hx:ei CX X E)
  (I:Inv X pins σ H s) (r:b_ vs us) (h:sp (vs++dvs) H Q E):wpAny (model X.prog X.w) X.A (call (.ref f) us) (EP X pins σ Q) X.xe s:=by
 have r2:b_ (vs++dvs) (us++ds):=r.append hd;have hl:(us++ds).length=ps.length:=by rw[<- r2.length];exact F.len _ _ _ _ h
 refine wpAny_call (codeAny_mono (F.run X.A X.stack s H ⟨us,[]⟩ (us++ds) (vs++dvs) Q E hr I.env0 (hb s us I.kIn hl) r2 h) fun r s' hq=>?_);cases r with
 | error e=>exact hx pins σ H s e s' I hq
 | ok fl=>
  cases fl with
  | ret u=>exact I.after hq
  | next=>exact False.elim hq
  | brk=>exact False.elim hq
  | cont=>exact False.elim hq
theorem kF {b}(F:FnOkG b X.prog X.w X.K X.mg X.base CX k f fd ps sp)(hr:RoomG b k X.A)(hg:Gl X x)(hm:X.mg x=some (.ref f))(hk:keepIn X.K (.ref f)=true)(hb:eS X.K fd ps ds)(hd:b_ dvs ds)(hx:ei CX X E)
  (ha:PA X (e::es) t) (hdb:(x==("__debug__" : Str))=false:=by decide) (he:starEach (e::es) X.env=(false,eval e X.env)::starEach es X.env:=by rfl) (hpl:(backTo pos (starEach es X.env)).any (·.1)=false:=by rfl) :
  PE X (.Call (.Name x p) (e::es) [] pos) (n5 sp dvs E t):=by
 intro pins s σ H Q I h;refine wpAny_Call_Name_kw (fA I hg hm ?_ hdb);refine callWith_K (h₀:=X.base) I.ok.mod.kin hk (thn (ha pos pins s σ H _ I h) fun us s1 ⟨vs,H1,I1,r,q⟩=>⟨I1.kIn,?_⟩) he hpl;exact ot F hr hb hd hx I1 r q
theorem kE (he:PE X o ta)(c:Cls X.K C)(hm:Meth X.K C m f)(F:nI X.prog X.w X.K X.mg X.base CX k f fd ps sp)(hr:jp k X.A)(hb:eS X.K fd ps ds)(hd:b_ dvs ds)(hx:ei CX X E)(ha:PA X (e::es) t)
  (hst:starEach (e::es) X.env=(false,eval e X.env)::starEach es X.env:=by rfl) (hpl:(backTo pos (starEach es X.env)).any (·.1)=false:=by rfl)
  (ht:eval (.Call (.Attribute o m apos) (e::es) [] pos) X.env=(do
   let ov <- eval o X.env
   standAt apos.atName
   let(f,first) <- holding [ov] (getMethod ov m pl)
   callWith pos f first (backTo pos (starEach (e::es) X.env)) (backToKw pos (keywordEach [] X.env))):=by rfl) :
  PE X (.Call (.Attribute o m apos) (e::es) [] pos) (kn C m sp dvs E ta t):=by
 intro pins s σ H Q I h;refine methodCall_KW (pl:=pl) (thn (he pins s σ H _ I h) fun u s1 ⟨x,H1,I1,rx,a,dx,fs,ex,ea,l,q⟩=>?_) ht;subst ex;obtain rfl:u=Value.ref a:=rx;refine iG I1 ea c hm l ?_;refine callWith_K (first:=[.ref a]) (h₀:=X.base) I.ok.mod.kin hm.kp (thn (ha pos pins s1 σ H1 _ I1 q) fun us s2 ⟨vs,H2,I2,r,q2⟩=>⟨I2.kIn,?_⟩) hst hpl
 exact ot (us:=.ref a::us) (vs:=.ref a::vs) F hr hb hd hx I2 (.cons rfl r) q2
theorem qX (he:PE X o ta)(c:Cls X.K C)(hm:Meth X.K C m f)(F:nI X.prog X.w X.K X.mg X.base CX k f fd ps sp)(hr:jp k X.A)(hb:eS X.K fd ps ds)(hd:b_ dvs ds)(hx:ei CX X E)
  (ht:eval (.Call (.Attribute o m apos) [] [] pos) X.env=(do
   let ov <- eval o X.env
   standAt apos.atName
   let(f,first) <- holding [ov] (getMethod ov m pl)
   callWith pos f first (backTo pos (starEach [] X.env)) (backToKw pos (keywordEach [] X.env))):=by rfl) :
  PE X (.Call (.Attribute o m apos) [] [] pos) (kn C m sp dvs E ta qF):=by
 intro pins s σ H Q I h;refine methodCall_KW (pl:=pl) (thn (he pins s σ H _ I h) fun u s1 ⟨x,H1,I1,rx,a,dx,fs,ex,ea,l,q⟩=>?_) ht;subst ex;obtain rfl:u=Value.ref a:=rx;refine iG I1 ea c hm l ?_;exact PySem.W.callWith_K0 (first:=[.ref a]) I1.kIn hm.kp (ot (us:=[.ref a]) (vs:=[.ref a]) F hr hb hd hx I1 (.cons rfl .nil) q)
structure Mk (K:Frag)(C f:Addr):Prop where
 makes:makesIn K C=true
 init:findIn K (.ref C) "__init__" = some (some (.ref f))
 fn:isFn K (.ref f)=true
 kp:keepIn K (.ref C)=true
theorem qN {Q:VK}{us vs}(M:Mk X.K C f)(F:nI X.prog X.w X.K X.mg X.base CX k f fd ps sp)(hr:jp (k+1) X.A)(hb:eS X.K fd ps ds)(hd:b_ dvs ds)
  (hx:ei CX X E) (I:Inv X pins σ H s) (r:b_ vs us)
  (h:∀x dx,H x=none->H dx=none->dx≠x->sp (.ref x::(vs++dvs)) (upd (upd H dx (.own x)) x (.ins C dx [])) (fun v H2=>v=.non/\Q (.ref x) H2) E) :
  wpAny (model X.prog X.w) X.A (call (.ref C) us) (EP X pins σ Q) X.xe s:=by
 have hq:=h (s.heap.objs.size+1) s.heap.objs.size (I.hok.fresh (le_succ _)) (I.hok.fresh (aD _)) (av (lt_succ_self _));have I2:=Inv.made (C:=C) I;have r2:b_ (V.ref (s.heap.objs.size+1)::(vs++dvs)) (Value.ref (s.heap.objs.size+1)::(us++ds)):=.cons rfl (r.append hd)
 have hl:(Value.ref (s.heap.objs.size+1)::us++ds).length=ps.length:=by
  have e:=r2.length;rw[F.len _ _ _ _ hq] at e;exact e.symm
 refine wpAny_call (rG (f:=f) I.kIn M.makes M.init (beq_iff_eq.mp M.fn) (codeAny_mono (F.run _ X.stack _ _ ⟨Value.ref (s.heap.objs.size+1)::us,[]⟩ (Value.ref (s.heap.objs.size+1)::(us++ds)) _ _ E (hr.make C us [])
  (I2.env0.make C us []) (hb _ (Value.ref (s.heap.objs.size+1)::us) I2.kIn hl) r2 hq) fun r s' hq'=>?_))
 cases r with
 | error e=>exact hx pins σ _ _ e s' I2 hq'
 | ok fl=>
  cases fl with
  | ret u=>
   obtain⟨v,H',I3,rv,ev,q3⟩:=I2.after hq';subst ev;exact⟨rv,⟨V.ref (s.heap.objs.size+1),H',I3,rfl,q3⟩⟩
  | next=>exact False.elim hq'
  | brk=>exact False.elim hq'
  | cont=>exact False.elim hq'
theorem gN (M:Mk X.K C f)(F:nI X.prog X.w X.K X.mg X.base CX k f fd ps sp)(hr:jp (k+1) X.A)(hg:Gl X x)(hm:X.mg x=some (.ref C))(hb:eS X.K fd ps ds)(hd:b_ dvs ds)(hx:ei CX X E)
  (ha:PA X (e::es) t) (hdb:(x==("__debug__" : Str))=false:=by decide) (he:starEach (e::es) X.env=(false,eval e X.env)::starEach es X.env:=by rfl) (hpl:(backTo pos (starEach es X.env)).any (·.1)=false:=by rfl) :
  PE X (.Call (.Name x p) (e::es) [] pos) (vv C sp dvs E t):=by
 intro pins s σ H Q I h;refine wpAny_Call_Name_kw (fA I hg hm ?_ hdb);refine callWith_K (h₀:=X.base) I.ok.mod.kin M.kp (thn (ha pos pins s σ H _ I h) fun us s1 ⟨vs,H1,I1,r,q⟩=>⟨I1.kIn,?_⟩) he hpl;exact qN M F hr hb hd hx I1 r q
end
def PK (X:Cx)(kws:List Keyword)(t:TA):Prop:=
 ∀(pos:Pos) (pins:List (Addr×Obj)) (s:Shared) (σ:St) (H:Hp) (Q:List V->Hp->Prop),Inv X pins σ H s->t σ H Q->wpAny (model X.prog X.w) X.A (evalAll ((backToKw pos (keywordEach kws X.env)).map (·.2))) (AP X pins σ Q) X.xe s
section
variable {k:Nat}{E:XK}{kpos:Pos}{o:Expr}{kws:List Keyword}{t tk:TA}{nm:Option Str}
theorem wb:PK X [] qF:=fun _ _ _ _ H Q I h=>wpAny_evalAll_nil ⟨[],H,I,.nil,h⟩
theorem um (ha:PE X e te)(hr:PK X kws t):PK X (⟨nm,e,kpos⟩::kws) (cN te t):=by
 intro pos pins s σ H Q I h;show wpAny _ _ (evalAll ((do let v <- eval e X.env;standAt pos;pure v)::(backToKw pos (keywordEach kws X.env)).map (·.2))) _ _ s;refine wpAny_evalAll_cons (aa (thn (ha pins s σ H _ I h) fun u s1 zz=>?_));obtain⟨x,H1,I1,r1,q1⟩:=zz;refine aa (wpAny_standAt (ae ?_))
 exact thn (hr pos pins s1 σ H1 _ I1 q1) fun us s2 ⟨xs,H2,I2,r2,q2⟩=>⟨x::xs,H2,I2,.cons r1 r2,q2⟩
variable {g:List Value->List Value->List Value}
end
structure FnScope (N P:List Str)(sc:Scope):Prop where
 kind:sc.kind=.function
 co:sc.isCoroutine=false
 gen:sc.isGenerator=false
 nd:N.Nodup
 pre:N.take P.length=P
 par:∀x∈P,sc.names.lookup x=some .local\/sc.names.lookup x=some .cell
 nofree:∀y∈sc.names,y.2≠.free
theorem j7 {kindOf:Str->Option NameKind}{x}:∀{binds:List (Str×Value)} {m:Str->Option Value},(∀v,(x,v)∉binds)->bindL kindOf binds m x=m x
 | [],_,_=>rfl
 | (n,v)::r,m,h=>by
  unfold bindL;rw[j7 fun w hw=>h w (aX _ hw)];split
  ·have:x≠n:=by rintro rfl;exact h v bt
   simp[this]
  ·rfl
theorem j9 {kindOf:Str->Option NameKind}{x}:∀{binds:List (Str×Value)} {m:Str->Option Value},(∀v,(x,v)∉binds)->bindC kindOf binds m x=m x
 | [],_,_=>rfl
 | (n,v)::r,m,h=>by
  unfold bindC;rw[j9 fun w hw=>h w (aX _ hw)];split
  ·rfl
  ·have:x≠n:=by rintro rfl;exact h v bt
   simp[this]
theorem j8 {kindOf:Str->Option NameKind}{x v}:∀{P:List Str} {vs:List Value} {i:Nat} {m:Str->Option Value},P.Nodup->P[i]?=some x->vs[i]?=some v->kindOf x=some .local ->
  bindL kindOf (P.zip vs) m x=some v
 | [],_,_,_,_,h,_,_=>by simp at h
 | _::_,[],_,_,_,_,h,_=>by simp at h
 | p::P,w::vs,0,m,nd,h1,h2,hk=>by
  simp at h1 h2;subst h1;subst h2;show bindL kindOf ((p,w)::P.zip vs) m p=_;unfold bindL;rw[j7 fun v hv=>(eV.mp nd).1 (of_mem_zip hv).1,ak hk];simp
 | p::P,w::vs,i+1,m,nd,h1,h2,hk=>by
  show bindL kindOf ((p,w)::P.zip vs) m x=_;unfold bindL;exact j8 (i:=i) (eV.mp nd).2 (by simpa using h1) (by simpa using h2) hk
theorem j_ {kindOf:Str->Option NameKind}{x v}:∀{P:List Str} {vs:List Value} {i:Nat} {m:Str->Option Value},P.Nodup->P[i]?=some x->vs[i]?=some v->kindOf x≠some .local ->
  bindC kindOf (P.zip vs) m x=some v
 | [],_,_,_,_,h,_,_=>by simp at h
 | _::_,[],_,_,_,_,h,_=>by simp at h
 | p::P,w::vs,0,m,nd,h1,h2,hk=>by
  simp at h1 h2;subst h1;subst h2;show bindC kindOf ((p,w)::P.zip vs) m p=_;unfold bindC;rw[j9 fun v hv=>(eV.mp nd).1 (of_mem_zip hv).1,ah hk];simp
 | p::P,w::vs,i+1,m,nd,h1,h2,hk=>by
  show bindC kindOf ((p,w)::P.zip vs) m x=_;unfold bindC;exact j_ (i:=i) (eV.mp nd).2 (by simpa using h1) (by simpa using h2) hk
def start (N:List Str)(vs:List V):St:=vs.map some++replicate (N.length - vs.length) none
def ir (b:Bool)(CX:CXT)(P:Program)(w:World)(K:Frag)(mg:Str->Option Value)(base:Heap)(N:List Str)(qual:Str)(scope:Scope)(f:Addr)(cd:Value)(A:Around)(outer:List Env)(s:Shared)(H:Hp)(E:XK):Cx where
 prog:=P
 w:=w
 K:=K
 mg:=mg
 base:=base
 A:=A.deeper (envOfC qual scope s.heap.objs.size f cd)
 N:=N
 s₀:=s
 H₀:=H
 env:=envOfC qual scope s.heap.objs.size f cd
 outer:=outer
 stack:=envOfC qual scope s.heap.objs.size f cd::outer
 ex:=[]
 calm:=b
 fn:=fun _=>true
 pn:=[]
 xe:=fun e s'=>wpAny (model P w) (A.deeper (envOfC qual scope s.heap.objs.size f cd)) (leaving (envOfC qual scope s.heap.objs.size f cd) e) (fun _ s''=>CX outer H s E e s'') (fun e' s''=>CX outer H s E e' s'') s'
abbrev xU:=ir true
theorem mH (h:sc.names.lookup x=some .cell):∃c,(cellsFrom n sc.names []).lookup x=some c:=by
 have q:=PySem.W.cellsFrom_some sc.names n [] (.inl h);exact Option.isSome_iff_exists.mp q
theorem pV {N cd}{s1:Shared}{E us}{vs:List V}
  (S:FnScope N ps scope) (hd:bb=true->A.handled=none) (e0:Env0 P w K mg base A outer s H) (hl:vs.length=ps.length) (r:b_ vs us)
  (x:InCallC s s.heap.objs.size (bindL (envOfC qual scope s.heap.objs.size f cd).kindOf (ps.zip us) fun _=>none) (cellsFrom (s.heap.objs.size+1) scope.names []) (bindC (envOfC qual scope s.heap.objs.size f cd).kindOf (ps.zip us) fun _=>none) s1) :
  Inv (ir bb CX P w K mg base N qual scope f cd A outer s H E) [] (start N vs) H s1:=by
 have hpl:ps.length<=N.length:=by have:=bL List.length S.pre;rw[aF] at this;lia
 obtain⟨h1,tk,rfl,hk⟩:=x.done;have noA:∀b:Addr,b∉(ir bb CX P w K mg base N qual scope f cd A outer s H E).ex:=fun b z=>aY (show b∈([]:List Addr) from z) (by simp)
 refine⟨⟨e0.mod,S.kind,rfl,rfl,aD _,fun y z c h1 h2=>?_,fun y hy=>?_,fun y c _ h=>?_,hd,Around.frames_deeper e0.frames,.inr ⟨rfl,rfl⟩,fun b z=>aY z (noA b),e0.bs,e0.bsz,fun b _ _=>noA b,fun b z=>aY z (noA b),e0.funs,e0.frf⟩,
  rfl,e0.bare,Un.kept hk,⟨_,x.toInCall.ns,fun i y v h1 h2 h3=>?_⟩,fun y c h=>⟨_,x.cell y c h⟩,e0.hok.fresh (aD _),fun y c h=>?_,fun p hp=>aY (show p∈([]:List (Addr×Obj)) from hp) (by simp),e0.hok.kept hk,?_⟩
 ·exact name_of_addr x.apart (PySem.mem_of_lookup h1) (PySem.mem_of_lookup h2)
 ·have hy:scope.names.lookup y=some .cell\/scope.names.lookup y=some .free:=hy;rcases hy with hy|hy
  ·exact mH hy
  ·exact aY rfl (S.nofree _ (PySem.mem_of_lookup hy))
 ·exact cV (x.above y c (PySem.mem_of_lookup h))
 ·have hi:i<vs.length:=by
   unfold start at h2;by_cases hi:i<vs.length
   ·exact hi
   ·rw[bJ (by simpa using hi)] at h2;rw[List.getElem?_replicate] at h2;split at h2<;>cases h2
  have ha:vs[i]?=some v:=by
   unfold start at h2;rw[cy (by simpa using hi),aQ] at h2;cases e:vs[i]? with
   | none=>rw[e] at h2;cases h2
   | some a=>rw[e] at h2;cases h2;rfl
  obtain⟨u,hu,rv⟩:=r.get ha
  have hp:ps[i]?=some y:=by
   rw[<- S.pre,getElem?_take_of_lt (by lia)];exact h1
  have ndP:ps.Nodup:=by rw[<- S.pre];exact S.nd.sublist (take_sublist _ _)
  refine⟨u,rv,?_⟩;rcases S.par y (bV hp) with k|k
  ·exact .inl ⟨k,j8 ndP hp hu k⟩
  ·obtain⟨c,e⟩:=mH (n:=s.heap.objs.size+1) k;refine .inr ⟨.inl k,c,e,?_⟩;have q:=x.cell y c e;rw[j_ ndP hp hu (by show scope.names.lookup y≠_;rw[k];decide)] at q;exact q
 ·exact e0.hok.fresh (cV (x.above y c (PySem.mem_of_lookup h)))
 ·unfold start;show _=N.length;rw[aB,au,length_replicate]
  lia
theorem uV {k:Nat}{params:Arguments}{dV kV ct N}(lk:K.lookup f=some ⟨oc,od,.func (fnOf name qual params body scope dV kV doc pm an cdv ct),osl⟩)(hcd:codeIn K cdv qual=true)(S:FnScope N ps scope)
  (len:∀vs H Q E,sp vs H Q E->vs.length=ps.length)
  (hbody:∀(A:Around) (outer:List Env) (s:Shared) (H:Hp) (vs:List V) (Q:VK) (E:XK),RoomG bb k (A.deeper (envOfC qual scope s.heap.objs.size f cdv))->sp vs H Q E ->
   ∃t,PSs (ir bb CX P w K mg base N qual scope f cdv A outer s H E) body t/\t { nx:=fun _ H'=>Q .non H',rt:=Q } (start N vs) H) :
  FnOkG bb P w K mg base CX (k+1) f (fnOf name qual params body scope dV kV doc pm an cdv ct) ps sp:=by
 refine⟨len,fun A outer s H args us vs Q E hr e0 hb r hsp=>?_⟩;have hl:=len _ _ _ _ hsp;have KX:K.In s.heap:=e0.mod.kin.keeps fun b o e=>(e0.bs b o e).1;have lim:s.heap.NoLimit:=e0.mod.nolimit.keeps fun b o e=>(e0.bs b o e).1
 have hkind:∀y∈ps.zip us,scope.names.lookup y.1=some .local\/(scope.names.lookup y.1=some .cell/\((cellsFrom (s.heap.objs.size+1) scope.names []).lookup y.1).isSome=true):=fun⟨n,v⟩ hy=>by
  rcases S.par n (of_mem_zip hy).1 with q|q
  ·exact .inl q
  ·exact .inr ⟨q,PySem.W.cellsFrom_some _ _ _ (.inl q)⟩
 refine codeAny_call_function hr.depth (KX _ _ lk) rfl S.co S.gen rfl (PySem.W.codeRec_of KX hcd) (hb _ _ _ _ ?_);refine wpAny_newFunctionEnv_cells S.kind hkind fun env he s1 x=>?_;subst he;refine⟨lim.keeps x.toInCall.keep,codeAny_func ?_⟩;obtain⟨t,ht,hq⟩:=hbody A outer s H vs Q E (hr.deeper _) hsp
 have I:Inv (ir bb CX P w K mg base N qual scope f cdv A outer s H E) [] (start N vs) H s1:=pV S hr.hd e0 hl r x;refine bn (ht [] s1 (start N vs) H _ I hq) (fun fl s' hs=>?_) fun e s' hs=>hs
 have fin:∀{σ':St} {H':Hp} {v:V} {u:Value},Inv (ir bb CX P w K mg base N qual scope f cdv A outer s H E) [] σ' H' s'->cb v u->Q v H'->CE outer P w H s Q u s':=
  fun {σ' H' v u} J rv q=>⟨v,H',J.os,J.bare,J.base,J.hok,rv,q⟩
 cases fl with
 | ret u=>
  obtain⟨v,σ',H',J,rv,q⟩:=hs;exact fin J rv q
 | next=>
  obtain⟨σ',H',J,q⟩:=hs;exact fin (v:=V.non) (u:=Value.none) J rfl q
 | brk=>
  obtain⟨_,_,_,q⟩:=hs;exact False.elim q
 | cont=>
  obtain⟨_,_,_,q⟩:=hs;exact False.elim q
section
variable {t:TA}{id T:String}{r:List V->Hp->VK->Prop}
def tCB (r:List V->Hp->VK->Prop)(t:TA):TE:=fun σ H Q=>t σ H fun vs H1=>r vs H1 Q
theorem aN (hc:fe X (.builtin id) r)(hg:Gl X x)(hm:X.mg x=none)(hv:bootBuiltins x=some (.builtin id))(ha:PA X (e::es) t)(hn:x ≠ "__name__":=by decide)(hdb:(x==("__debug__" : Str))=false:=by decide)
  (he:starEach (e::es) X.env=(false,eval e X.env)::starEach es X.env:=by rfl) (hpl:(backTo pos (starEach es X.env)).any (·.1)=false:=by rfl):PE X (.Call (.Name x p) (e::es) [] pos) (tCB r t):=by
 intro pins s σ H Q I h;refine wpAny_Call_Name_kw (gv I hg hm hv ?_ hn hdb);exact callWith_builtin1 (thn (ha pos pins s σ H _ I h) fun us s1 zz=>by obtain⟨vs,H1,I1,r1,q1⟩:=zz;exact hc pins s1 σ H1 vs us Q I1 r1 q1) he hpl
theorem cQ (hc:fe X (.type T) r)(hg:Gl X x)(hm:X.mg x=none)(hv:bootBuiltins x=some (.type T))(ha:PA X (e::es) t)(hn:x ≠ "__name__":=by decide)(hdb:(x==("__debug__" : Str))=false:=by decide)
  (he:starEach (e::es) X.env=(false,eval e X.env)::starEach es X.env:=by rfl) (hpl:(backTo pos (starEach es X.env)).any (·.1)=false:=by rfl):PE X (.Call (.Name x p) (e::es) [] pos) (tCB r t):=by
 intro pins s σ H Q I h;refine wpAny_Call_Name_kw (gv I hg hm hv ?_ hn hdb);exact PyProof.Rows.callWith_type1 (thn (ha pos pins s σ H _ I h) fun us s1 zz=>by obtain⟨vs,H1,I1,r1,q1⟩:=zz;exact hc pins s1 σ H1 vs us Q I1 r1 q1) he hpl
end
section
variable {κ:Type}[DecidableEq κ]
def ik (kvs:List (κ×V))(k:κ):Option V:=(kvs.find? fun kv=>decide (kv.1=k)).map (·.2)
def iR (kvs:List (κ×V))(k:κ)(v:V):List (κ×V):=
 if (kvs.any fun kv=>decide (kv.1=k))=true then kvs.map (fun kv=>if kv.1=k then (kv.1,v) else kv) else kvs++[(k,v)]
def jV (kvs:List (κ×V))(k:κ):List (κ×V):=kvs.filter fun kv=>decide (kv.1≠k)
theorem iM {p:κ×V}{r:List (κ×V)}{k:κ}(e:p.1=k):ik (p::r) k=some p.2:=by simp[ik,find?_cons,e]
theorem dH {p:κ×V}{r:List (κ×V)}{k:κ}(e:¬p.1=k):ik (p::r) k=ik r k:=by simp[ik,find?_cons,e]
theorem lH (k:κ):∀kvs:List (κ×V),(kvs.any fun kv=>decide (kv.1=k))=(ik kvs k).isSome
 | []=>rfl
 | p::r=>by
  rw[any_cons];by_cases e:p.1=k
  ·simp only[iM e,aq e,Bool.true_or,Option.isSome_some]
  ·rw[dH e,aM e,Bool.false_or];exact lH k r
theorem fz (kvs:List (κ×V))(k:κ)(v:V):(iR kvs k v).length<=kvs.length+1:=by
 unfold iR;split
 ·rw[au];lia
 ·rw[aB,aR,bC];lia
theorem ij.isSome_eq {o:Option V}{u:Option Value}(r:ij o u):o.isSome=u.isSome:=by
 cases o with
 | none=>cases u with
  | none=>rfl
  | some _=>exact(show False from r).elim
 | some _=>cases u with
  | none=>exact(show False from r).elim
  | some _=>rfl
theorem ij.getD {o:Option V}{u:Option Value}{d d'}(r:ij o u)(rd:cb d d'):cb (o.getD d) (u.getD d'):=by
 cases o with
 | none=>cases u with
  | none=>exact rd
  | some _=>exact(show False from r).elim
 | some _=>cases u with
  | none=>exact(show False from r).elim
  | some _=>exact r
theorem KV.val {kvs:List (κ×V)}{vs:List (κ×Value)}(r:KV kvs vs)(k:κ):ij (ik kvs k) (valueAt vs k):=by
 unfold KV at r
 induction r with
 | nil=>exact True.intro
 | @cons p q ps qs h t ih=>
  obtain⟨h1,h2⟩:=h;by_cases e:p.1=k
  ·have e':q.1=k:=h1.symm.trans e;have b:valueAt (q::qs) k=some q.2:=by simp[valueAt,find?_cons,e']
   rw[iM e,b];exact h2
  ·have e':¬q.1=k:=fun z=>e (h1.trans z);have b:valueAt (q::qs) k=valueAt qs k:=by simp[valueAt,find?_cons,e']
   rw[dH e,b];exact ih
theorem KV.any {kvs:List (κ×V)}{vs:List (κ×Value)}(r:KV kvs vs)(k:κ):(kvs.any fun kv=>decide (kv.1=k))=vs.any fun kv=>decide (kv.1=k):=by
 unfold KV at r
 induction r with
 | nil=>rfl
 | cons h t ih=>rw[any_cons,any_cons,ih,h.1]
theorem KV.repl {kvs:List (κ×V)}{vs:List (κ×Value)}(r:KV kvs vs)(k:κ)(ry:cb y u) :
  KV (kvs.map fun kv=>if kv.1=k then (kv.1,y) else kv) (vs.map fun kv=>if kv.1=k then (kv.1,u) else kv):=by
 unfold KV at r ⊢
 induction r with
 | nil=>exact .nil
 | @cons p q ps qs h t ih=>
  rw[bX,bX];refine .cons ?_ ih;obtain⟨h1,h2⟩:=h;by_cases e:p.1=k
  ·rw[ak e,ak (h1.symm.trans e)];exact⟨h1,ry⟩
  ·rw[ah e,ah (fun z=>e (h1.trans z))];exact⟨h1,h2⟩
theorem KV.put {kvs:List (κ×V)}{vs:List (κ×Value)}(r:KV kvs vs)(k:κ)(ry:cb y u):KV (iR kvs k y) (stored vs k u):=by
 unfold iR stored;rw[r.any k];by_cases e:(vs.any fun kv=>decide (kv.1=k))=true
 ·rw[ak e,ak e];exact r.repl k ry
 ·rw[ah e,ah e];exact Paired.snoc r ⟨rfl,ry⟩
theorem KV.drop {kvs:List (κ×V)}{vs:List (κ×Value)}(r:KV kvs vs)(k:κ):KV (jV kvs k) (without vs k):=by
 unfold KV at r ⊢;unfold jV without
 induction r with
 | nil=>exact .nil
 | @cons p q ps qs h t ih=>
  obtain⟨h1,h2⟩:=h;rw[filter_cons,filter_cons];by_cases e:p.1=k
  ·have a:¬decide (p.1≠k)=true:=by simp[e]
   have b:¬decide (q.1≠k)=true:=by simp[h1.symm.trans e]
   rw[ah a,ah b];exact ih
  ·have e':¬q.1=k:=fun z=>e (h1.trans z);have a:decide (p.1≠k)=true:=by simp[e]
   have b:decide (q.1≠k)=true:=by simp[e']
   rw[ak a,ak b];exact .cons ⟨h1,h2⟩ ih
theorem KV.keys {kvs:List (κ×V)}{vs:List (κ×Value)}(r:KV kvs vs):kvs.map (·.1)=vs.map (·.1):=by
 unfold KV at r
 induction r with
 | nil=>rfl
 | cons h t ih=>rw[bX,bX,ih,h.1]
theorem KV.length {kvs:List (κ×V)}{vs:List (κ×Value)}(r:KV kvs vs):kvs.length=vs.length:=Paired.length r
theorem si (kvs:List (κ×V))(k:κ):(jV kvs k).length<=kvs.length:=eA _ _
end
theorem je {k}(r:cb (kV k) u):(bK P w).is k u=true:=by
 cases k with
 | inl i=>obtain⟨t,e⟩:=(show ∃t,u=Value.int i t from r);subst e;exact kR P w i t
 | inr x=>obtain⟨t,e⟩:=(show ∃t,u=Value.str x t from r);subst e;exact kQ P w x t
theorem jS {P:Program}{w:World}:∀{ks:List Key} {us:List Value},b_ (ks.map kV) us->ItemsAre (bK P w) ks us
 | [],_,r=>by rw[map_nil] at r;cases r;exact .nil
 | k::ks,_,r=>by
  rw[bX] at r;cases r with
  | cons h t=>exact .cons (je h) (jS t)
abbrev KT (H:Hp):List (List Key×V)->List (List Key×Addr×Value)->Prop:=Paired fun p q=>p.1=q.1/\H q.2.1=some (.tup (p.1.map kV))/\cb p.2 q.2.2
theorem KT.val {kvs:List (List Key×V)}{xs:List (List Key×Addr×Value)}(r:KT H kvs xs)(k:List Key):ij (ik kvs k) ((atKey xs k).map (·.2)):=by
 induction r with
 | nil=>exact True.intro
 | @cons p q ps qs h t ih=>
  obtain⟨h1,_,h2⟩:=h;by_cases e:p.1=k
  ·have e':q.1=k:=h1.symm.trans e;have b:atKey (q::qs) k=some q.2:=by simp[atKey,find?_cons,e']
   rw[iM e,b];exact h2
  ·have e':¬q.1=k:=fun z=>e (h1.trans z);have b:atKey (q::qs) k=atKey qs k:=by simp[atKey,find?_cons,e']
   rw[dH e,b];exact ih
theorem KT.repl {kvs:List (List Key×V)}{xs:List (List Key×Addr×Value)}(r:KT H kvs xs)(k:List Key)(ry:cb y u) :
  KT H (kvs.map fun kv=>if kv.1=k then (kv.1,y) else kv) (xs.map (putAt k u)):=by
 induction r with
 | nil=>exact .nil
 | @cons p q ps qs h t ih=>
  rw[bX,bX];refine .cons ?_ ih;obtain⟨h1,h2,h3⟩:=h;unfold putAt;by_cases e:p.1=k
  ·rw[ak e,ak (h1.symm.trans e)];exact⟨h1,h2,ry⟩
  ·rw[ah e,ah (fun z=>e (h1.trans z))];exact⟨h1,h2,h3⟩
theorem KT.put {kvs:List (List Key×V)}{xs:List (List Key×Addr×Value)}(r:KT H kvs xs)(k:List Key)(hb:H b=some (.tup (k.map kV)))(ry:cb y u) :
  KT H (iR kvs k y) (storedH xs k b u):=by
 have e:(kvs.any fun kv=>decide (kv.1=k))=(atKey xs k).isSome:=by
  rw[lH,(r.val k).isSome_eq,Option.isSome_map]
 unfold iR storedH;rw[e];by_cases q:(atKey xs k).isSome=true
 ·rw[ak q,ak q];exact r.repl k ry
 ·rw[ah q,ah q];exact Paired.snoc r ⟨rfl,hb,ry⟩
theorem KT.keeps {kvs:List (List Key×V)}{xs:List (List Key×Addr×Value)}(r:KT H kvs xs)(ht:∀b ys,H b=some (.tup ys)->H' b=some (.tup ys)):KT H' kvs xs:=
 Paired.mapP r fun _ _ z=>⟨z.1,ht _ _ z.2.1,z.2.2⟩
section
theorem vL {u}(ok:HOk P w H h)(e:Rd H a u):bI P w H h a u:=e.ok ok
theorem jW (ok:HOk P w H h)(e:Rd H a (.dK kvs)):An3 (kvs.length<=sizeLine) ((a==sysModules)=false) (∃vs,KV kvs vs/\h.DictOf (bK P w) a vs):=
 show bI P w H h a (.dK kvs) from vL ok e
theorem qj (ok:HOk P w H h)(e:H a=some (.dK kvs)):An3 (kvs.length<=sizeLine) ((a==sysModules)=false) (∃vs,KV kvs vs/\h.DictOf (bK P w) a vs):=jW ok (.inl e)
theorem key_of {ks:List Key}(ok:HOk P w H h)(e:H a=some (.tup (ks.map kV))):(tupleKind (bK P w)).is h ks a:=by
 obtain⟨_,its,r,⟨o,h1,h2,n,h3⟩,_⟩:=(show bI P w H h a (.tup (ks.map kV)) from ok a _ e);exact⟨o,its.toArray,n,h1,h2,h3,by simpa using jS r⟩
theorem nq {kvs:List (List Key×V)}(ok:HOk P w H h)(e:Rd H a (.dT kvs)):An3 (kvs.length<=sizeLine) ((a==sysModules)=false) (∃xs,KT H kvs xs/\h.DictOfH (tupleKind (bK P w)) a xs):=by
 obtain⟨z,y,xs,r,o,es,ep,h1,h2,h3,h4,h5⟩:=(show bI P w H h a (.dT kvs) from vL ok e);refine⟨z,y,xs,r,o,es,ep,h1,h2,h3,h4,fun x hx=>?_,h5⟩
 have all:∀{l:List (List Key×V)} {m:List (List Key×Addr×Value)},KT H l m->∀x∈m,(tupleKind (bK P w)).is h x.1 x.2.1:=by
  intro l m q
  induction q with
  | nil=>intro x hx;exact nomatch hx
  | @cons p q ps qs hq t ih=>
   intro x hx;rcases aV.mp hx with e|hx
   ·subst e;exact key_of ok (by rw[<- hq.1];exact hq.2.1)
   ·exact ih x hx
 exact all r x hx
theorem ze {kvs:List (List Key×V)}(ok:HOk P w H h)(e:H a=some (.dT kvs)):An3 (kvs.length<=sizeLine) ((a==sysModules)=false) (∃xs,KT H kvs xs/\h.DictOfH (tupleKind (bK P w)) a xs):=nq ok (.inl e)
end
def ju (H:Hp)(a:Addr)(y:V)(r:Option V):Prop:=
 (Ex2 fun kvs k=>An3 (Rd H a (.dK kvs)) (y=kV k) (r=ik kvs k))\/Ex3 fun kvs k b=>An4 (Rd H a (.dT kvs)) (y=.ref b) (H b=some (.tup (k.map kV))) (r=ik kvs k)
def vi (H:Hp)(a:Addr)(y v:V)(H':Hp):Prop:=
 (Ex2 fun kvs k=>An4 (H a=some (.dK kvs)) (y=kV k) (kvs.length<sizeLine) (H'=upd H a (.dK (iR kvs k v)))) \/
 Ex3 fun kvs k b=>An5 (H a=some (.dT kvs)) (y=.ref b) (H b=some (.tup (k.map kV))) (kvs.length<sizeLine) (H'=upd H a (.dT (iR kvs k v)))
theorem ju.k {k}(e:H a=some (.dK kvs)):ju H a (kV k) (ik kvs k):=.inl ⟨kvs,k,.inl e,rfl,rfl⟩
theorem vi.k {k}(e:H a=some (.dK kvs))(hl:kvs.length<sizeLine):vi H a (kV k) v (upd H a (.dK (iR kvs k v))):=.inl ⟨kvs,k,e,rfl,hl,rfl⟩
section
variable {r:Value}{o:Option V}
theorem Inv.big (I:Inv X pins σ H s):sysModules<s.heap.objs.size:=by
 have h:mainGlobals<s.heap.objs.size:=(I.mod.glob.keeps I.bk).lt;exact Nat.lt_trans (by decide) h
theorem qq (hu:A.units+1<cLine)(I:Inv X pins σ H s)(g:ju H a y (some v))(ry:cb y u)(h:∀w' s',Inv X pins σ H s'->cb v w'->Q w' s') :
  wpAny (model X.prog X.w) A (getItem (.ref a) u) Q E s:=by
 rcases g with⟨kvs,k,e,ey,l⟩|⟨kvs,k,b,e,ey,eb,l⟩
 ·subst ey;obtain⟨z,hd,vs,rel,dd⟩:=jW I.hok e;obtain⟨w',hw,rw'⟩:=ij.some_of (v:=v) (o:=valueAt vs k) (by rw[l];exact rel.val k);exact wpAny_getItem_of (je ry) dd.mapOf hw (h w' _ (I.tok _) rw')
 ·subst ey;cases(show u=Value.ref b from ry);obtain⟨z,hd,xs,rel,dd⟩:=nq I.hok e;obtain⟨w',hw,rw'⟩:=ij.some_of (v:=v) (o:=(atKey xs k).map (·.2)) (by rw[l];exact rel.val k);obtain⟨p,hp,hp2⟩:=dF.mp hw;refine wpAny_getItem_heap (tupleKind_room_in1 hu) (key_of I.hok eb) dd hp ?_;rw[hp2];exact h w' _ (I.tok _) rw'
theorem jj {t':Nat}{ob}(I:Inv X pins σ H s)(mu:Mut (H a))(hs:Heap.SameBut a s.heap h')(he:∃q,h'.get? a=some q)(new:bI X.prog X.w (upd H a ob) h' a ob) :
  Inv X pins σ (upd H a ob) { s with heap:=h',toks:=t' }:=
 I.write (x:=a) (e:=a) mu (.inl rfl) (fun b q hb z=>(hs.2 b hb).trans z) he new
theorem qk {vs:List (Key×Value)}(z:kvs.length<=sizeLine)(hd:(a==sysModules)=false)(rel:KV kvs vs)(dd:h'.DictOf (bK P w) a vs) :
  bI P w H' h' a (.dK kvs):=⟨z,hd,vs,rel,dd⟩
theorem qp {Q:Unit->Shared->Prop}(hu:A.units+1<cLine)(I:Inv X pins σ H s)(g:vi H a y v H')(ry:cb y u)(rv:cb v r)(h:∀s',Inv X pins σ H' s'->Q () s') :
  wpAny (model X.prog X.w) A (setItem (.ref a) u r) Q E s:=by
 rcases g with⟨kvs,k,e,ey,l,eH⟩|⟨kvs,k,b,e,ey,eb,l,eH⟩
 ·subst ey eH;obtain⟨z,hd,vs,rel,dd⟩:=qj I.hok e;have hz:vs.length<=sizeLine:=by rw[<- rel.length];exact z
  have hl:(iR kvs k v).length<=sizeLine:=by have:=fz kvs k v;lia
  refine wpAny_setItem_pairs (hsz:=hz) (je ry) dd fun h' dd' hs=>h _ ?_;have he:∃q,h'.get? a=some q:=let⟨q,_,_,hq,_⟩:=dd';⟨q,hq⟩;exact jj I (by rw[e];exact True.intro) hs he (qk hl hd (rel.put k rv) dd')
 ·subst ey eH;cases(show u=Value.ref b from ry);obtain⟨z,hd,xs,rel,dd⟩:=ze I.hok e;have hz:xs.length<=sizeLine:=by rw[<- Paired.length rel];exact z
  have hl:(iR kvs k v).length<=sizeLine:=by have:=fz kvs k v;lia
  refine wpAny_setItem_heap (hsz:=hz) (tupleKind_room_in1 hu) (key_of I.hok eb) dd fun h' dd' hs=>h _ ?_;obtain⟨q,es,ep,hq,h2,h3,h4,_,h5⟩:=dd';refine jj I (by rw[e];exact True.intro) hs ⟨q,hq⟩ ⟨hl,hd,_,(rel.put k eb rv).keeps fun c ys ec=>?_,q,es,ep,hq,h2,h3,h4,h5⟩;rw[aE (yT ec e (fun z=>nomatch z))];exact ec
end
section
variable {k:Key}
theorem xx {more}(I:Inv X pins σ H s)(e:H a=some (.dK kvs))(ry:cb (kV k) u)(l:ik kvs k=some v)(hm:more=[]\/∃x,more=[x])
  (h:∀w' s',Inv X pins σ (upd H a (.dK (jV kvs k))) s'->cb v w'->Q w' s'):wpAny (model X.prog X.w) A (call (.builtin "dict.pop") (.ref a::u::more)) Q E s:=by
 obtain⟨z,hd,vs,rel,dd⟩:=qj I.hok e;obtain⟨w',hw,rw'⟩:=ij.some_of (v:=v) (o:=valueAt vs k) (by rw[<- l];exact rel.val k)
 have hp:(keyPart u).isSome=true:=by
  cases k with
  | inl i=>obtain⟨t,q⟩:=(show ∃t,u=Value.int i t from ry);subst q;rfl
  | inr x=>obtain⟨t,q⟩:=(show ∃t,u=Value.str x t from ry);subst q;rfl
 have ha:argsOk "dict.pop" ⟨.ref a::u::more,[]⟩:=by
  rcases hm with q|⟨x,q⟩
  ·subst q;exact PySem.F.args_dict_pop_2 _ _
  ·subst q;exact PySem.F.args_dict_pop_3 _ _ _
 refine call_meetsIn slot_dict_pop dd.typeIs PySem.F.entry_dict_pop ha (meets_dict_pop_there (bK X.prog X.w) a (je ry) more hm hp)
  ⟨vs,w',dd,by rw[<- rel.length];exact z,hw,fun h' dd' hs=>h w' _ ?_ rw'⟩
 have he:∃q,h'.get? a=some q:=let⟨q,_,_,hq,_⟩:=dd';⟨q,hq⟩;exact jj I (by rw[e];exact True.intro) hs he (qk (Nat.le_trans (si kvs k) z) hd (rel.drop k) dd')
theorem xw {r}(I:Inv X pins σ H s)(e:H a=some (.dK kvs))(ry:cb (kV k) u)(l:ik kvs k=none)(h:∀s',Inv X pins σ H s'->Q r s') :
  wpAny (model X.prog X.w) A (call (.builtin "dict.pop") [.ref a,u,r]) Q E s:=by
 obtain⟨z,hd,vs,rel,dd⟩:=qj I.hok e;have hn:valueAt vs k=none:=ij.none_of (by rw[<- l];exact rel.val k)
 have hp:(keyPart u).isSome=true:=by
  cases k with
  | inl i=>obtain⟨t,q⟩:=(show ∃t,u=Value.int i t from ry);subst q;rfl
  | inr x=>obtain⟨t,q⟩:=(show ∃t,u=Value.str x t from ry);subst q;rfl
 exact call_meetsIn slot_dict_pop dd.typeIs PySem.F.entry_dict_pop (PySem.F.args_dict_pop_3 _ _ _) (meets_dict_pop_default (bK X.prog X.w) a (je ry) hd hp r) ⟨vs,dd,hn,h _ (I.tok _)⟩
end
def zR (i:Expr):Prop:=∀ov iv,subscripted i false ov iv=operate [ov,iv] (getItem ov iv)
theorem tZ {slice T id}
  (hl:typeLookup (.type T) "__getitem__" = pure (some (.builtin id))) (hs:zR slice)
  (h:wpAny (model prog w) A (eval value env) (fun o s₁=>wpAny (model prog w) A (eval slice env) (fun i s₂=>s₂.TypeIs o T/\wpAny (model prog w) A (getItem o i) Q E s₂) E s₁) E s) :
  wpAny (model prog w) A (eval (.Subscript value slice pos) env) Q E s:=by
 refine Subscript_ (bn h (fun o s₁ h₁=>bn h₁ (fun i s₂ h₂=>?_) fun _ _ x=>x) fun _ _ x=>x);obtain⟨hT,h₂⟩:=h₂;unfold subscriptTail;refine aa ?_;rw[getitemInPython_of_ne hT.not_modules];refine aa (wpAny_specialOf hT hl ?_)
 have fin:wpAny (model prog w) A (subscripted slice false o i) (fun r s₃=>wpAny (model prog w) A (letTemporaryGo value o r >>= fun _=>pure r) Q E s₃) E s₂:=by
  rw[hs o i];exact wpAny_operating (bn h₂ (fun r s₃ h₃=>aa (wpAny_letTemporaryGo (ae h₃))) fun _ _ x=>x)
 first
  | exact ae (aa fin)
  | exact aa (ae (aa fin))
  | exact aa fin
theorem lq {o:Option V}(I:Inv X pins σ H s)(g:ju H a y o):s.TypeIs (.ref a) "dict":=by
 rcases g with⟨kvs,k,e,_,_⟩|⟨kvs,k,b,e,_,_,_⟩
 ·obtain⟨_,_,vs,_,dd⟩:=jW I.hok e;exact dd.typeIs
 ·obtain⟨_,_,xs,_,dd⟩:=nq I.hok e;exact dd.typeIs
def vx (td ty:TE):TE:=fun σ H Q=>td σ H fun x H1=>ty σ H1 fun y H2=>Ex2 fun a v=>An3 (x=.ref a) (ju H2 a y (some v)) (Q v H2)
def vK (td ty tv:TE):TS:=fun D σ H=>tv σ H fun v H1=>td σ H1 fun x H2=>ty σ H2 fun y H3=>Ex2 fun a H4=>An3 (x=.ref a) (vi H3 a y v H4) (D.nx σ H4)
section
variable {o i:Expr}
theorem oP (hu:X.A.units+1<cLine)(ho:PE X o td)(hi:PE X i ty)(hs:zR i):PE X (.Subscript o i pos) (vx td ty):=by
 intro pins s σ H Q I h;refine tZ PySem.F.slot_dict_getitem.lookup hs (thn (ho pins s σ H _ I h) fun u s1 zz=>?_);obtain⟨x,H1,I1,rx,q1⟩:=zz;refine thn (hi pins s1 σ H1 _ I1 q1) fun iv s2 zz=>?_;obtain⟨y,H2,I2,ry,a,v,ex,g,q2⟩:=zz;subst ex;obtain rfl:u=Value.ref a:=rx;exact⟨lq I2 g,qq hu I2 g ry fun w' s3 I3 rw'=>⟨v,H2,I3,rw',q2⟩⟩
theorem oJ (hu:X.A.units+1<cLine)(ho:PE X o td)(hi:PE X i ty)(hv:PE X value tv)(hs:swapsWith value (some (.Subscript o i pos')) pos.line X.env=pure false) :
  PS X (.Assign [.Subscript o i pos'] value pos) (vK td ty tv):=by
 intro pins s σ H D I h;refine wpAny_Assign_Subscript (thn (hv pins s σ H _ I h) fun r s1 ⟨v,H1,I1,rv,q1⟩=>thn (ho pins s1 σ H1 _ I1 q1) fun u s2 ⟨x,H2,I2,rx,q2⟩=>thn (hi pins s2 σ H2 _ I2 q2) fun iv s3 ⟨y,H3,I3,ry,a,H4,ex,g,q3⟩=>?_) hs;subst ex;obtain rfl:u=Value.ref a:=rx;exact qp hu I3 g ry rv fun s4 I4=>⟨σ,H4,I4,q3⟩
end
theorem mG (h:Heap)(hb:sysModules<h.objs.size):bI P w H (h.push { cls:=.type "dict",data:=.dict #[] }) h.objs.size (.dK []):=
 ⟨zero_le _,beq_eq_false_iff_ne.mpr (dG (av hb)),[],.nil,Heap.DictOf.new h⟩
def nZ:TE:=fun _ H Q=>∀p,H p=none->Q (.ref p) (upd H p (.dK []))
section
theorem lY:PE X (.Dict [] [] pos) nZ:=fun pins s σ H Q I h=>
 wpAny_Dict_empty ⟨.ref s.heap.objs.size,_,I.laid (a:=s.heap.objs.size) (o:=.dK []) (t':=s.toks) (fun _ _ q=>af _ q) (aD _) (mG s.heap I.big),rfl,h _ (I.hok.fresh (aD _))⟩
end
def iu:List (TE×TE)->St->Hp->(List (V×V)->Hp->Prop)->Prop
 | [],_,H,Q=>Q [] H
 | (tk,tv)::r,σ,H,Q=>tk σ H fun x H1=>tv σ H1 fun y H2=>iu r σ H2 fun ps H3=>Q ((x,y)::ps) H3
abbrev VV:List (V×V)->List (Value×Value)->Prop:=Paired fun p q=>cb p.1 q.1/\cb p.2 q.2
def PPs (X:Cx)(pos:Pos)(keys:List (Option Expr))(values:List Expr)(trs:List (TE×TE)):Prop:=
 ∀(pins:List (Addr×Obj)) (s:Shared) (σ:St) (H:Hp) (Q:List (V×V)->Hp->Prop),Inv X pins σ H s->iu trs σ H Q ->
  wpAny (model X.prog X.w) X.A (evalPairs (pairTrees keys values X.env pos)) (fun vs s'=>Ex2 fun ps H'=>An3 (Inv X pins σ H' s') (VV ps vs) (Q ps H')) X.xe s
theorem ul:PPs X pos [] [] []:=fun pins s σ H Q I h=>pairTrees_nil_walk ⟨[],H,I,.nil,h⟩
theorem fS {k v}{ks:List (Option Expr)}{vs tk}(hk:PE X k tk)(hv:PE X v tv)(hr:PPs X pos ks vs trs) :
  PPs X pos (some k::ks) (v::vs) ((tk,tv)::trs):=fun pins s σ H Q I h=>
 pairTrees_cons_walk (thn (hk pins s σ H _ I h) fun u s1 ⟨x,H1,I1,rx,q1⟩=>thn (hv pins s1 σ H1 _ I1 q1) fun w2 s2 ⟨y,H2,I2,ry,q2⟩=>
  thn (hr pins s2 σ H2 _ I2 q2) fun ws s3 ⟨ps,H3,I3,rel,q3⟩=>⟨(x,y)::ps,H3,I3,.cons ⟨rx,ry⟩ rel,q3⟩)
def gu (kvs more:List (Key×V)):List (Key×V):=more.foldl (fun acc kv=>iR acc kv.1 kv.2) kvs
theorem KV.merge:∀{more:List (Key×V)} {rs:List (Key×Value)} {kvs:List (Key×V)} {vs:List (Key×Value)},KV more rs->KV kvs vs->KV (gu kvs more) (merged vs rs):=by
 intro more rs kvs vs r;unfold KV at r
 induction r generalizing kvs vs with
 | nil=>intro q;exact q
 | @cons p q ps qs h t ih=>
  intro r0
  have e:KV (iR kvs p.1 p.2) (stored vs q.1 q.2):=by
   have:=r0.put p.1 h.2;rw[<- h.1];exact this
  exact ih e
theorem fY:∀(more kvs:List (Key×V)),(gu kvs more).length<=kvs.length+more.length
 | [],kvs=>by show kvs.length<=kvs.length+0;lia
 | p::r,kvs=>by
  have h1:=fY r (iR kvs p.1 p.2);have h2:=fz kvs p.1 p.2;show (gu (iR kvs p.1 p.2) r).length<=_;rw[aR];lia
theorem iJ {P w}:∀{kvs:List (Key×V)} {ws:List (Value×Value)},VV (kvs.map fun kv=>(kV kv.1,kv.2)) ws->∃rs,Carries (bK P w) ws rs/\KV kvs rs
 | [],_,r=>by rw[map_nil] at r;cases r;exact⟨[],True.intro,.nil⟩
 | p::kvs,_,r=>by
  rw[bX] at r;cases r with
  | @cons a b as bs h t=>
   obtain⟨rs,c,q⟩:=iJ (P:=P) (w:=w) t;obtain⟨b1,b2⟩:=b;exact⟨(p.1,b2)::rs,⟨je h.1,rfl,c⟩,.cons ⟨rfl,h.2⟩ q⟩
def yh (trs:List (TE×TE)):TE:=fun σ H Q=>∀p,H p=none->iu trs σ (upd H p (.dK [])) fun ps H2=>H2 p=some (.dK [])/\∃kvs:List (Key×V),An3 (ps=kvs.map (fun kv=>(kV kv.1,kv.2))) (kvs.length<=15) (Q (.ref p) (upd H2 p (.dK (gu [] kvs))))
theorem ut {keys:List (Option Expr)}{values:List Expr}(h:PPs X pos keys values trs)(hall:keys.all (·.isSome)=true)(hl:keys.length=values.length)(h0:keys≠[])
  (h15:keys.length<=15):PE X (.Dict keys values pos) (yh trs):=by
 intro pins s σ H Q I q;have hn:=I.hok.fresh (aD s.heap.objs.size);have I1:=I.laid (a:=s.heap.objs.size) (o:=.dK []) (h':=s.heap.push { cls:=.type "dict",data:=.dict #[] }) (t':=s.toks) (fun _ _ q=>af _ q) (aD _) (mG s.heap I.big);refine wpAny_Dict_walk (knd:=bK X.prog X.w) hall hl h0 h15 (thn (h pins _ σ _ _ I1 (q _ hn)) fun ws s2 zz=>?_)
 obtain⟨ps,H2,I2,rel,e,kvs,ep,lk,q2⟩:=zz;subst ep;obtain⟨rs,c,rk⟩:=iJ (P:=X.prog) (w:=X.w) rel;obtain⟨z,hd,vs0,r0,dd⟩:=qj I2.hok e;cases r0;refine⟨rs,c,dd,fun h' dd' hs=>⟨.ref s.heap.objs.size,_,?_,rfl,q2⟩⟩
 have hz:(gu [] kvs).length<=sizeLine:=by
  have h1:=fY kvs [];rw[bC] at h1;rw[sizeLine_eq];lia
 have he:∃q,h'.get? s.heap.objs.size=some q:=let⟨q,_,_,hq,_⟩:=dd';⟨q,hq⟩;exact jj I2 (by rw[e];exact True.intro) hs he (qk hz hd (rk.merge .nil) dd')
structure M1 (X:Cx)(o:Expr)(m:Str)(apos:Pos)(e:Expr)(cpos:Pos):Prop where
 base:attributeBase o m X.env (eval o X.env)=eval o X.env
 few:((backTo cpos (starEach [e] X.env)).all (fun x=>!x.1)&&(backToKw cpos (keywordEach [] X.env)).all (fun x=>x.1.isSome)
  && decide (([e]:List Expr).length+([]:List Keyword).length+(if ([]:List Keyword).isEmpty then 0 else 1)<30))=true
 line:(apos.endLine==cpos.line)=true
 trees:backTo cpos (starEach [e] X.env)=[(false,eval e X.env)]
structure M2 (X:Cx)(o:Expr)(m:Str)(apos:Pos)(e f:Expr)(cpos:Pos):Prop where
 base:attributeBase o m X.env (eval o X.env)=eval o X.env
 few:((backTo cpos (starEach [e,f] X.env)).all (fun x=>!x.1)&&(backToKw cpos (keywordEach [] X.env)).all (fun x=>x.1.isSome)
  && decide (([e,f]:List Expr).length+([]:List Keyword).length+(if ([]:List Keyword).isEmpty then 0 else 1)<30))=true
 line:(apos.endLine==cpos.line)=true
 trees:backTo cpos (starEach [e,f] X.env)=[(false,eval e X.env),(false,eval f X.env)]
def IsD (H:Hp)(a:Addr):Prop:=(∃kvs,Rd H a (.dK kvs))\/∃kvs,Rd H a (.dT kvs)
theorem mw (I:Inv X pins σ H s)(d:IsD H a) :
  An3 (s.TypeIs (.ref a) "dict") (∀b,Value.ref a=.ref b->∃ob,s.heap.get? b=some ob/\ob.dict=none) ((a==sysModules)=false):=by
 rcases d with⟨kvs,e⟩|⟨kvs,e⟩
 ·obtain⟨_,hd,vs,_,dd⟩:=jW I.hok e;refine⟨dd.typeIs,fun b q=>?_,hd⟩;cases q;obtain⟨ob,_,_,h1,h2,_⟩:=dd;exact⟨ob,h1,h2.2.1⟩
 ·obtain⟨_,hd,xs,_,dd⟩:=nq I.hok e;refine⟨dd.typeIs,fun b q=>?_,hd⟩;cases q;obtain⟨ob,_,_,h1,h2,_⟩:=dd;exact⟨ob,h1,h2.2.1⟩
section
variable {d:V}{r:Value}{o:Option V}
theorem xz (hu:A.units+1<cLine)(I:Inv X pins σ H s)(g:ju H a y o)(ry:cb y u)(h:∀w' s',Inv X pins σ H s'->cb (o.getD .non) w'->Q w' s') :
  wpAny (model X.prog X.w) A (call (.builtin "dict.get") [.ref a,u]) Q E s:=by
 rcases g with⟨kvs,k,e,ey,l⟩|⟨kvs,k,b,e,ey,eb,l⟩
 ·subst ey;obtain⟨z,hd,vs,rel,dd⟩:=jW I.hok e;refine call_meetsIn slot_dict_get dd.typeIs entry_dict_get (PySem.F.args_dict_get_2 _ _) (meets_dict_get (bK X.prog X.w) a (je ry) hd) ⟨_,dd.mapOf,h _ _ (I.tok _) ?_⟩;rw[l];exact(rel.val k).getD rfl
 ·subst ey;cases(show u=Value.ref b from ry);obtain⟨z,hd,xs,rel,dd⟩:=nq I.hok e;refine call_meetsIn slot_dict_get dd.typeIs entry_dict_get (PySem.F.args_dict_get_2 _ _) (meetsH_dict_get (tupleKind (bK X.prog X.w)) a b hd) ⟨tupleKind_room_in1 hu,k,xs,key_of I.hok eb,dd,h _ _ (I.tok _) ?_⟩;rw[l];exact(rel.val k).getD rfl
theorem xy (hu:A.units+1<cLine)(I:Inv X pins σ H s)(g:ju H a y o)(ry:cb y u)(rd:cb d r)(h:∀w' s',Inv X pins σ H s'->cb (o.getD d) w'->Q w' s') :
  wpAny (model X.prog X.w) A (call (.builtin "dict.get") [.ref a,u,r]) Q E s:=by
 rcases g with⟨kvs,k,e,ey,l⟩|⟨kvs,k,b,e,ey,eb,l⟩
 ·subst ey;obtain⟨z,hd,vs,rel,dd⟩:=jW I.hok e;refine call_meetsIn slot_dict_get dd.typeIs entry_dict_get (PySem.F.args_dict_get_3 _ _ _) (meets_dict_get_default (bK X.prog X.w) a (je ry) hd r) ⟨_,dd.mapOf,h _ _ (I.tok _) ?_⟩;rw[l];exact(rel.val k).getD rd
 ·subst ey;cases(show u=Value.ref b from ry);obtain⟨z,hd,xs,rel,dd⟩:=nq I.hok e;refine call_meetsIn slot_dict_get dd.typeIs entry_dict_get (PySem.F.args_dict_get_3 _ _ _) (meetsH_dict_get_default (tupleKind (bK X.prog X.w)) a b hd r) ⟨tupleKind_room_in1 hu,k,xs,key_of I.hok eb,dd,h _ _ (I.tok _) ?_⟩;rw[l];exact(rel.val k).getD rd
end
def gJ (td ty:TE):TE:=fun σ H Q=>td σ H fun x H1=>∃a,An3 (x=.ref a) (IsD H1 a) (ty σ H1 fun y H2=>∃o,ju H2 a y o/\Q (o.getD .non) H2)
def sG (td ty tx:TE):TE:=fun σ H Q=>td σ H fun x H1=>∃a,An3 (x=.ref a) (IsD H1 a) (ty σ H1 fun y H2=>tx σ H2 fun z H3=>∃o,ju H3 a y o/\Q (o.getD z) H3)
def sF (td ty:TE):TE:=fun σ H Q=>td σ H fun x H1=>∃a,An3 (x=.ref a) (IsD H1 a) (ty σ H1 fun y H2=>Ex3 fun kvs k v=>An4 (H2 a=some (.dK kvs)) (y=kV k) (ik kvs k=some v) (Q v (upd H2 a (.dK (jV kvs k)))))
def sE (td ty tx:TE):TE:=fun σ H Q=>td σ H fun x H1=>∃a,An3 (x=.ref a) (IsD H1 a) (ty σ H1 fun y H2=>tx σ H2 fun z H3=>Ex2 fun kvs k=>An4 (H3 a=some (.dK kvs)) (y=kV k) (∀v,ik kvs k=some v->Q v (upd H3 a (.dK (jV kvs k)))) (ik kvs k=none->Q z H3))
section
variable {o f:Expr}
theorem lZ (hu:X.A.units+1<cLine)(ho:PE X o td)(he:PE X e ty)(m:M1 X o "get" apos e cpos):PE X (.Call (.Attribute o "get" apos) [e] [] cpos) (gJ td ty):=by
 intro pins s σ H Q I h;refine wpAny_Call_method m.base m.few m.line plainAttrs_dict slot_dict_get PySem.F.type_dict_get (thn (ho pins s σ H _ I h) fun u s1 zz=>?_);obtain⟨x,H1,I1,rx,a,ex,d,q1⟩:=zz;subst ex;obtain rfl:u=Value.ref a:=rx;obtain⟨t1,t2,_⟩:=mw I1 d;refine⟨t1,t2,?_⟩;rw[m.trees]
 refine Calls.callWith_builtin rfl (Calls.evalArgs_plain (Calls.spliced_cons (thn (he pins s1 σ H1 _ I1 q1) fun iv s2 zz=>?_)));obtain⟨y,H2,I2,ry,ov,g,q2⟩:=zz;refine Calls.spliced_nil ?_;exact xz hu I2 g ry fun w' s3 I3 rw'=>⟨_,H2,I3,rw',q2⟩
theorem rg (hu:X.A.units+1<cLine)(ho:PE X o td)(he:PE X e ty)(hf:PE X f tx)(m:M2 X o "get" apos e f cpos):PE X (.Call (.Attribute o "get" apos) [e,f] [] cpos) (sG td ty tx):=by
 intro pins s σ H Q I h;refine wpAny_Call_method m.base m.few m.line plainAttrs_dict slot_dict_get PySem.F.type_dict_get (thn (ho pins s σ H _ I h) fun u s1 zz=>?_);obtain⟨x,H1,I1,rx,a,ex,d,q1⟩:=zz;subst ex;obtain rfl:u=Value.ref a:=rx;obtain⟨t1,t2,_⟩:=mw I1 d;refine⟨t1,t2,?_⟩;rw[m.trees]
 refine Calls.callWith_builtin rfl (Calls.evalArgs_plain (Calls.spliced_cons (thn (he pins s1 σ H1 _ I1 q1) fun iv s2 ⟨y,H2,I2,ry,q2⟩=>
  Calls.spliced_cons (thn (hf pins s2 σ H2 _ I2 q2) fun fv s3 ⟨z,H3,I3,rz,ov,g,q3⟩=>Calls.spliced_nil ?_))))
 exact xy hu I3 g ry rz fun w' s4 I4 rw'=>⟨_,H3,I4,rw',q3⟩
theorem rc (ho:PE X o td)(he:PE X e ty)(m:M1 X o "pop" apos e cpos):PE X (.Call (.Attribute o "pop" apos) [e] [] cpos) (sF td ty):=by
 intro pins s σ H Q I h;refine wpAny_Call_method m.base m.few m.line plainAttrs_dict slot_dict_pop PySem.F.type_dict_pop (thn (ho pins s σ H _ I h) fun u s1 zz=>?_);obtain⟨x,H1,I1,rx,a,ex,d,q1⟩:=zz;subst ex;obtain rfl:u=Value.ref a:=rx;obtain⟨t1,t2,_⟩:=mw I1 d;refine⟨t1,t2,?_⟩;rw[m.trees]
 refine Calls.callWith_builtin rfl (Calls.evalArgs_plain (Calls.spliced_cons (thn (he pins s1 σ H1 _ I1 q1) fun iv s2 zz=>?_)));obtain⟨y,H2,I2,ry,kvs,k,v,ea,ey,l,q2⟩:=zz;refine Calls.spliced_nil ?_;subst ey;exact xx I2 ea ry l (.inl rfl) fun w' s3 I3 rw'=>⟨v,_,I3,rw',q2⟩
theorem q_ (ho:PE X o td)(he:PE X e ty)(hf:PE X f tx)(m:M2 X o "pop" apos e f cpos):PE X (.Call (.Attribute o "pop" apos) [e,f] [] cpos) (sE td ty tx):=by
 intro pins s σ H Q I h;refine wpAny_Call_method m.base m.few m.line plainAttrs_dict slot_dict_pop PySem.F.type_dict_pop (thn (ho pins s σ H _ I h) fun u s1 zz=>?_);obtain⟨x,H1,I1,rx,a,ex,d,q1⟩:=zz;subst ex;obtain rfl:u=Value.ref a:=rx;obtain⟨t1,t2,_⟩:=mw I1 d;refine⟨t1,t2,?_⟩;rw[m.trees]
 refine Calls.callWith_builtin rfl (Calls.evalArgs_plain (Calls.spliced_cons (thn (he pins s1 σ H1 _ I1 q1) fun iv s2 ⟨y,H2,I2,ry,q2⟩=>
  Calls.spliced_cons (thn (hf pins s2 σ H2 _ I2 q2) fun fv s3 ⟨z,H3,I3,rz,kvs,k,ea,ey,q3,q4⟩=>Calls.spliced_nil ?_))))
 subst ey;cases l:ik kvs k with
 | some v=>exact xx I3 ea ry l (.inr ⟨fv,rfl⟩) fun w' s4 I4 rw'=>⟨v,_,I4,rw',q3 v l⟩
 | none=>exact xw I3 ea ry l fun s4 I4=>⟨z,H3,I4,rz,q4 l⟩
end
section
end
section
end
end L2
namespace HT
open PySem PyProof.Rows
section
open PySem.SeqAt
open PySem.AutoSeq1 (wpAny_loadPart')
open PySem.MeetsSeq PySem.MeetsSeq2 PySem.MeetsSeq3
end
section
theorem cat_tup {t b}{vs ws:List Value}{Q:Value->Shared->Prop}(ht:IsTup s.heap t vs.toArray)(hb:IsTup s.heap b ws.toArray)(hv:vs≠[])
  (h1:ws=[]->Q (.ref t) s) (h2:ws≠[]->Q (.ref s.heap.objs.size) { s with heap:=s.heap.push { cls:=.type "tuple",data:=.seq (vs++ws).toArray } })
  (hsz:vs.length+ws.length<=sizeLine):wpAny (model prog w) A (binaryOp .Add (.ref t) (.ref b)) Q E s:=by
 obtain⟨⟨cls,dd,data,sl⟩,ho,hc,n,hd⟩:=id ht;obtain⟨⟨cls2,dd2,data2,sl2⟩,ho2,hc2,n2,hd2⟩:=id hb;simp only at hc hd hc2 hd2;subst hc hd hc2 hd2;have e:vs.toArray++ws.toArray=(vs++ws).toArray:=by simp
 by_cases hw:ws=[]
 ·exact concat_meets ⟨_,ho,rfl⟩ ⟨_,ho2,rfl⟩ noFill_tuple_add seq_tuple_add slot_tuple_add entry_tuple_add (args_tuple_add_2 _ _)
   (tuple_addW1 t b vs.toArray ws.toArray n n2 dd dd2 sl sl2 (by simpa using hv) (by simp[hw])) ⟨ho,ho2,h1 hw⟩
 ·refine concat_meets ⟨_,ho,rfl⟩ ⟨_,ho2,rfl⟩ noFill_tuple_add seq_tuple_add slot_tuple_add entry_tuple_add (args_tuple_add_2 _ _)
   (tuple_addW2 t b vs.toArray ws.toArray n n2 dd dd2 sl sl2 (by simpa using hv) (by simpa using hw) (by rw[aJ,aJ];exact hsz)) ⟨ho,ho2,?_⟩
  rw[e];exact h2 hw
def sIx (n d:Nat):Option Int->Nat
 | none=>d
 | some v=>if v<0 then (v+(n:Int)).toNat else min v.toNat n
theorem sIx_none (n d:Nat):sIx n d none=d:=rfl
theorem sIx_nat (n d k:Nat):sIx n d (some (k:Int))=min k n:=by
 show (if (k:Int)<0 then ((k:Int)+(n:Int)).toNat else min (k:Int).toNat n)=min k n;rw[ah (by lia),Int.toNat_natCast]
theorem vJ (n d:Nat)(hd:d<=n)(o:Option Int):sIx n d o<=n:=by
 cases o with
 | none=>exact hd
 | some v=>
  show (if v<0 then (v+(n:Int)).toNat else min v.toNat n)<=n;by_cases hv:v<0
  ·rw[ak hv];lia
  ·rw[ah hv];exact Nat.min_le_right _ _
theorem qt (v:Int)(n d:Nat):(if v<0 then max (v+(n:Int)) 0 else min v (n:Int))=((sIx n d (some v):Nat):Int):=by
 show (if v<0 then max (v+(n:Int)) 0 else min v (n:Int))=(((if v<0 then (v+(n:Int)).toNat else min v.toNat n):Nat):Int);by_cases hv:v<0
 ·simp only[ak hv];lia
 ·simp only[ah hv];lia
theorem nG (lo hi:Option Int)(n:Nat):Builtin.Slice.sliceAdjust lo hi 1 (n:Int)=(((sIx n 0 lo:Nat):Int),((sIx n n hi:Nat):Int)):=by
 have h1:¬((1:Int)<0):=by lia
 unfold Builtin.Slice.sliceAdjust;simp only[h1,if_false];refine Prod.ext ?_ ?_
 ·cases lo with
  | none=>rfl
  | some v=>exact qt v n 0
 ·cases hi with
  | none=>rfl
  | some v=>exact qt v n n
theorem mV (i j:Nat):Builtin.Slice.slicePlaces (i:Int) (j:Int) 1=j - i:=by
 unfold Builtin.Slice.slicePlaces;have h1:(1:Int) > 0:=by lia
 simp only[h1,if_true,Int.ediv_one];split<;>lia
theorem iw {v}{o:Option Int}{Q:Option Int->Shared->Prop}(p:IsPart v o)(h:Q o s):wpAny (model prog w) A (Builtin.Slice.slicePartIndex v) Q E s:=by
 cases p with
 | none=>exact slicePart_none h
 | int i t=>exact slicePart_int h
theorem sliceApplied_gen {sl vl vu}{lo hi:Option Int}{n:Nat}{Q:Int×Int×Nat->Shared->Prop}(hs:s.heap.IsSliceOf sl vl vu .none)(pl:IsPart vl lo)(pu:IsPart vu hi)
  (h:Q (((sIx n 0 lo:Nat):Int),1,sIx n n hi - sIx n 0 lo) s):wpAny (model prog w) A (Builtin.Slice.sliceApplied (.ref sl) (pure (n:Int))) Q E s:=by
 obtain⟨os,hos,hcs,hds⟩:=id hs;unfold Builtin.Slice.sliceApplied Builtin.Slice.sliceFields;refine aa (aa (wpAny_field hos hds (x:=vl) rfl (aa (wpAny_field hos hds (x:=vu) rfl (aa (wpAny_field hos hds (x:=.none) rfl (ae ?_)))))));refine aa (slicePart_none ?_);show wpAny _ _ (if ((1:Int)==0)=true then _ else _) _ _ s;rw[ah (by decide)]
 refine aa (iw pl (aa (iw pu (aa (ae ?_)))));show wpAny _ _ (match Builtin.Slice.sliceAdjust lo hi 1 (n:Int) with|(lo,hi)=>pure (lo,(1:Int),Builtin.Slice.slicePlaces lo hi 1)) _ _ s;rw[nG lo hi n];show wpAny _ _ (pure (((sIx n 0 lo:Nat):Int),(1:Int),Builtin.Slice.slicePlaces ((sIx n 0 lo:Nat):Int) ((sIx n n hi:Nat):Int) 1)) _ _ s
 rw[mV];exact ae h
theorem qT (xs:Array Value)(i k:Nat):((List.range k).filterMap fun(m:Nat)=>xs[((i:Int)+(m:Int) * 1).toNat]?).toArray=((xs.toList.drop i).take k).toArray:=by
 have e:(fun(m:Nat)=>xs[((i:Int)+(m:Int) * 1).toNat]?)=fun m=>xs[i+m]?:=by
  funext m
  have:((i:Int)+(m:Int) * 1).toNat=i+m:=by lia
  rw[this]
 rw[e];have:=pick_run xs i k;rw[List.filterMap_map] at this;have e2:((fun x=>xs[x]?) ∘ fun x=>i+x)=fun m=>xs[i+m]?:=rfl;rw[e2] at this;rw[this]
theorem getItem_tuple_cut {t sl}{items:Array Value}{vl vu}{lo hi:Option Int}{Q:Value->Shared->Prop}(ht:IsTup s.heap t items)(hs:s.heap.IsSliceOf sl vl vu .none)(pl:IsPart vl lo)(pu:IsPart vu hi)
  (hw:¬(sIx items.size 0 lo=0/\sIx items.size items.size hi=items.size))
  (h:Q (.ref s.heap.objs.size) { s with heap:=s.heap.push { cls:=.type "tuple",data:=.seq ((items.toList.drop (sIx items.size 0 lo)).take (sIx items.size items.size hi - sIx items.size 0 lo)).toArray } })
  (hsz:items.size<=sizeLine):wpAny (model prog w) A (getItem (.ref t) (.ref sl)) Q E s:=by
 have htake:sizeOk (.seq ((items.toList.drop (sIx items.size 0 lo)).take (sIx items.size items.size hi - sIx items.size 0 lo)).toArray):=by
  show ((items.toList.drop (sIx items.size 0 lo)).take (sIx items.size items.size hi - sIx items.size 0 lo)).toArray.size<=sizeLine;rw[aJ,aF,bf,length_toList]
  lia
 have hj:sIx items.size items.size hi<=items.size:=vJ _ _ (aD _) hi;obtain⟨os,hos,hcs,hds⟩:=id hs;have hTs:s.TypeIs (.ref sl) "slice":=⟨os,hos,hcs⟩;unfold getItem
 try with_reducible refine bj ?_
 first|refine aa (ae ?_)|skip
 refine aa (wpAny_sequenceKey ht.typeIs (by decide) ?_)
 refine aa (wpAny_callSpecial?_slot (name:=Str.ofString "__getitem__") ht.typeIs PyProof.Rows.slot_tuple_getitem
  (wpAny_call_entry PyProof.Rows.slot_tuple_getitem ht.typeIs entry_tuple_getitem ?_ (args_tuple_getitem _ _)))
 show wpAny _ _ (Builtin.Tuple.tupleItemsOf (.ref t) >>= _) _ _ s;refine aa (tupleItemsOf_ ht ?_);refine aa (wpAny_typeOf hTs ?_);rw[ak (by decide)];refine aa (sliceApplied_gen hs pl pu ?_)
 have hno:¬((((sIx items.size 0 lo:Nat):Int)==0&&(1:Int)==1&&(sIx items.size items.size hi - sIx items.size 0 lo)==items.size)=true):=by
  intro q;rw[and_eq_true,and_eq_true] at q;have q1:((sIx items.size 0 lo:Nat):Int)=0:=eq_of_beq q.1.1;have q2:sIx items.size items.size hi - sIx items.size 0 lo=items.size:=eq_of_beq q.2;exact hw ⟨by lia,by lia⟩
 show wpAny _ _ (if (((sIx items.size 0 lo:Nat):Int)==0&&(1:Int)==1&&(sIx items.size items.size hi - sIx items.size 0 lo)==items.size)=true then _ else _) _ _ s;rw[ah hno,qT]
 first
  | exact aa (m:=Builtin.Tuple.tupleExact _) (wpAny_newObj_type (ae ⟨_,rfl,ae h⟩) htake)
  | exact aa (m:=Builtin.Tuple.tupleExact _) (wpAny_newObj_type (aa (ae (ae ⟨_,rfl,ae h⟩))) htake)
  | exact aa (aa (m:=Builtin.Tuple.tupleExact _) (wpAny_newObj_type (ae (ae ⟨_,rfl,ae h⟩)) htake))
  | exact aa (aa (m:=Builtin.Tuple.tupleExact _) (wpAny_newObj_type (ae ⟨_,rfl,ae h⟩) htake))
end
end HT
namespace L2
open PySem PySem.Spec PyProof.Rows
abbrev TO:=St->Hp->(Option Int->Hp->Prop)->Prop
variable {th:L2.TO}
def PO (X:Cx)(e:Option Expr)(t:TO):Prop:=
 ∀(pins:List (Addr×Obj)) (s:Shared) (σ:St) (H:Hp) (Q:Option Int->Hp->Prop),Inv X pins σ H s->t σ H Q ->
  wpAny (model X.prog X.w) X.A (evalPart e X.env) (fun u s'=>Ex2 fun o H'=>An3 (Inv X pins σ H' s') (IsPart u o) (Q o H')) X.xe s
def nX:TO:=fun _ H Q=>Q none H
def vp (t:TE):TO:=fun σ H Q=>t σ H fun x H1=>∃i,x=.int i/\Q (some i) H1
section
variable {lo hi:Option Expr}{tl:TO}
theorem cr:PO X none nX:=by
 intro pins s σ H Q I h;rw[evalPart_none];exact ae ⟨none,H,I,.none,h⟩
theorem cq (h:PE X e te):PO X (some e) (vp te):=by
 intro pins s σ H Q I hw;rw[evalPart_some];refine thn (h pins s σ H _ I hw) fun u s1 zz=>?_;obtain⟨x,H1,I1,r1,q1⟩:=zz;obtain⟨i,rfl,q⟩:=q1;obtain⟨t,rfl⟩:=r1;exact⟨some i,H1,I1,.int i t,q⟩
def SlR (X:Cx)(r:V->Option Int->Option Int->Hp->VK->Prop):Prop:=
 ∀(pins:List (Addr×Obj)) (s:Shared) (σ:St) (H:Hp) (x:V) (v vl vu:Value) (lo hi:Option Int) (sl:Addr) (Q:VK),Inv X pins σ H s->cb x v->s.heap.IsSliceOf sl vl vu .none->IsPart vl lo->IsPart vu hi->r x lo hi H Q ->
  Ex2 fun T id=>An3 (typeLookup (.type T) "__getitem__" = pure (some (.builtin id))) (s.TypeIs v T) (wpAny (model X.prog X.w) X.A (getItem v (.ref sl)) (EP X pins σ Q) X.xe s)
def tSl (r:V->Option Int->Option Int->Hp->VK->Prop)(te:TE)(tl th:TO):TE:=fun σ H Q=>te σ H fun x H1=>tl σ H1 fun l H2=>th σ H2 fun u H3=>r x l u H3 Q
theorem bU {r:V->Option Int->Option Int->Hp->VK->Prop}(hr:SlR X r)(he:PE X e te)(hl:PO X lo tl)(hu:PO X hi th):PE X (.Subscript e (.Slice lo hi none p2) pos) (tSl r te tl th):=by
 intro pins s σ H Q I h;refine Subscript_ (thn (he pins s σ H _ I h) fun v s1 zz=>?_);obtain⟨x,H1,I1,r1,q1⟩:=zz;refine wpAny_Slice (thn (hl pins s1 σ H1 _ I1 q1) fun vl s2 zz=>?_);obtain⟨l,H2,I2,pl,q2⟩:=zz;refine thn (hu pins s2 σ H2 _ I2 q2) fun vu s3 zz=>?_;obtain⟨u,H3,I3,pu,q3⟩:=zz;rw[evalPart_none];refine ae ?_
 have I4:Inv X pins σ H3 { s3 with heap:=s3.heap.push { cls:=.type "slice",data:=.fields #[vl,vu,.none] } }:=I3.kept (t':=s3.toks) fun b ob q=>af _ q;obtain⟨T,id,hT,ht,hg⟩:=hr pins { s3 with heap:=s3.heap.push { cls:=.type "slice",data:=.fields #[vl,vu,.none] } } σ H3 x v vl vu l u s3.heap.objs.size Q I4 r1 (Heap.IsSliceOf.new ..) pl pu q3
 show wpAny (model X.prog X.w) X.A (subscriptTail e (.Slice lo hi none p2) v (.ref s3.heap.objs.size)) (EP X pins σ Q) X.xe { s3 with heap:=s3.heap.push { cls:=.type "slice",data:=.fields #[vl,vu,.none] } };exact tail_any (ops:=[.ref s3.heap.objs.size,v]) ht hT hg (by with_unfolding_all rfl)
def lB (xs:List V)(lo hi:Option Int):List V:=(xs.drop (HT.sIx xs.length 0 lo)).take (HT.sIx xs.length xs.length hi - HT.sIx xs.length 0 lo)
theorem bg (xs:List V)(lo hi:Option Int):(lB xs lo hi).length<=xs.length:=by
 unfold lB;rw[aF,bf]
 lia
def Ag (K:Frag):V->Option Int->Option Int->Hp->VK->Prop:=fun x lo hi H Q=>Ex2 fun a xs=>An4 (x=.ref a) (SqT K H a xs) (¬(HT.sIx xs.length 0 lo=0/\HT.sIx xs.length xs.length hi=xs.length)) (∀p,H p=none->Q (.ref p) (upd H p (.tup (lB xs lo hi))))
theorem vE:SlR X (Ag X.K):=by
 intro pins s σ H x v vl vu lo hi sl Q I rx hs pl pu h;obtain⟨a,xs,rfl,hx,hw,q⟩:=h;cases rx;obtain⟨its,r,ht,hz⟩:=I.tuple hx;have hlen:its.toArray.size=xs.length:=by rw[aJ];exact r.length.symm
 refine⟨"tuple",_,PyProof.Rows.slot_tuple_getitem.lookup,ht.typeIs,?_⟩;refine HT.getItem_tuple_cut ht hs pl pu (by rw[hlen];exact hw) ?_ (by rw[hlen];exact hz);rw[hlen];refine⟨.ref s.heap.objs.size,_,I.laid (t':=s.toks) (o:=.tup (lB xs lo hi)) (fun b ob q=>af _ q) (aD _) ?_,rfl,q _ (I.hok.fresh (aD _))⟩
 exact⟨Nat.le_trans (bg xs lo hi) hz,_,(r.drop (HT.sIx xs.length 0 lo)).take (HT.sIx xs.length xs.length hi - HT.sIx xs.length 0 lo),IsTup.new _ _,du⟩
def yJ (K:Frag):R2:=fun x y H Q=>Ex4 fun a b xs ys=>An8 (x=.ref a) (y=.ref b) (SqT K H a xs) (SqT K H b ys) (xs≠[]) (xs.length+ys.length<=sizeLine) (ys=[]->Q (.ref a) H) (ys≠[]->∀p,H p=none->Q (.ref p) (upd H p (.tup (xs++ys))))
theorem b_.nil_iff {us}(r:b_ xs us):us=[] ↔ xs=[]:=by
 cases r with
 | nil=>simp
 | cons _ _=>simp
theorem uA:OpR X (binaryOp .Add) (yJ X.K):=by
 intro pins s σ H x y v u Q I rx ry h;obtain⟨a,b,xs,ys,rfl,rfl,ha,hb,hx,hz,q1,q2⟩:=h;cases rx;cases ry;obtain⟨its,r1,p1,_⟩:=I.tuple ha;obtain⟨its2,r2,p2,_⟩:=I.tuple hb;refine HT.cat_tup p1 p2 (fun z=>hx (r1.nil_iff.mp z)) (fun z=>⟨.ref a,H,I,rfl,q1 (r2.nil_iff.mp z)⟩) (fun z=>?_) (by rw[<- r1.length,<- r2.length];exact hz)
 refine⟨.ref s.heap.objs.size,_,I.laid (t':=s.toks) (o:=.tup (xs++ys)) (fun b ob q=>af _ q) (aD _) ?_,rfl,q2 (fun w=>z (r2.nil_iff.mpr w)) _ (I.hok.fresh (aD _))⟩;exact⟨by rw[aB];exact hz,_,r1.append r2,IsTup.new _ _,du⟩
end
def ixN (n:Nat)(i:Int):Option Nat:=if 0<=i then (if i<n then some i.toNat else none) else if -(n:Int)<=i then some (i+n).toNat else none
def atI {α:Type}(xs:List α)(i:Int):Option α:=(ixN xs.length i).bind fun j=>xs[j]?
theorem pS {i:Int}(h:ixN n i=some j):An4 (seqIndex? i n=some j) (j<n) (-(n:Int)<=i) (i<n):=by
 unfold ixN at h;by_cases h0:0<=i
 ·rw[ak h0] at h;by_cases h1:i<n
  ·rw[ak h1] at h;have e:i.toNat=j:=aG h;exact⟨by rw[seqIndex_of h0 h1,e],by lia,by lia,h1⟩
  ·rw[ah h1] at h;cases h
 ·rw[ah h0] at h;by_cases h1:-(n:Int)<=i
  ·rw[ak h1] at h;have e:(i+n).toNat=j:=aG h;exact⟨by rw[seqIndex_neg (by lia) h1,e],by lia,h1,by lia⟩
  ·rw[ah h1] at h;cases h
theorem qC {α:Type}{xs:List α}{i:Int}{v:α}(h:atI xs i=some v):∃j,An5 (seqIndex? i xs.length=some j) (xs[j]?=some v) (j<xs.length) (-(xs.length:Int)<=i) (i<xs.length):=by
 unfold atI at h;cases e:ixN xs.length i with
 | none=>rw[e] at h;cases h
 | some j=>
  rw[e] at h;obtain⟨h1,h2,h3,h4⟩:=pS e;exact⟨j,h1,h,h2,h3,h4⟩
theorem da {α:Type}{xs:List α}{v:α}(h:xs[j]?=some v):atI xs (j:Int)=some v:=by
 have hj:j<xs.length:=(aA.mp h).1
 have e:ixN xs.length (j:Int)=some j:=by
  unfold ixN;rw[ak (by lia),ak (by lia)];simp
 unfold atI;rw[e];exact h
def qE (b:Expr):Prop:=∀o i,subscripted b false o i=operate [o,i] (getItem o i)
def IxR (X:Cx)(r:R2):Prop:=
 ∀(value slice:Expr) (pins:List (Addr×Obj)) (s:Shared) (σ:St) (H:Hp) (x y:V) (v u:Value) (Q:VK),Inv X pins σ H s->cb x v->cb y u->r x y H Q ->
  subscripted slice false v u=operate [v,u] (getItem v u)->wpAny (model X.prog X.w) X.A (subscriptTail value slice v u) (EP X pins σ Q) X.xe s
def MtR (X:Cx)(id:String)(r:V->List V->Hp->VK->Prop):Prop:=
 ∀(pins:List (Addr×Obj)) (s:Shared) (σ:St) (H:Hp) (x:V) (xs:List V) (v:Value) (us:List Value) (Q:VK),Inv X pins σ H s->cb x v->b_ xs us->r x xs H Q ->
  wpAny (model X.prog X.w) X.A (call (.builtin id) (v::us)) (EP X pins σ Q) X.xe s
section
variable {a b:Expr}{tb:TE}
theorem qY (hr:IxR X r)(ha:PE X a ta)(hb:PE X b tb)(hs:qE b):PE X (.Subscript a b pos) (tOp r ta tb):=by
 intro pins s σ H Q I h;exact Subscript_ (zm ha hb I h fun v u s2 x y H2 I2 rx ry q=>hr a b pins s2 σ H2 x y v u Q I2 rx ry q (hs _ _))
def zI (K:Frag):R2:=fun x y H Q=>Ex4 fun p xs i v=>An5 (x=.ref p) (y=.int i) (SqL K H p xs) (atI xs i=some v) (Q v H)
def yG (K:Frag):R2:=fun x y H Q=>Ex4 fun p xs i v=>An5 (x=.ref p) (y=.int i) (SqT K H p xs) (atI xs i=some v) (Q v H)
theorem bz:IxR X (zI X.K):=by
 intro value slice pins s σ H x y v u Q I rx ry h hs;obtain⟨p,xs,i,z,rfl,rfl,hq,he,q⟩:=h;cases rx;obtain⟨t,rfl⟩:=ry;obtain⟨its,r,pl,hz⟩:=I.list hq;obtain⟨j,h1,h2,h3,h4,h5⟩:=qC he;obtain⟨w,ew,rw'⟩:=r.get h2;have hl:=r.length;have hn:=ms;have fin:EP X pins σ Q w s:=⟨z,H,I,rw',q⟩;by_cases h0:0<=i
 ·have hj:i.toNat=j:=by
   rw[seqIndex_of h0 h5] at h1;exact aG h1
  exact item_listR pl.isList h0 (by lia) (by rw[hj];simpa using ew) fin hs
 ·have hj:(i+(its.toArray.size:Int)).toNat=j:=by
   rw[seqIndex_neg (by lia) h4] at h1;rw[aJ,<- hl];exact aG h1
  exact subscriptTail_builtinR (x:=w) pl.isList.typeIs slot_list_getitem.lookup
   (wpAny_getItem_list_neg (Q:=fun r s'=>r=w/\EP X pins σ Q r s') pl.isList (by lia) (by rw[aJ]<;>lia) (by lia) (by rw[hj];simpa using ew) ⟨rfl,fin⟩) hs
theorem bT:IxR X (yG X.K):=by
 intro value slice pins s σ H x y v u Q I rx ry h hs;obtain⟨p,xs,i,z,rfl,rfl,hq,he,q⟩:=h;cases rx;obtain⟨t,rfl⟩:=ry;obtain⟨its,r,pl,hz⟩:=I.tuple hq;obtain⟨j,h1,h2,h3,h4,h5⟩:=qC he;obtain⟨w,ew,rw'⟩:=r.get h2;have hl:=r.length;have hn:=ms;have fin:EP X pins σ Q w s:=⟨z,H,I,rw',q⟩
 exact subscriptTail_builtinR (x:=w) pl.typeIs slot_tuple_getitem.lookup
  (getItem_tuple (j:=j) (Q:=fun r s'=>r=w/\EP X pins σ Q r s') pl (by lia) (by lia) (by rw[aJ,<- hl];exact h1) (by simpa using ew) ⟨rfl,fin⟩) hs
theorem m9 (its:List Value)(n j:Nat)(u:Value):mapSeq (·.setIfInBounds j u) { cls:=.type "list",data:=.seq its.toArray n }={ cls:=.type "list",data:=.seq (its.set j u).toArray n }:=by
 simp[mapSeq]
theorem Inv.lst {p}(I:Inv X pins σ H s)(h:H p=some (.lst xs)) :
  Ex2 fun(its:List Value) (n:Nat)=>An3 (b_ xs its) (s.heap.get? p=some { cls:=.type "list",data:=.seq its.toArray n }) (xs.length<=sizeLine):=by
 obtain⟨z,its,n,r,e⟩:=I.hok p _ h;exact⟨its,n,r,e,z⟩
theorem Inv.lstUpd {p}{its:List Value}{n':Nat}{f:Obj->Obj}(I:Inv X pins σ H s)(h:H p=some (.lst xs))
  (ho:s.heap.get? p=some { cls:=.type "list",data:=.seq its.toArray n }) (hf:f { cls:=.type "list",data:=.seq its.toArray n }={ cls:=.type "list",data:=.seq its'.toArray n' }) (r:b_ ys its') (hz:ys.length<=sizeLine) (t:Nat) :
  Inv X pins σ (upd H p (.lst ys)) { s with heap:=s.heap.update p f,toks:=t }:=by
 have e:(s.heap.update p f).get? p=some { cls:=.type "list",data:=.seq its'.toArray n' }:=by
  rw[bY f ho (by rw[hf]<;>rfl),hf]
 refine I.write (x:=p) (e:=p) (by rw[h];trivial) (.inl rfl) (fun b u hb q=>(get?_update_other _ _ (dG hb)).trans q) ⟨_,e⟩ ?_;exact⟨hz,its',n',r,e⟩
def vY:V->V->V->Hp->(Hp->Prop)->Prop:=fun o i v H Q=>Ex4 fun p xs k j=>An5 (o=.ref p) (i=.int k) (H p=some (.lst xs)) (ixN xs.length k=some j) (Q (upd H p (.lst (xs.set j v))))
theorem lP:zQ X vY:=by
 intro pins s σ H o i v ov iv u Q I ro ri rv h;obtain⟨p,xs,k,j,rfl,rfl,hp,hj,q⟩:=h;cases ro;obtain⟨t,rfl⟩:=ri;obtain⟨its,n,r,ho,hz⟩:=I.lst hp;obtain⟨h1,h2,h3,h4⟩:=pS hj;have hl:=r.length;have hn:=ms
 have I':Inv X pins σ (upd H p (.lst (xs.set j v))) { s with heap:=s.heap.update p (mapSeq (·.setIfInBounds j u)) }:=
  I.lstUpd hp ho (m9 its n j u) (r.set rv j) (by rw[List.length_set];exact hz) s.toks
 by_cases h0:0<=k
 ·have hk:k.toNat=j:=by
   rw[seqIndex_of h0 h4] at h1;exact aG h1
  exact PySem.W.ki_setAt ho h0 (by lia) (by rw[aJ,<- hl];exact h4) (by rw[hk];exact⟨_,I',q⟩)
 ·have hk:(k+(its.toArray.size:Int)).toNat=j:=by
   rw[seqIndex_neg (by lia) h3] at h1;rw[aJ,<- hl];exact aG h1
  exact PySem.W.ki_setBack ho (by lia) (by rw[aJ,<- hl];exact h3) (by lia) (by rw[hk];exact⟨_,I',q⟩)
theorem jA (lo hi:Option Int)(n:Nat):An3 ((sliceBounds lo hi none n).1=((HT.sIx n 0 lo:Nat):Int)) ((sliceBounds lo hi none n).2.1=((HT.sIx n n hi:Nat):Int)) ((sliceBounds lo hi none n).2.2=1):=by
 refine⟨?_,?_,rfl⟩
 ·cases lo with
  | none=>simp[sliceBounds,HT.sIx]
  | some i=>
   simp only[sliceBounds,HT.sIx,getD_none,show (1:Int) > 0 by decide,if_true];by_cases h:i<0
   ·simp only[h,if_true]<;>lia
   ·simp only[h,if_false]<;>lia
 ·cases hi with
  | none=>simp[sliceBounds,HT.sIx]
  | some i=>
   simp only[sliceBounds,HT.sIx,getD_none,show (1:Int) > 0 by decide,if_true];by_cases h:i<0
   ·simp only[h,if_true]<;>lia
   ·simp only[h,if_false]<;>lia
theorem iN (its:List Value)(lo hi:Option Int):slicePick its.toArray lo hi none=((its.drop (HT.sIx its.length 0 lo)).take (HT.sIx its.length its.length hi - HT.sIx its.length 0 lo)).toArray:=by
 obtain⟨h1,h2,h3⟩:=jA lo hi its.toArray.size;unfold slicePick;rw[h1,h2,h3];simp only[sliceRange_one,pick_run,aJ]<;>rfl
def yF (K:Frag):V->Option Int->Option Int->Hp->VK->Prop:=fun x lo hi H Q=>Ex2 fun a xs=>An3 (x=.ref a) (SqL K H a xs) (∀p,H p=none->Q (.ref p) (upd H p (.lst (lB xs lo hi))))
theorem eE:SlR X (yF X.K):=by
 intro pins s σ H x v vl vu lo hi sl Q I rx hs pl pu h;obtain⟨a,xs,rfl,hx,q⟩:=h;cases rx;obtain⟨its,r,ht,hz⟩:=I.list hx;have hlen:=r.length;refine⟨"list",_,slot_list_getitem.lookup,ht.isList.typeIs,?_⟩;refine wpAny_getItem_list_slice ht.isList hs pl pu .none (by simp) ?_ (by rw[aJ]<;>lia);rw[iN,<- hlen]
 refine⟨.ref s.heap.objs.size,_,I.laid (t':=s.toks) (o:=.lst (lB xs lo hi)) (fun b ob q=>af _ q) (aD _) ?_,rfl,q _ (I.hok.fresh (aD _))⟩;exact⟨Nat.le_trans (bg xs lo hi) hz,_,0,(r.drop (HT.sIx xs.length 0 lo)).take (HT.sIx xs.length xs.length hi - HT.sIx xs.length 0 lo),aI _ rfl⟩
def h_:V->Bool
 | .non=>true
 | .bl _=>true
 | .int _=>true
 | .str _=>true
 | _=>false
def eqV:V->V->Bool
 | .non,.non=>true
 | .bl a,.bl b=>a==b
 | .bl a,.int b=>(if a then 1 else 0)==b
 | .int a,.bl b=>a==(if b then 1 else 0)
 | .int a,.int b=>a==b
 | .str a,.str b=>a==b
 | _,_=>false
theorem mD {x v}(ry:cb y u)(rx:cb x v)(fy:h_ y=true)(fx:h_ x=true):SeqAt.EqAt A s u v (eqV y x):=by
 cases y with
 | non=>
  cases ry;cases x with
  | non=>cases rx;exact SeqAt.EqAt.same _
  | bl b=>cases rx;exact SeqAt.EqAt.none_bool b
  | int b=>obtain⟨t,rfl⟩:=rx;exact SeqAt.EqAt.none_int b t
  | str b=>obtain⟨t,rfl⟩:=rx;exact SeqAt.EqAt.none_str b t
  | _=>exact aY (show false=true from fx) aj
 | bl a=>
  cases ry;cases x with
  | non=>cases rx;exact SeqAt.EqAt.bool_none a
  | bl b=>cases rx;exact SeqAt.EqAt.bool_bool a b
  | int b=>obtain⟨t,rfl⟩:=rx;exact SeqAt.EqAt.bool_int a b t
  | str b=>obtain⟨t,rfl⟩:=rx;exact SeqAt.EqAt.bool_str a b t
  | _=>exact aY (show false=true from fx) aj
 | int a=>
  obtain⟨t',rfl⟩:=ry;cases x with
  | non=>cases rx;exact SeqAt.EqAt.int_none a t'
  | bl b=>cases rx;exact SeqAt.EqAt.int_bool a t' b
  | int b=>obtain⟨t,rfl⟩:=rx;exact SeqAt.EqAt.int_int a t' b t
  | str b=>obtain⟨t,rfl⟩:=rx;exact SeqAt.EqAt.int_str a t' b t
  | _=>exact aY (show false=true from fx) aj
 | str a=>
  obtain⟨t',rfl⟩:=ry;cases x with
  | non=>cases rx;exact SeqAt.EqAt.str_none a t'
  | bl b=>cases rx;exact SeqAt.EqAt.str_bool a t' b
  | int b=>obtain⟨t,rfl⟩:=rx;exact SeqAt.EqAt.str_int a t' b t
  | str b=>obtain⟨t,rfl⟩:=rx;exact SeqAt.EqAt.str_str a t' b t
  | _=>exact aY (show false=true from fx) aj
 | _=>exact aY (show false=true from fy) aj
def eqU (x:V)(u:Value):Bool:=match u with
 | .none=>eqV .non x
 | .bool b=>eqV (.bl b) x
 | .int i _=>eqV (.int i) x
 | .str z _=>eqV (.str z) x
 | _=>false
theorem tF {x}(r:cb y u)(f:h_ y=true):eqU x u=eqV y x:=by
 cases y with
 | non=>cases r;rfl
 | bl b=>cases r;rfl
 | int i=>obtain⟨t,rfl⟩:=r;rfl
 | str z=>obtain⟨t,rfl⟩:=r;rfl
 | _=>exact aY (show false=true from f) aj
theorem lE {x:V}:∀{xs:List V} {us:List Value},b_ xs us->xs.all h_=true->us.any (eqU x)=xs.any fun y=>eqV y x
 | _,_,.nil,_=>rfl
 | y::xs,u::us,.cons r t,f=>by
  rw[all_cons,and_eq_true] at f;rw[any_cons,any_cons,tF r f.1,lE t f.2]
theorem i7 {A:Around}{s:Shared}{x:V}{v:Value}(rx:cb x v)(fx:h_ x=true):∀{xs:List V} {us:List Value},b_ xs us->xs.all h_=true->∀u∈us,SeqAt.EqAt A s u v (eqU x u)
 | _,_,.nil,_=>fun u hu=>by cases hu
 | y::xs,u::us,.cons r t,f=>fun u' hu=>by
  rw[all_cons,and_eq_true] at f;rcases aV.mp hu with rfl|hu
  ·rw[tF r f.1];exact mD r rx f.1 fx
  ·exact i7 rx fx t f.2 u' hu
def inV (x:V)(xs:List V):Bool:=xs.any fun y=>eqV y x
def rIn (K:Frag)(neg:Bool):R2:=fun x y H Q=>Ex2 fun p xs=>An5 (y=.ref p) (SqL K H p xs\/SqT K H p xs) (h_ x=true) (xs.all h_=true) (Q (.bl (if neg then !inV x xs else inV x xs)) H)
theorem gV:OpR X (compareOp .In) (rIn X.K false):=by
 intro pins s σ H x y v u Q I rx ry h;obtain⟨p,xs,rfl,hq,fx,fs,q⟩:=h;cases ry;rcases hq with hq|hq
 ·obtain⟨its,r,pl,hz⟩:=I.list hq;refine SeqAt.in_listAt (eqU x) pl.isList (fun w hw=>i7 rx fx r fs w (by simpa using hw)) ⟨.bl _,H,I,rfl,?_⟩;rw[show its.toArray.any (eqU x)=its.any (eqU x) by simp,lE r fs];exact q
 ·obtain⟨its,r,pl,hz⟩:=I.tuple hq;refine SeqAt.in_tupleAt (eqU x) pl (fun w hw=>i7 rx fx r fs w (by simpa using hw)) ⟨.bl _,H,I,rfl,?_⟩;rw[show its.toArray.any (eqU x)=its.any (eqU x) by simp,lE r fs];exact q
theorem bE:fe X (.builtin "len") (fun xs H Q=>Ex2 fun p ys=>An3 (xs=[.ref p]) (SqL X.K H p ys\/SqT X.K H p ys) (Q (.int ys.length) H)):=by
 intro pins s σ H xs us Q I r h;obtain⟨p,ys,rfl,hq,q⟩:=h;obtain⟨u,rfl,rx⟩:=fK r;cases rx;have hn:=ms;rcases hq with hq|hq
 ·obtain⟨its,r',pl,hz⟩:=I.list hq;have hlen:=r'.length;exact Calls.call_len_list pl.isList (by simp only[aJ]<;>lia) ⟨.int ys.length,H,I.tok _,⟨s.toks+1,by rw[aJ,hlen]⟩,q⟩
 ·obtain⟨its,r',pl,hz⟩:=I.tuple hq;have hlen:=r'.length;exact len_tuple pl (by simp only[aJ]<;>lia) ⟨.int ys.length,H,I.tok _,⟨s.toks+1,by rw[aJ,hlen]⟩,q⟩
theorem gy:fe X (.type "list") (fun xs H Q=>Ex2 fun p ys=>An3 (xs=[.ref p]) (SqL X.K H p ys\/SqT X.K H p ys) (∀l,H l=none->Q (.ref l) (upd H l (.lst ys)))):=by
 intro pins s σ H xs us Q I r h;obtain⟨p,ys,rfl,hq,q⟩:=h;obtain⟨u,rfl,rx⟩:=fK r;cases rx
 have fin:∀(its:List Value),b_ ys its->ys.length<=sizeLine->∀(h':Heap) (c':Nat),(∀b o',s.heap.get? b=some o'->h'.get? b=some o') ->
   h'.get? s.heap.objs.size=some { cls:=.type "list",dict:=none,data:=.seq its.toArray c',slots:=#[] }->EP X pins σ Q (.ref s.heap.objs.size) { s with heap:=h' }:=fun its r' hz h' c' kp e=>
  ⟨.ref s.heap.objs.size,_,I.laid (t':=s.toks) kp (aD _) (show bI X.prog X.w _ h' _ (.lst ys) from ⟨hz,its,c',r',e⟩),rfl,q _ (I.hok.fresh (aD _))⟩
 rcases hq with hq|hq
 ·obtain⟨its,r',pl,hz⟩:=I.list hq;have hlen:=r'.length;obtain⟨o,ho,hc,n,hd⟩:=pl.isList;exact call_list_seq p (.inl rfl) ho hc hd (fun h' c' kp e=>fin its r' hz h' c' kp e) (by simp only[aJ]<;>lia)
 ·obtain⟨its,r',pl,hz⟩:=I.tuple hq;have hlen:=r'.length;obtain⟨o,ho,hc,n,hd⟩:=pl;exact call_list_seq p (.inr rfl) ho hc hd (fun h' c' kp e=>fin its r' hz h' c' kp e) (by simp only[aJ]<;>lia)
theorem jm:fe X (.type "tuple") (fun xs H Q=>Ex2 fun p ys=>xs=[.ref p]/\((SqL X.K H p ys/\∀l,H l=none->Q (.ref l) (upd H l (.tup ys)))\/(SqT X.K H p ys/\Q (.ref p) H))):=by
 intro pins s σ H xs us Q I r h;obtain⟨p,ys,rfl,h⟩:=h;obtain⟨u,rfl,rx⟩:=fK r;cases rx;rcases h with⟨hq,q⟩|⟨hq,q⟩
 ·obtain⟨its,r',pl,hz⟩:=I.list hq;have hlen:=r'.length;refine call_tuple_list pl.isList (fun h' kp=>?_) (by simp only[aJ]<;>lia);have I1:Inv X pins σ H { s with heap:=h' }:=I.kept (t':=s.toks) kp
  have I2:Inv X pins σ (upd H h'.objs.size (.tup ys)) { s with heap:=h'.push { cls:=.type "tuple",data:=.seq its.toArray } }:=
   I1.laid (t':=s.toks) (fun b o e=>af _ e) (aD _) (show bI X.prog X.w _ _ _ (.tup ys) from ⟨hz,its,r',IsTup.new _ _,du⟩)
  exact⟨.ref h'.objs.size,_,I2,rfl,q _ (I1.hok.fresh (aD _))⟩
 ·obtain⟨its,r',pl,hz⟩:=I.tuple hq;exact call_tuple_same pl ⟨.ref p,H,I,rfl,q⟩
def tyV (K:Frag)(T:String)(x:V)(H:Hp):Prop:=match x with
 | .str _=>T = "str"
 | .int _=>T = "int"
 | .ref p=>(T = "list"/\∃xs,SqL K H p xs)\/(T = "tuple"/\∃o,An3 (K.lookup p=some o) (o.cls=.type "tuple") (o.dict=none)) \/
   (T = "dict"/\((∃kvs,H p=some (.dK kvs))\/∃kvs,H p=some (.dT kvs)))\/(T = "set"/\Ex2 fun S n=>H p=some (.set S n))
 | _=>False
theorem nO {T x v}(I:Inv X pins σ H s)(r:cb x v)(ty:tyV X.K T x H) :
  s.TypeIs v T/\∀a,v=.ref a->∃ob,s.heap.get? a=some ob/\ob.dict=none:=by
 cases x with
 | str z=>
  obtain⟨t,rfl⟩:=r;cases(show T = "str" from ty);exact⟨typeIs_str s z t,fun _ e=>nomatch e⟩
 | int i=>
  obtain⟨t,rfl⟩:=r;cases(show T = "int" from ty);exact⟨typeIs_int s i t,fun _ e=>nomatch e⟩
 | ref p=>
  cases r;rcases ty with⟨rfl,xs,hq⟩|⟨rfl,o,hk,hc,hd⟩|⟨rfl,hk⟩|⟨rfl,S,n,hk⟩
  ·obtain⟨its,_,pl,_⟩:=I.list hq;refine⟨pl.isList.typeIs,fun a e=>?_⟩;cases e;obtain⟨o,n,e,c,hd,_⟩:=pl;exact⟨o,e,hd⟩
  ·refine⟨⟨o,I.kIn p o hk,hc⟩,fun a e=>?_⟩;cases e;exact⟨o,I.kIn _ o hk,hd⟩
  ·have z:∃o,s.heap.get? p=some o/\o.ExactDict:=by
    rcases hk with⟨kvs,hk⟩|⟨kvs,hk⟩
    ·obtain⟨_,_,_,_,o,_,_,e,ex,_⟩:=I.hok p _ hk;exact⟨o,e,ex⟩
    ·obtain⟨_,_,_,_,o,_,_,e,ex,_⟩:=I.hok p _ hk;exact⟨o,e,ex⟩
   obtain⟨o,e,ex⟩:=z;refine⟨⟨o,e,ex.1⟩,fun a e2=>?_⟩;cases e2;exact⟨o,e,ex.2.1⟩
  ·obtain⟨o,_,_,_,e,ex,_⟩:=I.hok p _ hk;refine⟨⟨o,e,ex.1⟩,fun a e2=>?_⟩;cases e2;exact⟨o,e,ex.2.1⟩
 | _=>exact False.elim ty
def yi (K:Frag)(T:String)(r:V->List V->Hp->VK->Prop)(to:TE):TE:=fun σ H Q=>to σ H fun x H1=>tyV K T x H1/\r x [] H1 Q
def tBM (K:Frag)(T:String)(r:V->List V->Hp->VK->Prop)(to:TE)(t:TA):TE:=fun σ H Q=>to σ H fun x H1=>tyV K T x H1/\t σ H1 fun xs H2=>r x xs H2 Q
variable {o:Expr}{to:TE}{t:TA}{T id:String}{r:V->List V->Hp->VK->Prop}
theorem sU (pa:PlainAttrs T)(slot:Slot T name id)(hty:typeOf (.builtin id)=pure (.type "method_descriptor"))(hm:MtR X id r)(ho:PE X o to)
  (hbase:attributeBase o name X.env (eval o X.env)=eval o X.env:=by rfl) (hline:(apos.endLine==cpos.line)=true:=by rfl):PE X (.Call (.Attribute o name apos) [] [] cpos) (yi X.K T r to):=by
 intro pins s σ H Q I h;refine wpAny_Call_method0_late hbase hline (thn (ho pins s σ H _ I h) fun v s1 zz=>?_);obtain⟨x,H1,I1,r1,ty,q1⟩:=zz;obtain⟨h1,h2⟩:=nO I1 r1 ty;exact⟨T,id,pa,slot,hty,h1,h2,Calls.callWith_builtin rfl (PySem.evalArgs_none (hm pins s1 σ H1 x [] v [] Q I1 r1 .nil q1))⟩
theorem kG (pa:PlainAttrs T)(slot:Slot T name id)(hty:typeOf (.builtin id)=pure (.type "method_descriptor"))(hm:MtR X id r)(ho:PE X o to)(ha:PA X (e::es) t)
  (hbase:attributeBase o name X.env (eval o X.env)=eval o X.env:=by rfl)
  (hfew:((backTo cpos (starEach (e::es) X.env)).all (fun x=>!x.1)&&(backToKw cpos (keywordEach [] X.env)).all (fun x=>x.1.isSome)
   && decide ((e::es).length+([]:List Keyword).length+(if ([]:List Keyword).isEmpty then 0 else 1)<30))=true:=by rfl)
  (hline:(apos.endLine==cpos.line)=true:=by rfl) (hs:starEach (e::es) X.env=(false,eval e X.env)::starEach es X.env:=by rfl) (hplain:(backTo cpos (starEach es X.env)).any (·.1)=false:=by rfl) :
  PE X (.Call (.Attribute o name apos) (e::es) [] cpos) (tBM X.K T r to t):=by
 intro pins s σ H Q I h;refine wpAny_Call_method_late hbase hfew hline rfl (thn (ho pins s σ H _ I h) fun v s1 zz=>?_);obtain⟨x,H1,I1,r1,ty,q1⟩:=zz;obtain⟨h1,h2⟩:=nO I1 r1 ty;refine⟨T,id,pa,slot,hty,h1,h2,?_⟩;have hA:=ha cpos pins s1 σ H1 _ I1 q1;rw[hs] at hA ⊢
 refine Calls.callWith_builtin (by show (false||(backTo cpos (starEach es X.env)).any (·.1))=false;rw[hplain]<;>rfl) (Calls.evalArgs_plain ?_);exact thn hA fun us s2 ⟨vs,H2,I2,r2,q2⟩=>hm pins s2 σ H2 x vs v us Q I2 r1 r2 q2
end
def MtM (X:Cx)(id:String)(r:V->List V->Hp->VK->Prop):Prop:=
 ∀(pins:List (Addr×Obj)) (s:Shared) (σ:St) (H:Hp) (x:V) (xs:List V) (v:Value) (us:List Value) (Q:VK),Inv X pins σ H s->cb x v->b_ xs us->r x xs H Q ->
  wpAny (model X.prog X.w) X.A (call (.builtin id) (v::us)) (EP X pins σ Q) X.xe s
theorem b_.one {x us}(h:b_ [x] us):∃u,us=[u]/\cb x u:=by
 cases h with
 | cons r t=>cases t;exact⟨_,rfl,r⟩
theorem b_.zero:∀{us:List Value},b_ [] us->us=[]
 | _,.nil=>rfl
theorem b_.reverse {us:List Value}(h:b_ xs us):b_ xs.reverse us.reverse:=by
 induction h with
 | nil=>exact .nil
 | cons r t ih=>rw[List.reverse_cons,List.reverse_cons];exact b_.append ih (.cons r .nil)
section
theorem Inv.lset {its:List Value}{f:Array Value->Array Value}{t':Nat}(I:Inv X pins σ H s)(hH:H l=some (.lst xs))
  (e:s.heap.get? l=some { cls:=.type "list",data:=.seq its.toArray n }) (hf:f its.toArray=its'.toArray) (hv:b_ ys its') (hz:ys.length<=sizeLine) :
  Inv X pins σ (upd H l (.lst ys)) { s with heap:=s.heap.update l (mapSeq f),toks:=t' }:=by
 have q:=PySem.IsL.update e f;rw[hf] at q;refine I.write (x:=l) (e:=l) (by rw[hH];exact trivial) (.inl rfl) (fun b' u hb hu=>(get?_update_other s.heap (mapSeq f) (dG hb)).trans hu) ⟨_,q⟩ ?_;exact⟨hz,its',_,hv,q⟩
theorem Inv.lnew {its}{t':Nat}(I:Inv X pins σ H s)(hv:b_ ys its)(hz:ys.length<=sizeLine) :
  Inv X pins σ (upd H s.heap.objs.size (.lst ys)) { s with heap:=s.heap.push { cls:=.type "list",data:=.seq its.toArray },toks:=t' }:=
 I.laid (fun _ _ q=>af _ q) (aD _) ⟨hz,its,0,hv,aI _ rfl⟩
theorem Inv.fresh (I:Inv X pins σ H s):H s.heap.objs.size=none:=I.hok.fresh (aD _)
theorem Inv.lstM (I:Inv X pins σ H s)(hH:H l=some (.lst xs)):xs.length<=sizeLine/\Ex2 fun(its:List Value) (n:Nat)=>An3 (b_ xs its) (xs.length=its.length) (s.heap.get? l=some { cls:=.type "list",data:=.seq its.toArray n }):=by
 obtain⟨z,its,n,r,e⟩:=I.hok l _ hH;exact⟨z,its,n,r,r.length,e⟩
end
section
def oz:V->List V->Hp->VK->Prop:=fun x vs H Q=>Ex3 fun l xs y=>An5 (x=.ref l) (vs=[y]) (H l=some (.lst xs)) (xs.length<sizeLine) (Q .non (upd H l (.lst (xs++[y]))))
theorem cR:MtM X "list.append" oz:=by
 intro pins s σ H x vs v us Q I rx rv h;obtain⟨l,xs,y,rfl,rfl,hH,hz,q⟩:=h;cases rx;obtain⟨u,rfl,ru⟩:=rv.one;obtain⟨z,its,n,r,hl,e⟩:=I.lstM hH;refine call_meets F.slot_list_append ⟨_,e,rfl⟩ F.entry_list_append (F.args_list_append_2 _ _) (PySem.list_append l its.toArray n u (by rw[aJ];lia)) ⟨e,?_⟩;refine⟨.non,_,I.lset (its':=its++[u]) hH e (by simp) (r.append (.cons ru .nil)) ?_,rfl,q⟩
 rw[aB,List.length_singleton]
 lia
def vZ:V->List V->Hp->VK->Prop:=fun x vs H Q=>Ex2 fun l xs=>An4 (x=.ref l) (vs=[]) (H l=some (.lst xs)) (Q .non (upd H l (.lst [])))
theorem mq:MtM X "list.clear" vZ:=by
 intro pins s σ H x vs v us Q I rx rv h;obtain⟨l,xs,rfl,rfl,hH,q⟩:=h;cases rx;have hus:=rv.zero;subst hus;obtain⟨z,its,n,r,hl,e⟩:=I.lstM hH;refine call_meets F.slot_list_clear ⟨_,e,rfl⟩ F.entry_list_clear (F.args_list_clear_1 _) (AutoSeq1.list_clear_list_0 l its.toArray n (by rw[aJ];lia)) ⟨e,?_⟩;exact⟨.non,_,I.lset (its':=[]) (ys:=[]) hH e rfl .nil (zero_le _),rfl,q⟩
def zJ:R2:=fun x y H Q=>Ex4 fun l b xs zs=>An6 (x=.ref l) (y=.ref b) (H l=some (.lst xs)) (H b=some (.lst zs)) (xs.length+zs.length<=sizeLine) (∀p,H p=none->Q (.ref p) (upd H p (.lst (xs++zs))))
theorem fV:OpR X (binaryOp .Add) zJ:=by
 intro pins s σ H x y v u Q I rx ry h;obtain⟨l,b,xs,zs,rfl,rfl,hH,hB,hz,q⟩:=h;cases rx;cases ry;obtain⟨z,its,n,r,hl,e⟩:=I.lstM hH;obtain⟨z2,its2,n2,r2,hl2,e2⟩:=I.lstM hB;refine PySem.P.add_list e e2 ?_ (by rw[aJ,aJ];lia);have ea:its.toArray++its2.toArray=(its++its2).toArray:=by simp
 rw[ea];exact⟨.ref _,_,I.lnew (t':=s.toks) (r.append r2) (by rw[aB];lia),rfl,q _ I.fresh⟩
end
section
end
section
end
end L2
namespace Att
open PySem PySem.W PySem.Calls PyProof.Rows
theorem h9 {P:Params}{h}:∀(ns:List Int) (vs:List Value),WellAll P h vs (ns.map WData.int)->IntsAre vs ns:=by
 intro ns
 induction ns with
 | nil=>
  intro vs w;rw[map_nil] at w;cases w;exact .nil
 | cons n ns ih=>
  intro vs w;rw[bX] at w;cases w with
  | cons a b=>
   cases a;exact .cons _ _ (ih _ b)
theorem or {l:OpenLaw}{n:Nat}(hn:l.most=some n){P:Params}{h:Heap}{args:List WData}{vals}
  (hpre:l.row.toRowW.claim.pre args=true) (hwl:WellAll P h vals args) :
  ∃a vs ns,vals=[Value.ref a]/\args=[WData.list (ns.map WData.int)]/\h.get? a=some { cls:=.type "list",data:=.seq vs.toArray }/\IntsAre vs ns/\ns.length<=n:=by
 have hsh:WShape.hasAll [] args [.list .int]=true:=(pre_splitW hpre).1;have hc:l.pre.holds [] { args:=args }=true:=(pre_splitW hpre).2;obtain⟨d,r,rfl,h1,h2⟩:=hasAllW_cons hsh;obtain rfl:=hasAllW_nil h2;obtain⟨xs,rfl,h3⟩:=hasW_list h1;obtain⟨ns,rfl⟩:=items_int h3
 have hlen:ns.length<=n:=by
  unfold OpenLaw.pre at hc
  have h4:(WTm.not (.lt (.lit (.int (n:Int))) (.len (.arg 0)))).holds [] { args:=[.list (ns.map .int)] }=true:=by
   have h4:=(holds_andW hc).1;rw[hn] at h4;exact h4
  have h5:=condW_of h4 (w_not (w_lt w_lit (w_len_list (w_arg rfl))));rw[au] at h5;refine Nat.le_of_not_lt fun q=>?_;have q':(n:Int)<((ns.length:Nat):Int):=by lia
  first
   | (rw[aq q'] at h5;exact aY h5 (by decide))
   | (simp at h5;lia)
 cases hwl with
 | cons w1 w2=>
  cases w2;cases w1 with
  | list ho hall=>exact⟨_,_,ns,rfl,rfl,ho,h9 ns _ hall,hlen⟩
theorem oK (l:OpenLaw)(args:List WData):l.row.toRowW.claim.post args (.bool true) args=true:=
 postW_of (r:=l.row.toRowW) (X:=(true==true))
  (show WShape.has [] (.bool true) .bool=true by first|rfl|decide|simp[WShape.has,WShape.arms,WShape.armsAll])
  (show (WTm.eq .res (.lit (.bool true))).value [] { args:=args,res:=some (.bool true),after:=args }=some (.bool (true==true)) from w_eq_bool (w_res rfl) w_lit) rfl
theorem attach_call {l:OpenLaw}{n:Nat}{q loose}{XP:(Str->Option Value)->Heap->Prop}{YP:World->Heap->Prop}{d:DefRec}
  (hn:l.most=some n) (hdf:d.params.defaults=[])
  (call:∀(w:World) (s₀ s₁:Shared) (mg mb:Str->Option Value) (fa:Addr) (o:Obj) (pm cd doc:Value) (a:Addr) (vs:List Value) (ns:List Int),
   Ground q loose [] XP w s₀ mg mb s₁.heap->YP w s₁.heap ->
   s₁.heap.get? fa=some o->o.data=.func (docDef d.name d.params d.body d.scope pm cd doc)->s₁.heap.CodeRec cd d.name->mg d.name=some (.ref fa) ->
   s₁.heap.get? a=some { cls:=.type "list",data:=.seq vs.toArray }->IntsAre vs ns->ns.length<=n->s₁.gens = #[] ->
   codeAny (model l.prog w) callerA (.call (.ref fa) ⟨[.ref a],[]⟩) (fun r s'=>r=.ok (.ret (.bool true))/\OldK s₁.heap s'.heap/\s'.os=s₁.os/\AllBare s'.gens) s₁) :
  WalkO q loose XP YP l.row.toRowW d [] (fun f vs=>PySem.call f vs):=by
 intro w s₀ s₁ mg mb G Y fa o pm cd doc dV kV ho hd hcd hD hmg hg args vals as hpre hlay hrd hwl hlo;obtain rfl:dV=.none:=Dflts.none hD hdf;obtain rfl:kV=.none:=Dflts.noKw hD;obtain⟨a,vs,ns,rfl,rfl,hobj,hints,hlen⟩:=or hn hpre hwl;refine enter_call (codeAny_mono (call w s₀ s₁ mg mb fa o pm cd doc a vs ns G Y ho (fd_plain hd) hcd hmg hobj hints hlen hg) fun r s' hq=>?_)
 obtain⟨rfl,h2,h3,h4⟩:=hq;exact⟨.inl ⟨.bool true,.bool true,[],rfl,fun _=>rfl,.bool true,oK l _,fun _=>⟨List.Pairwise.nil,fun _ hm=>(nomatch hm)⟩⟩,h2,h3,h4⟩
section
variable {K:Frag}
end
end Att
namespace L2
open PySem PySem.Spec PyProof.Rows
theorem gH:∀{vs:List Value} {ns:List Int},IntsAre vs ns->b_ (ns.map V.int) vs
 | _,_,.nil=>.nil
 | _,_,.cons n t h=>.cons ⟨t,rfl⟩ (gH h)
abbrev KOf {K:Frag}{h:Heap}(_:K.In h):Frag:=K
def dP (s:Stmt)(j:Nat):Stmt:=match s with
 | .ClassDef _ _ _ body _ _ _ _ _ _ _=>body.getD j (.Pass ⟨0,0,0,0⟩)
 | _=>.Pass ⟨0,0,0,0⟩
def cf (s:Stmt):Arguments:=match s with
 | .FunctionDef _ a _ _ _ _ _ _ _ _=>a
 | _=>{ posonlyargs:=[],args:=[],vararg:=none,kwonlyargs:=[],kw_defaults:=[],kwarg:=none,defaults:=[] }
def bP (s:Stmt):List Stmt:=match s with
 | .FunctionDef _ _ b _ _ _ _ _ _ _=>b
 | _=>[]
def aO (s:Stmt):Scope:=match s with
 | .FunctionDef _ _ _ _ _ _ sc _ _ _=>sc
 | _=>{ kind:=.function,names:=[],isGenerator:=false,isCoroutine:=false }
abbrev CX0:CXT:=fun _ _ _ _ _ _=>False
abbrev E0:XK:=fun _ _ _=>False
theorem uv:ei CX0 X E0:=fun _ _ _ _ _ _ _ h=>h.elim
structure Fun (K:Frag)(x qual:Str)(st:Stmt)(f:Addr)(fd:FuncData):Prop where
 ex:∃(oc:Value) (od:Option Addr) (kV doc pm:Value) (an:Option Addr) (cdv ct:Value) (osl:Array (Option Value)),
  An3 (fd=fnOf x qual (cf st) (bP st) (aO st) .none kV doc pm an cdv ct) (K.lookup f=some ⟨oc,od,.func fd,osl⟩) (codeIn K cdv qual=true)
 kp:keepIn K (.ref f)=true
section
theorem Fun.ok {N}{k:Nat}(F:Fun K x qual st f fd)(S:FnScope N ps (aO st))(len:∀vs H Q E,sp vs H Q E->vs.length=ps.length)
  (hbody:∀(cdv:Value) (A:Around) (outer:List Env) (s:Shared) (H:Hp) (vs:List V) (Q:VK) (E:XK),RoomG bb k (A.deeper (envOfC qual (aO st) s.heap.objs.size f cdv))->sp vs H Q E ->
   ∃t,PSs (ir bb CX0 P w K mg base N qual (aO st) f cdv A outer s H E).nox (bP st) t/\t { nx:=fun _ H'=>Q .non H',rt:=Q } (start N vs) H):FnOkG bb P w K mg base CX0 (k+1) f fd ps sp:=by
 obtain⟨oc,od,kV,doc,pm,an,cdv,ct,osl,rfl,lk,hcd⟩:=F.ex;refine uV lk hcd S len fun A outer s H vs Q E hr hsp=>?_;obtain⟨t,h,q⟩:=hbody cdv A outer s H vs Q E hr hsp;exact⟨t,h.nox,q⟩
theorem Fun.binds (F:Fun K x qual st f fd)
  (h:∀(kV doc pm:Value) (an:Option Addr) (cdv ct:Value) (us:List Value),us.length=ps.length->bindArgs (fnOf x qual (cf st) (bP st) (aO st) .none kV doc pm an cdv ct) ⟨us,[]⟩=pure (ps.zip us)):eS K fd ps []:=by
 obtain⟨oc,od,kV,doc,pm,an,cdv,ct,osl,rfl,lk,hcd⟩:=F.ex;exact .all (h kV doc pm an cdv ct)
theorem gw {kV ct}(l:K.lookup f=some ⟨oc,od,.func (fnOf x qual (cf st) (bP st) (aO st) .none kV doc pm an cdv ct),osl⟩)
  (c:codeIn K cdv qual=true) (k:keepIn K (.ref f)=true):Fun K x qual st f (fnOf x qual (cf st) (bP st) (aO st) .none kV doc pm an cdv ct):=⟨⟨oc,od,kV,doc,pm,an,cdv,ct,osl,rfl,l,c⟩,k⟩
end
theorem lf {k:Nat}(hr:jp k A):A.units+1<cLine:=lt_of_le_of_lt (Nat.add_le_add_left (by decide:1<=64) _) hr.units
section
theorem pv (i:Nat)(hN:X.N[i]?=some x:=by rfl)(hv:Vis X.env.scope x:=by first|exact Or.inl rfl|exact Or.inr (Or.inl rfl)|exact Or.inr (Or.inr rfl))(hd:(x==("__debug__" : Str))=false:=by decide)
  (hcd:(x==("__classdict__" : Str))=false:=by decide):PE X (.Name x pos) (xN i):=wd hN hv hd hcd
end
theorem cG {A:Prop}(h:B):if false=true then A else B:=by
 rw[ah aj];exact h
theorem dk {A:Prop}(h:A):if true=true then A else B:=by
 rw[ak rfl];exact h
theorem iq {c A:Prop}[Decidable c](h1:c->A)(h2:¬c->B):if c then A else B:=by
 by_cases h:c
 ·rw[ak h];exact h1 h
 ·rw[ah h];exact h2 h
def aZ (H H':Hp):Prop:=∀b o,H b=some o->H' b=some o
theorem aZ.refl (H:Hp):aZ H H:=fun _ _ h=>h
theorem aZ.trans (a:aZ H H1)(b:aZ H1 H2):aZ H H2:=fun c o h=>b c o (a c o h)
theorem aZ.free (e:aZ H H')(h:H' l=Option.none):H l=Option.none:=by
 cases q:H l with
 | none=>rfl
 | some o=>
  rw[e l o q] at h;cases h
section
variable {κ:Type}[DecidableEq κ]
end
variable {CX:L2.CXT}{X Y:L2.Cx}{o o0:L2.HO}{H H' H1 H2 H₂ h1:L2.Hp}{J:L2.It}{r r':L2.R2}{sp:L2.Sp}{σ:L2.St}{ct:L2.St->L2.Hp->Prop}{t4 ta td te tl tv tx ty:L2.TE}{wi wi2:L2.TI}{th:L2.TO}{tb:L2.TS}{tA tc tc2 tt:L2.TT}{v y:L2.V}{Z:L2.V->L2.Hp->(List (Option L2.V)->Prop)->Prop}{rd:L2.V->L2.V->L2.Hp->L2.VK->Prop}{rr:L2.V->List L2.V->L2.Hp->L2.VK->Prop}{rt:L2.VK}{kvs:List (L2.Key×L2.V)}{trs:List (L2.TE×L2.TE)}{dvs xs ys zs:List L2.V}
def nJ (env:Env):List (Str×NameKind)->List (Str×Addr)->List (Str×Addr)
 | [],cs=>cs
 | (n,k)::r,cs=>nJ env r (if (k==NameKind.free)=true then (n,(env.cells.lookup n).getD 0)::cs else cs)
theorem ie {env:Env}:∀(ns:List (Str×NameKind)) (cs:List (Str×Addr)),(∀y∈ns,y.2=.free->∃c,env.cells.lookup y.1=some c) ->
  (forIn (m:=Sem) ns cs fun y cs=>if (y.2==NameKind.free)=true then (do let a <- cellOf env y.1;pure (ForInStep.yield ((y.1,a)::cs))) else pure (ForInStep.yield cs))=pure (nJ env ns cs)
 | [],cs,_=>rfl
 | (n,k)::r,cs,h=>by
  rw[forIn_cons];have hr:∀y∈r,y.2=.free->∃c,env.cells.lookup y.1=some c:=fun y hy=>h y (aX _ hy);by_cases hk:(k==NameKind.free)=true
  ·obtain⟨c,hc⟩:=h (n,k) bt (beq_iff_eq.mp hk);have e1:cellOf env n=pure c:=by unfold cellOf;rw[show env.cells.lookup n=some c from hc]
   simp only[hk,if_true,e1,pure_bind];rw[ie r _ hr];show _=pure (nJ env r (if (k==NameKind.free)=true then (n,(env.cells.lookup n).getD 0)::cs else cs));rw[ak hk,show env.cells.lookup n=some c from hc];rfl
  ·simp only[hk,false_eq_true,if_false,pure_bind];rw[ie r _ hr];show _=pure (nJ env r (if (k==NameKind.free)=true then (n,(env.cells.lookup n).getD 0)::cs else cs));rw[ah hk]
theorem iI (h:∀y∈scope.names,y.2=.free->∃c,env.cells.lookup y.1=some c):closureFor scope env=pure (nJ env scope.names []):=by
 unfold closureFor;refine Eq.trans ?_ ((ie scope.names [] h).trans rfl)
 first
  | rfl
  | (simp;rfl)
  | simp
theorem jY {env:Env}{x c}:∀(ns:List (Str×NameKind)) (cs:List (Str×Addr)),(∀y∈ns,y.2=.free->∃c,env.cells.lookup y.1=some c) ->
  (∀c,cs.lookup x=some c->env.cells.lookup x=some c)->(nJ env ns cs).lookup x=some c->env.cells.lookup x=some c
 | [],cs,_,hc,e=>hc c e
 | (n,k)::r,cs,h,hc,e=>by
  refine jY r _ (fun y hy=>h y (aX _ hy)) (fun c' e'=>?_) e;by_cases hk:(k==NameKind.free)=true
  ·rw[ak hk] at e';rw[lookup_cons] at e';cases hx:x==n with
   | true=>
    rw[hx] at e';obtain⟨c2,h2⟩:=h (n,k) bt (beq_iff_eq.mp hk);have h2':=h2;rw[h2'] at e';rw[beq_iff_eq.mp hx,h2'];exact e'
   | false=>
    rw[hx] at e';exact hc c' e'
  ·rw[ah hk] at e';exact hc c' e'
theorem jk {env:Env}{x:Str}:∀(ns:List (Str×NameKind)) (cs:List (Str×Addr)),((x,NameKind.free)∈ns\/(∃c,cs.lookup x=some c))->∃c,(nJ env ns cs).lookup x=some c
 | [],cs,h=>by
  rcases h with h|h
  ·cases h
  ·exact h
 | (n,k)::r,cs,h=>by
  refine jk r _ ?_;rcases h with h|⟨c,h⟩
  ·rcases aV.mp h with e|e
   ·cases e;refine .inr ⟨(env.cells.lookup x).getD 0,?_⟩;rw[ak (by rfl),lookup_cons];simp
   ·exact .inl e
  ·right
   by_cases hk:(k==NameKind.free)=true
   ·rw[ak hk,lookup_cons];cases hx:x==n with
    | true=>exact⟨_,rfl⟩
    | false=>exact⟨c,h⟩
   ·rw[ah hk];exact⟨c,h⟩
def blk (X:Cx)(scope:Scope)(Nc:List Str)(C:Addr)(s₂:Shared)(H₂:Hp)(ex:List Addr)(pins:List (Addr×Obj)):Cx:=
  { prog:=X.prog,w:=X.w,K:=X.K,mg:=X.mg,base:=X.base,A:=X.A,N:=Nc,s₀:=s₂,H₀:=H₂,env:=compEnvC scope (nJ X.env scope.names []) C X.env,outer:=X.stack,stack:=X.stack,ex:=ex,
    fn:=fun _=>false,calm:=X.calm,pn:=X.pn++pins,xe:=fun _ _=>False }
structure BlkG (X:Cx)(scope:Scope)(xs Nf:List Str)(js:List Nat):Prop where
 kind:scope.kind=.function
 nocell:∀y∈scope.names,y.2≠.cell
 loc:∀y∈scope.names,y.2=.local->scope.names.lookup y.1=some .local
 own:∀x∈xs,scope.names.lookup x=some .local
 nd:(xs++Nf).Nodup
 free:∀y∈scope.names,y.2=.free->X.env.kindOf y.1=some .cell
 slots:Nf.length=js.length
 at_:∀(i:Nat) (z:Str),Nf[i]?=some z->∃j:Nat,An4 (js[i]?=some j) (X.N[j]?=some z) (scope.names.lookup z=some .free) (X.env.scope.names.lookup z=some .cell)
section
variable {xs:List Str}
theorem BlkG.hasCell (B:BlkG X scope xs Nf js)(ok:X.Ok):∀y∈scope.names,y.2=.free->∃c,X.env.cells.lookup y.1=some c:=fun y hy hf=>ok.has y.1 (.inl (B.free y hy hf))
theorem BlkG.look (B:BlkG X scope xs Nf js)(ok:X.Ok){z c}(e:(nJ X.env scope.names []).lookup z=some c):X.env.cells.lookup z=some c:=
 jY scope.names [] (B.hasCell ok) (fun c h=>by simp at h) e
theorem gm {sc:Scope}{env:Env}{z}:∀{ns:List (Str×NameKind)},(∀y∈ns,y.2≠.cell) ->
    ((ns.map fun(n,k)=>if (k==NameKind.free&&env.scope.kind==.function&&env.kindOf n==some .cell) then (n,NameKind.cell) else (n,k)).lookup z=some .cell \/
     (ns.map fun(n,k)=>if (k==NameKind.free&&env.scope.kind==.function&&env.kindOf n==some .cell) then (n,NameKind.cell) else (n,k)).lookup z=some .free)->(z,NameKind.free)∈ns
  | [],_,h=>by simp at h
  | (n,k)::r,hc,h=>by
    have ih:=@gm sc env z r fun y hy=>hc y (aX _ hy);rw[bX,lookup_cons] at h;by_cases hk:(k==NameKind.free&&env.scope.kind==.function&&env.kindOf n==some .cell)=true
    · have kf:k=.free:=by
        rw[and_eq_true,and_eq_true] at hk;exact beq_iff_eq.mp hk.1.1
      subst kf;simp only[hk,if_true] at h;cases hz:z==n with
      | true=>rw[beq_iff_eq.mp hz];exact bt
      | false=>rw[hz] at h;exact aX _ (ih h)
    · simp only[hk,false_eq_true,if_false] at h
      cases hz:z==n with
      | true=>
        rw[hz] at h
        have h':k=.cell\/k=.free:=by
          rcases h with h|h
          · exact .inl (aG h)
          · exact .inr (aG h)
        rcases h' with e|e
        · exact aY e (hc (n,k) bt)
        · rw[beq_iff_eq.mp hz,e];exact bt
      | false=>rw[hz] at h;exact aX _ (ih h)
theorem jC {z}(hk:env.scope.kind=.function)(hz:env.kindOf z=some .cell):∀{ns:List (Str×NameKind)},(∀y∈ns,y.2=.local->ns.lookup y.1=some .local)->(∀y∈ns,y.2≠.cell)->ns.lookup z=some .free ->
  (ns.map fun(n,k)=>if (k==NameKind.free&&env.scope.kind==.function&&env.kindOf n==some .cell) then (n,NameKind.cell) else (n,k)).lookup z=some .cell
 | [],_,_,h=>by simp at h
 | (n,k)::r,_,_,h=>by
  have ih:∀{ns:List (Str×NameKind)},ns.lookup z=some .free->(ns.map fun(n,k)=>if (k==NameKind.free&&env.scope.kind==.function&&env.kindOf n==some .cell) then (n,NameKind.cell) else (n,k)).lookup z=some .cell:=by
   intro ns
   induction ns with
   | nil=>intro h;simp at h
   | cons p ps ihp=>
    intro h;obtain⟨n',k'⟩:=p;rw[lookup_cons] at h;rw[bX,lookup_cons];cases hx:z==n' with
    | true=>
     rw[hx] at h;have e:=aG h;subst e;rw[<- beq_iff_eq.mp hx];simp[hk,hz]
    | false=>
     rw[hx] at h;by_cases hc:(k'==NameKind.free&&env.scope.kind==.function&&env.kindOf n'==some .cell)=true
     ·simp only[hc,if_true,hx];exact ihp h
     ·simp only[hc,false_eq_true,if_false,hx];exact ihp h
  exact ih h
theorem BlkG.ok (B:BlkG X scope xs Nf js)(I:Inv X pins σ H s)(hC:s.heap.objs.size<=C)(hf:∀b∈fp,kc X pins H b)(ho:∀b∈fp,∃o,s.heap.get? b=some o/\∀v,o.data≠.cell v) :
  (blk X scope (xs++Nf) C s H fp pins).Ok where
 mod:=I.ok.mod
 kind:=B.kind
 glob:=I.ok.glob
 blt:=I.ok.blt
 above:=hC
 inj:=fun y z c h1 h2=>I.ok.inj y z c (B.look I.ok h1) (B.look I.ok h2)
 has:=fun z hz=>jk scope.names [] (.inl (gm (sc:=scope) B.nocell hz))
 cab:=fun y c h _=>Bool.noConfusion h
 hd:=fun h=>I.ok.hd h
 frames:=I.ok.frames
 stk:=.inl rfl
 exf:=fun b hb=>by
  obtain⟨o,e,d⟩:=ho b hb;refine⟨av (aH (aS e) hC),fun z c h=>(hf b hb).2.2.2.2.1 z c (B.look I.ok h)⟩
 bs:=I.bs
 bsz:=Nat.le_trans I.ok.bsz I.sz
 noex:=fun b o e hb=>by
  rcases(hf b hb).2.2.2.1 with z|z
  ·exact I.ok.noex b o e z
  ·exact aY (aH (aS e) (Nat.le_trans I.ok.bsz z)) (Nat.lt_irrefl _)
 exfs:=fun b hb hs=>by
  rcases aV.mp (I.stkSub b hs) with e|e
  ·exact(hf b hb).2.1 e
  ·exact(hf b hb).2.2.1 e
 funs:=I.stack
 frf:=I.stkFree
def rst (js:List Nat)(σ:St):St:=js.map fun j=>(σ[j]?).getD none
theorem BlkG.inv (B:BlkG X scope xs Nf js)(I:Inv X pins σ H s)(hf:∀b∈fp,kc X pins H b)(ho:∀b∈fp,∃o,s.heap.get? b=some o/\∀v,o.data≠.cell v)
  {h₁:Heap} {tk:Nat} (new:∀h',(∀b u,(s.heap.push ob).get? b=some u->h'.get? b=some u)->bI X.prog X.w (upd H s.heap.objs.size o0) h' s.heap.objs.size o0) (hn:h₁.Ns (s.heap.objs.size+1) (fun _=>none)) (hs:Heap.SameBut (s.heap.objs.size+1) ((s.heap.push ob).push { cls:=.type "dict",data:=.dict #[] }) h₁) :
  Inv (blk X scope (xs++Nf) (s.heap.objs.size+1) s H fp pins) [] (replicate xs.length none++rst js σ) (upd H s.heap.objs.size o0) { s with heap:=h₁,toks:=tk }:=by
 have old:∀b o,s.heap.get? b=some o->h₁.get? b=some o:=fun b o e=>
  hs.extBut b o (av (lt_succ_of_lt (aS e))) (af _ (af _ e))
 have in1:∀b u,(s.heap.push ob).get? b=some u->h₁.get? b=some u:=fun b u e=>hs.extBut b u (av (by have:=aS e;rwa[size_push] at this)) (af _ e);have fD:H s.heap.objs.size=none:=I.hok.fresh (by lia)
 have cellAt:∀z c,(nJ X.env scope.names []).lookup z=some c->c<s.heap.objs.size:=fun z c e=>by
  obtain⟨v,q⟩:=I.cell z c (B.look I.ok e);exact q.lt
 have J:=I.laid (a:=s.heap.objs.size) (o:=o0) (h':=h₁) (t':=tk) old (by lia) (new h₁ in1);refine⟨B.ok I (le_succ _) hf ho,rfl,I.bare,Un.laid old (aD _) fD,⟨_,hn,fun i z v h1 h2 h3=>?_⟩,fun z c e=>?_,?_,fun z c e=>?_,fun p hp=>?_,J.hok,?_⟩
 ·-- a name of the block that has a value: one of the def's
  by_cases hi:i<xs.length
  ·rw[cy (by rw[length_replicate];exact hi),List.getElem?_replicate,ak hi] at h2;cases h2
  ·obtain⟨i,rfl⟩:∃k,i=xs.length+k:=⟨i - xs.length,by lia⟩
   have h1':Nf[i]?=some z:=by
    have:(xs++Nf)[xs.length+i]?=some z:=h1
    rwa[bJ (by lia),Nat.add_sub_cancel_left] at this
   have h2':(js.map fun j=>(σ[j]?).getD none)[i]?=some (some v):=by
    rwa[bJ (by rw[length_replicate];lia),length_replicate,Nat.add_sub_cancel_left] at h2
   obtain⟨j,e1,e2,e3,e4⟩:=B.at_ i z h1';rw[aQ,e1] at h2';have h2'':(σ[j]?).getD none=some v:=aG h2'
   have e5:σ[j]?=some (some v):=by
    cases q:σ[j]? with
    | none=>rw[q] at h2'';cases h2''
    | some y=>rw[q] at h2'';exact bL some h2''
   obtain⟨m,hm,hl⟩:=I.loc;obtain⟨u,r,l⟩:=hl j z v e2 e5 (.inr (.inl e4));refine⟨u,r,.inr ⟨.inl ?_,?_⟩⟩
   ·exact jC I.ok.kind e4 B.loc B.nocell e3
   ·rcases l with⟨k,_⟩|⟨_,c,hc,q⟩
    ·rw[show X.env.kindOf z=X.env.scope.names.lookup z from rfl,e4] at k;cases k
    ·obtain⟨c',hc'⟩:=jk (env:=X.env) (x:=z) scope.names [] (.inl (PySem.mem_of_lookup e3));have e6:=B.look I.ok hc';rw[hc] at e6;cases e6;exact⟨c,hc',q.keeps old⟩
 ·obtain⟨v,q⟩:=I.cell z c (B.look I.ok e);exact⟨v,q.keeps old⟩
 ·show upd H s.heap.objs.size o0 (s.heap.objs.size+1)=none;rw[aE (ne_of_gt (lt_succ_self _))];exact(I.hok.fresh (le_succ _))
 ·rw[aE (av (cellAt z c e))];exact I.freeC z c (B.look I.ok e)
 ·have hp':p∈X.pn++pins:=by
   have:p∈(X.pn++pins)++[]:=hp
   rwa[cH] at this
  obtain⟨e,n,ne,nf,d⟩:=I.pin p hp';refine⟨old _ _ e,?_,av (lt_succ_of_lt (aS e)),fun z=>?_,d⟩
  ·rw[aE (av (aS e))];exact n
  ·rcases aV.mp (I.stkSub p.1 z) with q|q
   ·exact ne q
   ·exact nf q
 ·show _=(xs++Nf).length;rw[aB,aB,length_replicate,B.slots];exact bL _ (au _)
theorem BlkG.back (B:BlkG X scope xs Nf js){pl}{τ:St}(I:Inv X pins σ H s)(hf:∀b∈fp,kc X pins H b)(hC:s.heap.objs.size<=C)
  (J:Inv (blk X scope (xs++Nf) C s H fp pins) pl τ H' s') (hs:Heap.SameBut C s'.heap h'):Inv X pins σ H' { s' with heap:=h' }:=by
 have nC:H' C=none:=J.free;refine I.call' (s':={ s' with heap:=h' }) (ch:=fp) J.os ⟨fun b o e n hb hx=>?_,fun b o e n hb hx=>?_,J.base.free,fun b o e hx=>?_,J.base.tups,J.base.frzs,J.base.tbls⟩ ?_ J.bare (fun b hb=>?_)
 ·exact hs.extBut b o (av (aH (aS e) hC)) (J.base.keep b o e n hb hx)
 ·obtain⟨sl,e1⟩:=J.base.slot b o e n hb hx;exact⟨sl,hs.extBut b _ (av (aH (aS e) hC)) e1⟩
 ·obtain⟨o',e1⟩:=J.base.there b o e hx;exact⟨o',hs.extBut b _ (av (aH (aS e) hC)) e1⟩
 ·intro a o e;refine(J.hok a o e).stay (fun b u hb q=>hs.extBut b u ?_ q) (fun _ q=>q) fun _ _ q=>q;rcases hb with rfl|hb
  ·exact fun z=>by rw[z,nC] at e;cases e
  ·exact fun z=>by rw[z,nC] at hb;cases hb
 ·obtain⟨_,f1,f2,f3,f4,f5⟩:=hf b hb;exact⟨f3,f1,f4,f5⟩
end
inductive PTs (X:Cx):List Expr->TT->Prop where
 | nil:PTs X [] (fun _ H Q=>Q true H)
 | one {c:Expr} {t:TT} (h:PT X c t):PTs X [c] t
theorem PTs.run {t}(h:PTs X ifs t){Q:Bool->Hp->Prop}(I:Inv X pins σ H s)(q:t σ H Q) :
  wpAny (model X.prog X.w) X.A (forIn ifs true fun c r=>if r=true then do let ok <- isTrue c X.env (eval c X.env);pure (ForInStep.yield ok) else pure (ForInStep.yield r)) (TP X pins σ Q) X.xe s:=by
 cases h with
 | nil=>exact ae ⟨H,I,q⟩
 | @one c t h=>
  rw[forIn_cons];refine aa ?_;rw[ak rfl];exact aa (thn (h pins s σ H Q I q) fun b s1 q1=>ae (ae q1))
section
abbrev nU (ifs:List Expr)(env:Env):Sem Bool:=forIn ifs true fun c r=>if r=true then do let ok <- isTrue c env (eval c env);pure (ForInStep.yield ok) else pure (ForInStep.yield r)
def x9 (J:Nat->Shared->Prop)(n:Nat)(t:Shared):Prop:=∃m,m<n/\J m t
theorem nw {it}{N:Value->Shared->Prop}(eN:N=notedBy (model prog w) A env fun e s'=>R (.error e) s')(J:Nat->Shared->Prop)
  (turn:∀n s,J n s->wpAny (model prog w) A (pyNext it) (fun r s1=>(r=none->R (.ok .next) s1)/\∀v,r=some v->wpAny (model prog w) A (letOwnedTupleGo target it v) (fun _ s0=>wpAny (model prog w) A (assign target env v) (fun _ s2=>wpAny (model prog w) A (nU ifs env)
   (fun ok s3=>(ok=false->x9 J n s3)/\(ok=true->wpAny (model prog w) A (eval elt env) (fun x s4=>wpAny (model prog w) A (call (.builtin "list.append") [acc,x]) (fun _ s5=>x9 J n s5) N s4) N s3)) N s2) N s0) N s1) N s)
  (n:Nat) (h:J n s):codeAny (model prog w) A (.compLoop (.ListComp elt [⟨target,iter,ifs,0⟩] scope pos) 0 it acc env) R s:=by
 subst eN;refine codeAny_loop rfl J (fun n s hJ=>?_) n h;refine(show wpAny _ A ((compTurn (.ListComp elt [⟨target,iter,ifs,0⟩] scope pos) 0 it acc env).onRaise (fun x=>do noteFrame x env;theTreesLotGoes x)) _ _ s from wpAny_noted ?_);rw[compTurn_list];refine aa (wpAny_standAt (aa (thn (turn n s hJ) fun r s1 zz=>?_)));obtain⟨q0,q1⟩:=zz;cases r with
 | none=>exact ae (q0 rfl)
 | some v=>
  refine aa (thn (q1 v rfl) fun _ s0 q2=>aa (thn q2 fun _ s2 q3=>aa (thn q3 fun ok s3 zz=>?_)));obtain⟨no,yes⟩:=zz;cases ok with
  | false=>exact ae ⟨rfl,no rfl⟩
  | true=>exact aa (aa (thn (yes rfl) fun x s4 q4=>aa (thn q4 fun _ s5 q5=>ae (ae ⟨rfl,q5⟩))))
end
structure Kind (prog:Program)(w:World)(A:Around)(ce:Expr)(dp:Nat)(tg:Expr)(ifs:List Expr)(PUT:Env->Addr->(Shared->Prop)->(Value->Shared->Prop)->Shared->Prop):Prop where
 start:∀{it acc:Value} {env:Env} {R:Result->Shared->Prop} {s:Shared},codeAny (model prog w) A (.compLoop ce dp it acc env) R s->wpAny (model prog w) A (pyIter it) (fun it' s'=>codeAny (model prog w) A (.compLoop ce dp it' acc env) R s') (notedBy (model prog w) A env fun x s'=>R (.error x) s') s->codeAny (model prog w) A (.compStart ce dp it acc env) R s
 turns:∀{it:Value} {D:Addr} {env:Env} {R:Result->Shared->Prop} {s:Shared} {N:Value->Shared->Prop},N=notedBy (model prog w) A env (fun e s'=>R (.error e) s')->∀J:Nat->Shared->Prop,
  (∀n s,J n s->wpAny (model prog w) A (pyNext it) (fun r s1=>(r=none->R (.ok .next) s1)/\∀v,r=some v->wpAny (model prog w) A (letOwnedTupleGo tg it v) (fun _ s0=>wpAny (model prog w) A (assign tg env v) (fun _ s2=>wpAny (model prog w) A (nU ifs env)
   (fun ok s3=>(ok=false->x9 J n s3)/\(ok=true->PUT env D (x9 J n) N s3)) N s2) N s0) N s1) N s)->∀n,J n s->codeAny (model prog w) A (.compLoop ce dp it (.ref D) env) R s
def sA (prog:Program)(w:World)(A:Around)(newAcc:Sem Value)(ob:Obj):Prop:=∀{Q:Value->Shared->Prop} {E:Value->Shared->Prop} {s:Shared},Q (.ref s.heap.objs.size) { s with heap:=s.heap.push ob }->wpAny (model prog w) A newAcc Q E s
def fM (o0:HO)(Z:V->Hp->(List (Option V)->Prop)->Prop)(js:List Nat)(wi:TI)(tc:TT)(tp:Addr->St->Hp->(Hp->Prop)->Prop):TE:=fun σ H Q=>wi σ H fun J H1=>∀D,H1 D=none->∃W:Nat->Nat->Hp->Prop,(∃m,W 0 m (upd H1 D o0))/\∀i m H2,W i m H2 ->
 (J.stop i H2/\Q (.ref D) H2)\/(J.go i H2/\∀v H3,J.yld i H2 v H3->Z v H3 fun vs=>tc (vs++rst js σ) H3 fun b H4=>
  if b=true then tp D (vs++rst js σ) H4 fun H5=>∃m',m'<m/\W (i+1) m' H5
  else ∃m',m'<m/\W (i+1) m' H4)
def pL (te:TE):Addr->St->Hp->(Hp->Prop)->Prop:=fun D σ H R=>te σ H fun y H5=>∃ys,H5 D=some (.lst ys)/\ys.length<sizeLine/\R (upd H5 D (.lst (ys++[y])))
def pD (tk tv:TE):Addr->St->Hp->(Hp->Prop)->Prop:=fun D σ H R=>tk σ H fun y H4=>tv σ H4 fun v H5=>∃kvs k,H5 D=some (.dK kvs)/\y=kV k/\kvs.length<sizeLine/\R (upd H5 D (.dK (iR kvs k v)))
abbrev jx (Z:V->Hp->(List (Option V)->Prop)->Prop)(js:List Nat)(wi:TI)(tc:TT)(te:TE):TE:=fM (.lst []) Z js wi tc (pL te)
abbrev vB:=jx fun v _ k=>k [some v]
abbrev vz (K:Frag):=jx fun v H k=>∃t y y',v=.ref t/\SqT K H t [y,y']/\k [some y,some y']
section
variable {xs:List Str}{g:TG}
theorem jX {tp:Addr->St->Hp->(Hp->Prop)->Prop}{tn:Nat->Heap->Prop}{E:Value->Shared->Prop}{QQ:Value->Addr->Result->Shared->Prop}{Q:VK}(hg:∀C s₂ H₂ ex pins,PG (blk X scope (xs++Nf) C s₂ H₂ ex pins) tg g)(hZ:∀v H ws k,ws.length=xs.length->Z v H k->∃vs,vs.length=xs.length/\g v (ws++rst js σ) H (fun σ' H'=>σ'=vs++rst js σ/\H'=H)/\k vs)
  (B:BlkG X scope xs Nf js) (hc:X.calm=true)
  (ht:∀C s₂ H₂ ex pins,PTs (blk X scope (xs++Nf) C s₂ H₂ ex pins) ifs tc) (MK:sA X.prog X.w X.A newAcc ob) (KI:Kind X.prog X.w X.A ce 0 tg ifs PUT) (new:∀h',(∀b u,(s₂.heap.push ob).get? b=some u->h'.get? b=some u)->bI X.prog X.w (upd H₂ s₂.heap.objs.size o0) h' s₂.heap.objs.size o0)
  (hp:∀C s₂ H₂ ex pins pl D s ws H R5 R N,ws.length=xs.length->Inv (blk X scope (xs++Nf) C s₂ H₂ ex pins) pl (ws++rst js σ) H s->tp D (ws++rst js σ) H R->(∀s' H' ws',ws'.length=xs.length->Inv (blk X scope (xs++Nf) C s₂ H₂ ex pins) pl (ws'++rst js σ) H' s'->R H'->R5 s')->PUT (blk X scope (xs++Nf) C s₂ H₂ ex pins).env D R5 N s)
  (I:Inv X pins σ H₂ s₂) (T:Turn X.prog X.w X.K tg J fp it tn) (st:tn 0 s₂.heap) (hf:∀b∈fp,kc X pins H₂ b)
  (hW:∀D,H₂ D=none->∃W:Nat->Nat->Hp->Prop,(∃m,W 0 m (upd H₂ D o0))/\∀i m H2,W i m H2 ->
   (J.stop i H2/\Q (.ref D) H2)\/(J.go i H2/\∀v H3,J.yld i H2 v H3->Z v H3 fun vs=>tc (vs++rst js σ) H3 fun b H4=>
    if b=true then tp D (vs++rst js σ) H4 fun H5=>∃m',m'<m/\W (i+1) m' H5
    else ∃m',m'<m/\W (i+1) m' H4))
  (hQ:∀s' H',(∀h',Heap.SameBut (s₂.heap.objs.size+1) s'.heap h'->Inv X pins σ H' { s' with heap:=h' })->(∃m,s'.heap.Ns (s₂.heap.objs.size+1) m)->H' (s₂.heap.objs.size+1)=none->Q (.ref s₂.heap.objs.size) H'->QQ (.ref s₂.heap.objs.size) (s₂.heap.objs.size+1) (.ok .next) s') :
  wpAny (model X.prog X.w) X.A newAcc (fun acc s₃=>wpAny (model X.prog X.w) X.A (newFunctionEnv scope X.env.globals (nJ X.env scope.names []) [] X.env.qual none .none (some X.env)) (fun cenv s₄=>
   codeAny (model X.prog X.w) X.A (.compStart ce 0 (.ref it) acc { cenv with scope:=relabel scope X.env }) (QQ acc cenv.locals) s₄) E s₃) E s₂:=by
 refine MK (wpAny_newFunctionEnv B.nocell (by intro y hy;simp at hy) (fun h₁ hns₁ hsb₁=>?_) B.kind);dsimp only at hns₁ hsb₁ ⊢;have hsz:(s₂.heap.push ob).objs.size=s₂.heap.objs.size+1:=size_push _ _;rw[hsz] at hns₁ hsb₁ ⊢;have ho:=T.obj 0 _ st;have hD0:H₂ s₂.heap.objs.size=none:=I.hok.fresh (by lia);obtain⟨W,⟨m0,w0⟩,turn⟩:=hW _ hD0
 have old:∀b o,s₂.heap.get? b=some o->h₁.get? b=some o:=fun b o e=>
  hsb₁.extBut b o (av (lt_succ_of_lt (aS e))) (af _ (af _ e))
 have st1:=T.keep _ _ _ st fun b _ o e=>old b o e;have I1:∀tk,Inv (blk X scope (xs++Nf) (s₂.heap.objs.size+1) s₂ H₂ fp pins) [] (replicate xs.length none++rst js σ) (upd H₂ s₂.heap.objs.size o0) { s₂ with heap:=h₁,toks:=tk }:=fun tk=>B.inv I hf ho new hns₁ hsb₁
 have fpD:∀b∈fp,b≠s₂.heap.objs.size:=fun b hb=>by
  obtain⟨o,e,_⟩:=ho b hb;exact av (aS e)
 have fp0:∀b∈fp,upd H₂ s₂.heap.objs.size o0 b=none:=fun b hb=>by rw[aE (fpD b hb)];exact(hf b hb).1
 -- what the block's context says of the iterator's objects
 have stat:∀{H':Hp},(∀b∈fp,H' b=none)->∀b∈fp,kc (blk X scope (xs++Nf) (s₂.heap.objs.size+1) s₂ H₂ fp pins) [] H' b:=fun {H'} hn b hb=>by
  obtain⟨_,f1,f2,f3,f4,f5⟩:=hf b hb;obtain⟨o,e,_⟩:=ho b hb;refine⟨hn b hb,av (lt_succ_of_lt (aS e)),fun z=>?_,.inl hb,fun z c h=>f4 z c (B.look I.ok h),fun p hp=>?_⟩
  ·rcases aV.mp (I.stkSub b z) with q|q
   ·exact f1 q
   ·exact f2 q
  ·have hp':=hp;rw[cH] at hp';exact f5 p hp'
 have loop:∀sL:Shared,sL={ s₂ with heap:=h₁,toks:=s₂.toks+([]:List (Str×Value)).length } ->
   codeAny (model X.prog X.w) X.A (.compLoop ce 0 (.ref it) (.ref s₂.heap.objs.size) (compEnvC scope (nJ X.env scope.names []) (s₂.heap.objs.size+1) X.env))
    (QQ (.ref s₂.heap.objs.size) (s₂.heap.objs.size+1)) sL:=by
  rintro sL rfl;refine KI.turns rfl (fun n s'=>Ex3 fun i ws H'=>An5 (ws.length=xs.length) (Inv (blk X scope (xs++Nf) (s₂.heap.objs.size+1) s₂ H₂ fp pins) [] (ws++rst js σ) H' s') (tn i s'.heap) (∀b∈fp,H' b=none) (W i n H')) ?_ m0 ⟨0,_,_,length_replicate,I1 _,st1,fp0,w0⟩;rintro n s3 ⟨i,ws,H3,lw,I3,st3,fr3,w3⟩;rcases turn i n H3 w3 with⟨stop,qn⟩|⟨go,step⟩
  ·refine thn (T.done (blk X scope (xs++Nf) (s₂.heap.objs.size+1) s₂ H₂ fp pins) rfl rfl rfl hc i [] s3 _ H3 _ I3 (stat fr3) st3 stop) fun r s4 ⟨hr,I4⟩=>⟨fun _=>?_,fun v e=>by rw[hr] at e;cases e⟩;subst hr;obtain⟨m4,hm4,_⟩:=I4.loc;exact hQ s4 H3 (fun h' hs=>B.back I hf (le_succ _) I4 hs) ⟨m4,hm4⟩ I4.free qn
  ·refine thn (T.item (blk X scope (xs++Nf) (s₂.heap.objs.size+1) s₂ H₂ fp pins) rfl rfl rfl hc i [] s3 _ H3 _ I3 (stat fr3) st3 go) fun r s4 zz=>?_;obtain⟨u,hr,h4⟩:=zz;refine⟨(fun e=>by rw[hr] at e;cases e),fun v e=>?_⟩;rw[hr] at e;cases e;refine bn h4 (fun _ s5 ⟨y5,H5,I5,r5,yl5,st5,fr5⟩=>?_) fun _ _ z=>z;obtain⟨vs,lv,qg,q5⟩:=hZ y5 H5 ws _ lw (step y5 _ yl5)
   refine bn (hg _ _ _ _ _ _ s5 _ H5 y5 u (fun σ' H'=>σ'=vs++rst js σ/\H'=H5) (I5.pinned (stat fr5) (T.obj _ _ st5)) r5 qg) (fun _ s6 ⟨σ6,H6,I6,q6⟩=>?_) fun _ _ z=>False.elim z;obtain⟨e6,e6'⟩:=q6;subst e6 e6';refine bn ((ht _ _ _ _ _).run I6 q5) (fun b s7 ⟨H7,I7,q7⟩=>?_) fun _ _ z=>False.elim z
   have again:∀{s8:Shared} {σ8:St} {H8:Hp},Inv (blk X scope (xs++Nf) (s₂.heap.objs.size+1) s₂ H₂ fp pins) ([]++iA fp s5.heap) σ8 H8 s8->tn (i+1) s8.heap/\∀b∈fp,H8 b=none:=fun {s8 σ8 H8} I8=>by
    refine⟨T.keep _ _ _ st5 fun b hb o e=>(I8.pin (b,o) (bh _ (bh _ (dw hb e)))).1,fun b hb=>?_⟩;obtain⟨o,e,d⟩:=T.obj _ _ st5 b hb;exact(I8.pin (b,o) (bh _ (bh _ (dw hb e)))).2.1
   refine⟨fun eb=>?_,fun eb=>?_⟩
   ·subst eb;simp at q7;obtain⟨m',hm,w7⟩:=q7;exact⟨m',hm,i+1,_,H7,lv,I7.unpinned,(again I7).1,(again I7).2,w7⟩
   ·subst eb;simp at q7;refine hp _ _ _ _ _ _ _ s7 vs H7 _ _ _ lv I7 q7 fun s9 H9 ws9 l9 I9 q9=>?_;obtain⟨m',hm,w8⟩:=q9;obtain⟨b1,b2⟩:=again I9;exact⟨m',hm,i+1,_,_,l9,I9.unpinned,b1,b2,w8⟩
 exact KI.start (loop _ rfl) (T.self _ 0 _ _ _ st1 (loop _ rfl))
theorem iY (h':Heap)(k:∀b u,(s.heap.push { cls:=.type "list",data:=.seq #[] }).get? b=some u->h'.get? b=some u):bI X.prog X.w (upd H s.heap.objs.size (.lst [])) h' s.heap.objs.size (.lst []):=⟨zero_le _,[],0,.nil,k _ _ (aI _ rfl)⟩
theorem kP:sA X.prog X.w X.A (newList []) { cls:=.type "list",data:=.seq #[] }:=fun q=>wpAny_newObj_type q
theorem jQ:Kind X.prog X.w X.A (.ListComp elt [⟨tg,iter,ifs,0⟩] scope pos) 0 tg ifs fun env D R5 N s=>wpAny (model X.prog X.w) X.A (eval elt env) (fun x s4=>wpAny (model X.prog X.w) X.A (call (.builtin "list.append") [.ref D,x]) (fun _ s5=>R5 s5) N s4) N s:=
 ⟨fun a b=>codeAny_compStart_list a b,fun e J t n h=>nw e J t n h⟩
theorem lS (he:∀C s₂ H₂ ex pins,PE (blk X scope (xs++Nf) C s₂ H₂ ex pins) elt te):∀(σ:St) C s₂ H₂ ex pins pl D s ws H (R5:Shared->Prop) (R:Hp->Prop) (N:Value->Shared->Prop),ws.length=xs.length->Inv (blk X scope (xs++Nf) C s₂ H₂ ex pins) pl (ws++rst js σ) H s->pL te D (ws++rst js σ) H R->(∀s' H' ws',ws'.length=xs.length->Inv (blk X scope (xs++Nf) C s₂ H₂ ex pins) pl (ws'++rst js σ) H' s'->R H'->R5 s') ->
  wpAny (model X.prog X.w) X.A (eval elt (blk X scope (xs++Nf) C s₂ H₂ ex pins).env) (fun x s4=>wpAny (model X.prog X.w) X.A (call (.builtin "list.append") [.ref D,x]) (fun _ s5=>R5 s5) N s4) N s:=by
 intro σ C s₂ H₂ ex pins pl D s ws H R5 R N lw I h k;refine bn (he C s₂ H₂ ex pins pl s _ H _ I h) (fun yv s8 ⟨y8,H8,I8,r8,ys,hD8,hl8,w8⟩=>?_) fun _ _ z=>False.elim z
 refine bn (cR (X:=blk X scope (xs++Nf) C s₂ H₂ ex pins) pl s8 _ H8 (.ref D) [y8] (.ref D) [yv] (fun _ H'=>H'=upd H8 D (.lst (ys++[y8]))) I8 rfl (.cons r8 .nil) ⟨_,_,_,rfl,rfl,hD8,hl8,rfl⟩) (fun _ s9 ⟨_,H9,I9,_,q9⟩=>?_) fun _ _ z=>False.elim z;subst q9;exact k s9 _ ws lw I9 w8
section
variable {tp:Addr->St->Hp->(Hp->Prop)->Prop}
theorem rh (B:BlkG X scope xs Nf js)(hc:X.calm=true)(hg:∀C s₂ H₂ ex pins,PG (blk X scope (xs++Nf) C s₂ H₂ ex pins) tg g)(hZ:∀(σ:St) v H ws k,ws.length=xs.length->Z v H k->∃vs,vs.length=xs.length/\g v (ws++rst js σ) H (fun σ' H'=>σ'=vs++rst js σ/\H'=H)/\k vs)(hi:PI X tg iter wi)
  (ht:∀C s₂ H₂ ex pins,PTs (blk X scope (xs++Nf) C s₂ H₂ ex pins) ifs tc) (MK:sA X.prog X.w X.A newAcc ob) (KI:Kind X.prog X.w X.A ce 0 tg ifs PUT) (new:∀(H:Hp) (s:Shared),sysModules<s.heap.objs.size->∀h',(∀b u,(s.heap.push ob).get? b=some u->h'.get? b=some u)->bI X.prog X.w (upd H s.heap.objs.size o0) h' s.heap.objs.size o0)
  (hp:∀(σ:St) C s₂ H₂ ex pins pl D s ws H R5 R N,ws.length=xs.length->Inv (blk X scope (xs++Nf) C s₂ H₂ ex pins) pl (ws++rst js σ) H s->tp D (ws++rst js σ) H R->(∀s' H' ws',ws'.length=xs.length->Inv (blk X scope (xs++Nf) C s₂ H₂ ex pins) pl (ws'++rst js σ) H' s'->R H'->R5 s')->PUT (blk X scope (xs++Nf) C s₂ H₂ ex pins).env D R5 N s)
  (hev:eval ce X.env=comprehension ce scope X.env p newAcc false (eval iter X.env)) (hcl:clausesOf ce=⟨tg,iter,ifs,0⟩::gs)
  (hs:∀v,foldedSetIterable iter X.env v=pure v):PE X ce (fM o0 Z js wi tc tp):=by
 intro pins s σ H Q I h;rw[hev];refine wpAny_comprehension_free (use:=none) hcl hs (iI (B.hasCell I.ok)) B.kind B.loc (thn (hi pins s σ H _ I h) fun v s1 h1=>thn h1 fun itv s2 h2=>?_);obtain⟨it,fp,tn,J,H2,e,I2,T,st2,f2,hW⟩:=h2;subst e
 refine jX (QQ:=fun acc C=>compPost (model X.prog X.w) X.A X.xe none (EP X pins σ Q) acc C) hg (hZ σ) B hc ht MK KI (new _ _ I2.big) (hp σ) I2 T st2 f2 hW fun s' H' hI hn _ hq=>?_;obtain⟨m,hm⟩:=hn;exact⟨m,hm,fun h' hs'=>⟨.ref s2.heap.objs.size,H',hI h' hs',rfl,hq⟩⟩
theorem oH {y}(B:BlkG X scope xs Nf js)(hc:X.calm=true)(hg:∀C s₂ H₂ ex pins,PG (blk X scope (xs++Nf) C s₂ H₂ ex pins) tg g)(hZ:∀(σ:St) v H ws k,ws.length=xs.length->Z v H k->∃vs,vs.length=xs.length/\g v (ws++rst js σ) H (fun σ' H'=>σ'=vs++rst js σ/\H'=H)/\k vs)(hi:PI X tg iter wi)
  (ht:∀C s₂ H₂ ex pins,PTs (blk X scope (xs++Nf) C s₂ H₂ ex pins) ifs tc) (MK:sA X.prog X.w X.A newAcc ob) (KI:Kind X.prog X.w X.A ce 0 tg ifs PUT) (new:∀(H:Hp) (s:Shared),sysModules<s.heap.objs.size->∀h',(∀b u,(s.heap.push ob).get? b=some u->h'.get? b=some u)->bI X.prog X.w (upd H s.heap.objs.size o0) h' s.heap.objs.size o0)
  (hp:∀(σ:St) C s₂ H₂ ex pins pl D s ws H R5 R N,ws.length=xs.length->Inv (blk X scope (xs++Nf) C s₂ H₂ ex pins) pl (ws++rst js σ) H s->tp D (ws++rst js σ) H R->(∀s' H' ws',ws'.length=xs.length->Inv (blk X scope (xs++Nf) C s₂ H₂ ex pins) pl (ws'++rst js σ) H' s'->R H'->R5 s')->PUT (blk X scope (xs++Nf) C s₂ H₂ ex pins).env D R5 N s)
  (hev:∀u,evalThenUse ce X.env u=(do let _ <- comprehension ce scope X.env p newAcc false (eval iter X.env) (some u))) (hcl:clausesOf ce=⟨tg,iter,ifs,0⟩::gs)
  (hN:X.N.Nodup) (hy:X.N[i]?=some y) (hl:X.env.scope.names.lookup y=some .local) (hsw:swapsWith ce (some (.Name y py)) spos.line X.env=pure true)
  (hs:∀v,foldedSetIterable iter X.env v=pure v):PS X (.Assign [.Name y py] ce spos) (qI (fM o0 Z js wi tc tp) (c_ i)):=by
 intro pins s σ H D I h;rw[(exec_Assign_Name_used _ _ _ _ hsw),hev];refine aa (wpAny_standAt (aa ?_))
 refine aa (bn (wpAny_comprehension_free (use:=some (assign (.Name y py) X.env)) (Q:=fun _ s'=>SP X pins D .next s') hcl hs (iI (B.hasCell I.ok)) B.kind B.loc
  (thn (hi pins s σ H _ I h) fun v s1 h1=>thn h1 fun itv s2 h2=>?_)) (fun _ s' hq=>ae (ae hq)) fun _ _ e=>e)
 obtain⟨it,fp,tn,J,H2,e,I2,T,st2,f2,hW⟩:=h2;subst e;refine jX (Q:=fun x H1=>c_ i x σ H1 D.nx) (QQ:=fun acc C=>compPost (model X.prog X.w) X.A X.xe (some (assign (.Name y py) X.env)) (fun _ s'=>SP X pins D .next s') acc C) hg (hZ σ) B hc ht MK KI (new _ _ I2.big) (hp σ) I2 T st2 f2 hW fun s' H' hI hn hC hq=>?_;obtain⟨m,hm⟩:=hn;have nC:=I2.fpOk (b:=s2.heap.objs.size+1) (le_succ _) hC
 refine wpAny_assign_Name (jy (hI s'.heap (Heap.SameBut.refl ..)) hN hy (.inl hl) (v:=.ref s2.heap.objs.size) rfl (fun s4 I4 ⟨b,hb,hbc⟩=>?_) (.inr hl))
 have bne:s2.heap.objs.size+1≠b:=by
  rcases hbc with z|z
  ·rw[z];exact nC.2.1
  ·exact fun q=>nC.2.2.2.2.1 y b z q.symm
 exact⟨m,hm.sameBut hb bne,fun h' hs'=>⟨_,H',I4.turned (t':=s4.toks) (fun c o hc q=>(hs'.2 c hc).trans q) nC.1 nC.2.1 nC.2.2.2.1 nC.2.2.2.2.1 nC.2.2.2.2.2,hq⟩⟩
end
theorem iV (B:BlkG X scope xs Nf js)(hc:X.calm=true)(hg:∀C s₂ H₂ ex pins,PG (blk X scope (xs++Nf) C s₂ H₂ ex pins) tg g)(hZ:∀(σ:St) v H ws k,ws.length=xs.length->Z v H k->∃vs,vs.length=xs.length/\g v (ws++rst js σ) H (fun σ' H'=>σ'=vs++rst js σ/\H'=H)/\k vs)(hi:PI X tg iter wi)
  (ht:∀C s₂ H₂ ex pins,PTs (blk X scope (xs++Nf) C s₂ H₂ ex pins) ifs tc) (he:∀C s₂ H₂ ex pins,PE (blk X scope (xs++Nf) C s₂ H₂ ex pins) elt te) (hs:∀v,foldedSetIterable iter X.env v=pure v:=by intro _;rfl):PE X (.ListComp elt [⟨tg,iter,ifs,0⟩] scope pos) (jx Z js wi tc te):=rh B hc hg hZ hi ht kP jQ (fun _ _ _=>iY) (lS he) rfl rfl hs
theorem uk {y}(B:BlkG X scope xs Nf js)(hc:X.calm=true)(hg:∀C s₂ H₂ ex pins,PG (blk X scope (xs++Nf) C s₂ H₂ ex pins) tg g)(hZ:∀(σ:St) v H ws k,ws.length=xs.length->Z v H k->∃vs,vs.length=xs.length/\g v (ws++rst js σ) H (fun σ' H'=>σ'=vs++rst js σ/\H'=H)/\k vs)(hi:PI X tg iter wi)
  (ht:∀C s₂ H₂ ex pins,PTs (blk X scope (xs++Nf) C s₂ H₂ ex pins) ifs tc) (he:∀C s₂ H₂ ex pins,PE (blk X scope (xs++Nf) C s₂ H₂ ex pins) elt te) (hN:X.N.Nodup) (hy:X.N[i]?=some y) (hl:X.env.scope.names.lookup y=some .local)
  (hsw:swapsWith (.ListComp elt [⟨tg,iter,ifs,0⟩] scope pos) (some (.Name y py)) spos.line X.env=pure true:=by rfl) (hs:∀v,foldedSetIterable iter X.env v=pure v:=by intro _;rfl):PS X (.Assign [.Name y py] (.ListComp elt [⟨tg,iter,ifs,0⟩] scope pos) spos) (qI (jx Z js wi tc te) (c_ i)):=oH B hc hg hZ hi ht kP jQ (fun _ _ _=>iY) (lS he) (fun _=>rfl) rfl hN hy hl hsw hs
theorem vj (σ:St)(v:V)(H:Hp)(ws:St)(k:St->Prop)(l:ws.length=1)(h:k [some v]):∃vs:St,vs.length=1/\c_ 0 v (ws++rst js σ) H (fun σ' H'=>σ'=vs++rst js σ/\H'=H)/\k vs:=by
 cases ws with
 | nil=>cases l
 | cons a ws=>
  cases ws with
  | nil=>exact⟨_,rfl,⟨rfl,rfl⟩,h⟩
  | cons b ws=>cases l
theorem yb (σ:St)(v:V)(H:Hp)(ws:St)(k:St->Prop)(l:ws.length=2)(h:∃t y y',v=.ref t/\SqT K H t [y,y']/\k [some y,some y']):∃vs:St,vs.length=2/\vd K 2 (fF (c_ 0) (fF (c_ 1) ve)) v (ws++rst js σ) H (fun σ' H'=>σ'=vs++rst js σ/\H'=H)/\k vs:=by
 obtain⟨t,_,_,e,q,h⟩:=h;cases ws with
 | nil=>cases l
 | cons a ws=>
  cases ws with
  | nil=>cases l
  | cons b ws=>
   cases ws with
   | nil=>exact⟨_,rfl,⟨t,_,e,q,rfl,_,_,rfl,_,_,rfl,rfl,rfl,rfl⟩,h⟩
   | cons c ws=>cases l
theorem xh (B:BlkG X scope [x] Nf js):∀C s₂ H₂ ex pins,PG (blk X scope ([x]++Nf) C s₂ H₂ ex pins) (.Name x px) (c_ 0):=fun _ _ _ _ _=>let h:=lookup_relabel_local (B.own x (.head _));dC B.nd rfl (.inl h) (.inr h)
theorem y7 (B:BlkG X scope [x,x'] Nf js)(hc:X.calm=true):∀C s₂ H₂ ex pins,PG (blk X scope ([x,x']++Nf) C s₂ H₂ ex pins) (.Tuple [.Name x px,.Name x' px'] ktg ptg) (vd X.K 2 (fF (c_ 0) (fF (c_ 1) ve))):=fun _ _ _ _ _=>
 let h:=lookup_relabel_local (B.own x (.head _));let h':=lookup_relabel_local (B.own x' (.tail _ (.head _)));fh hc (bq (dC B.nd rfl (.inl h) (.inr h)) (bq (dC B.nd rfl (.inl h') (.inr h')) dB))
theorem gQ (B:BlkG X scope [x] Nf js)(hc:X.calm=true)(hi:PI X (.Name x px) iter wi)
  (ht:∀C s₂ H₂ ex pins,PTs (blk X scope (x::Nf) C s₂ H₂ ex pins) ifs tc) (he:∀C s₂ H₂ ex pins,PE (blk X scope (x::Nf) C s₂ H₂ ex pins) elt te)
  (hs:∀v,foldedSetIterable iter X.env v=pure v:=by intro _;rfl):PE X (.ListComp elt [⟨.Name x px,iter,ifs,0⟩] scope pos) (vB js wi tc te):=iV B hc (xh B) vj hi ht he hs
theorem gC (B:BlkG X scope [x,x'] Nf js)(hc:X.calm=true)(hi:PI X (.Tuple [.Name x px,.Name x' px'] ktg ptg) iter wi)
  (ht:∀C s₂ H₂ ex pins,PTs (blk X scope (x::x'::Nf) C s₂ H₂ ex pins) ifs tc) (he:∀C s₂ H₂ ex pins,PE (blk X scope (x::x'::Nf) C s₂ H₂ ex pins) elt te)
  (hs:∀v,foldedSetIterable iter X.env v=pure v:=by intro _;rfl):PE X (.ListComp elt [⟨.Tuple [.Name x px,.Name x' px'] ktg ptg,iter,ifs,0⟩] scope pos) (vz X.K js wi tc te):=iV B hc (y7 B hc) yb hi ht he hs
theorem mU {y}(B:BlkG X scope [x] Nf js)(hc:X.calm=true)(hi:PI X (.Name x px) iter wi)
  (ht:∀C s₂ H₂ ex pins,PTs (blk X scope (x::Nf) C s₂ H₂ ex pins) ifs tc) (he:∀C s₂ H₂ ex pins,PE (blk X scope (x::Nf) C s₂ H₂ ex pins) elt te)
  (hN:X.N.Nodup) (hy:X.N[i]?=some y) (hl:X.env.scope.names.lookup y=some .local)
  (hsw:swapsWith (.ListComp elt [⟨.Name x px,iter,ifs,0⟩] scope pos) (some (.Name y py)) spos.line X.env=pure true:=by rfl)
  (hs:∀v,foldedSetIterable iter X.env v=pure v:=by intro _;rfl):PS X (.Assign [.Name y py] (.ListComp elt [⟨.Name x px,iter,ifs,0⟩] scope pos) spos) (qI (vB js wi tc te) (c_ i)):=uk B hc (xh B) vj hi ht he hN hy hl hsw hs
end
def yS (wi:TI)(g:TG)(tc:TT)(tp:Addr->St->Hp->(Hp->Prop)->Prop)(D:Addr)(σ:St)(H:Hp)(QN:St->Hp->Prop):Prop:=wi σ H fun J H1=>∃W:Nat->Nat->St->Hp->Prop,(∃m,W 0 m σ H1)/\∀i m σ H2,W i m σ H2 ->
 (J.stop i H2/\QN σ H2)\/(J.go i H2/\∀v H3,J.yld i H2 v H3->g v σ H3 fun σ2 H4=>tc σ2 H4 fun b H5=>
  if b=true then tp D σ2 H5 fun H6=>∃m',m'<m/\W (i+1) m' σ2 H6 else ∃m',m'<m/\W (i+1) m' σ2 H5)
section
variable {g:TG}{tp:Addr->St->Hp->(Hp->Prop)->Prop}
theorem pE (KI:Kind Y.prog Y.w Y.A ce 1 tg ifs PUT)(hc:Y.calm=true)(nx:∀v s,Y.xe v s->False)(hi:PI Y tg iter wi)(hg:PG Y tg g)(ht:PTs Y ifs tc)
  (hp:∀pl D s σ H (R5:Shared->Prop) (R:Hp->Prop) (N:Value->Shared->Prop),Inv Y pl σ H s->tp D σ H R->(∀s' H',Inv Y pl σ H' s'->R H'->R5 s')->PUT Y.env D R5 N s)
  {pl D} {QN:St->Hp->Prop} {R5:Shared->Prop} {N:Value->Shared->Prop} (I:Inv Y pl σ H s) (h:yS wi g tc tp D σ H QN) (k:∀s' σ' H',Inv Y pl σ' H' s'->QN σ' H'->R5 s') :
  wpAny (model Y.prog Y.w) Y.A (eval iter Y.env) (fun x s1=>wpAny (model Y.prog Y.w) Y.A (pyIter x) (fun it s2=>codeAny (model Y.prog Y.w) Y.A (.compStart ce 1 it (.ref D) Y.env) (fun r s3=>r=.ok .next/\R5 s3) s2) N s1) N s:=by
 refine bn (hi pl s σ H _ I h) (fun v s1 h1=>bn h1 (fun itv s2 h2=>?_) fun _ _ z=>(nx _ _ z).elim) fun _ _ z=>(nx _ _ z).elim;obtain⟨it,fp,tn,J,H2,e,I2,T,st2,f2,W,⟨m0,w0⟩,turn⟩:=h2;subst e;have stat:∀{H':Hp},(∀b∈fp,H' b=none)->∀b∈fp,kc Y pl H' b:=fun hn b hb=>⟨hn b hb,(f2 b hb).2⟩
 have loop:codeAny (model Y.prog Y.w) Y.A (.compLoop ce 1 (.ref it) (.ref D) Y.env) (fun r s3=>r=.ok .next/\R5 s3) s2:=by
  refine KI.turns rfl (fun n s'=>Ex3 fun i σ' H'=>An4 (Inv Y pl σ' H' s') (tn i s'.heap) (∀b∈fp,H' b=none) (W i n σ' H')) ?_ m0 ⟨0,σ,H2,I2,st2,fun b hb=>(f2 b hb).1,w0⟩;rintro n s3 ⟨i,σ3,H3,I3,st3,fr3,w3⟩;rcases turn i n σ3 H3 w3 with⟨stop,qn⟩|⟨go,step⟩
  ·refine bn (T.done Y rfl rfl rfl hc i pl s3 σ3 H3 Y.xe I3 (stat fr3) st3 stop) (fun r s4 ⟨hr,I4⟩=>⟨fun _=>⟨rfl,k s4 σ3 H3 I4 qn⟩,fun v e=>by rw[hr] at e;cases e⟩) fun _ _ z=>(nx _ _ z).elim
  ·refine bn (T.item Y rfl rfl rfl hc i pl s3 σ3 H3 Y.xe I3 (stat fr3) st3 go) (fun r s4 ⟨u,hr,h4⟩=>⟨(fun e=>by rw[hr] at e;cases e),fun v e=>?_⟩) fun _ _ z=>(nx _ _ z).elim;rw[hr] at e;cases e;refine bn h4 (fun _ s5 ⟨y5,H5,I5,r5,yl5,st5,fr5⟩=>?_) fun _ _ z=>(nx _ _ z).elim
   refine bn (hg _ s5 σ3 H5 y5 u _ (I5.pinned (stat fr5) (T.obj _ _ st5)) r5 (step y5 H5 yl5)) (fun _ s6 ⟨σ6,H6,I6,q6⟩=>?_) fun _ _ z=>(nx _ _ z).elim
   have again:∀{s8:Shared} {σ8:St} {H8:Hp},Inv Y (pl++iA fp s5.heap) σ8 H8 s8->tn (i+1) s8.heap/\∀b∈fp,H8 b=none:=fun {s8 σ8 H8} I8=>by
    refine⟨T.keep _ _ _ st5 fun b hb o e=>(I8.pin (b,o) (bh _ (bh _ (dw hb e)))).1,fun b hb=>?_⟩;obtain⟨o,e,d⟩:=T.obj _ _ st5 b hb;exact(I8.pin (b,o) (bh _ (bh _ (dw hb e)))).2.1
   refine bn (ht.run I6 q6) (fun b s7 ⟨H7,I7,q7⟩=>⟨fun eb=>?_,fun eb=>?_⟩) fun _ _ z=>(nx _ _ z).elim
   ·subst eb;simp at q7;obtain⟨m',hm,w7⟩:=q7;exact⟨m',hm,i+1,_,H7,I7.unpinned,(again I7).1,(again I7).2,w7⟩
   ·subst eb;simp at q7;refine hp _ _ s7 _ H7 _ _ _ I7 q7 fun s9 H9 I9 q9=>?_;obtain⟨m',hm,w8⟩:=q9;exact⟨m',hm,i+1,_,H9,I9.unpinned,(again I9).1,(again I9).2,w8⟩
 exact KI.start loop (T.self _ 0 _ _ _ st2 loop)
end
section
end
section
variable {tk:TE}
end
section
theorem ue {x v c}(r:cb x v):decide (x=.bl c)=(v==.bool c):=by
 cases x with
 | bl b=>cases r;cases b<;>cases c<;>decide
 | non=>cases r;rfl
 | int i=>obtain⟨t,rfl⟩:=r;rfl
 | str i=>obtain⟨t,rfl⟩:=r;rfl
 | byt i=>obtain⟨t,rfl⟩:=r;rfl
 | flt i=>obtain⟨t,rfl⟩:=r;rfl
 | ref a=>cases r;rfl
 | ty n=>cases r;rfl
theorem gU:OpR X (compareOp .IsNot) (fun x y H Q=>∃c,y=.bl c/\Q (.bl (!decide (x=.bl c))) H):=by
 intro pins s σ H x y v u Q I rx ry h;obtain⟨c,rfl,q⟩:=h;cases ry;have q':=bN I q (bL not (ue rx))
 cases x<;>first
  | (cases rx;exact ae q')
  | (obtain⟨t,rfl⟩:=rx;exact ae q')
theorem mf:OpR X (binaryOp .FloorDiv) (rI (fun _ j=>0<j/\j.natAbs.log2<9000) fun i j=>.int (i / j)):=opI fun i j _ _ _ _ _ hc q=>by
 exact floordiv_int (by lia) (by rw[(Int.fdiv_eq_ediv_of_nonneg i (Int.le_of_lt hc.1))];exact q) (.inl (PyProof.noPylong_of_log2 hc.2))
def v_:V->Bool
 | .non=>true|.bl _=>true|.int _=>true|.str _=>true|.ref _=>true
 | _=>false
def okP (x y:V):Prop:=(x=y/\v_ x=true)\/(h_ x=true/\h_ y=true)
def eqP (x y:V):Bool:=decide (x=y)||eqV x y
theorem ji:∀{x:V},h_ x=true->eqV x x=true
 | .non,_=>rfl
 | .bl b,_=>by cases b<;>rfl
 | .int i,_=>by simp[eqV]
 | .str z,_=>by simp[eqV]
theorem xo {x v}(ru:cb x u)(rv:cb y v)(h:okP x y):SeqAt.EqAt A s u v (eqP x y):=by
 rcases h with⟨e,p⟩|⟨f,g⟩
 ·subst e;have e1:eqP x x=true:=by unfold eqP;simp
  rw[e1];cases x with
  | non=>cases ru;cases rv;exact SeqAt.EqAt.same _
  | bl b=>cases ru;cases rv;exact SeqAt.EqAt.same _
  | int i=>have:=mD (A:=A) (s:=s) ru rv rfl rfl;rwa[ji rfl] at this
  | str z=>have:=mD (A:=A) (s:=s) ru rv rfl rfl;rwa[ji rfl] at this
  | ref a=>cases ru;cases rv;exact SeqAt.EqAt.same _
  | _=>exact aY (show false=true from p) aj
 ·have e1:eqP x y=eqV x y:=by
   unfold eqP;by_cases e:x=y
   ·subst e;rw[ji f];simp
   ·simp[e]
  rw[e1];exact mD ru rv f g
def se (xs ys:List V):Bool:=decide (xs.length=ys.length)&&(List.zipWith eqP xs ys).all id
def yQ (xs ys:List V):Prop:=xs.length=ys.length->∀(j:Nat) (x y:V),xs[j]?=some x->ys[j]?=some y->okP x y
theorem r_:se xs []=decide (xs=[]):=by cases xs<;>simp[se]
def ans (xs ys:List V)(j:Nat):Bool:=match xs[j]?,ys[j]? with
 | some x,some y=>eqP x y
 | _,_=>true
theorem kj:∀(xs ys:List V),xs.length=ys.length->(List.range xs.length).all (ans xs ys)=(List.zipWith eqP xs ys).all id
 | [],[],_=>rfl
 | [],_::_,h=>by simp at h
 | _::_,[],h=>by simp at h
 | x::xs,y::ys,h=>by
  rw[aR,List.range_succ_eq_map,all_cons,List.zipWith_cons_cons,all_cons,<- (kj xs ys (by simpa using h)),all_map];rfl
theorem tM {us:List Value}(r:b_ xs us)(r':b_ ys ws)(ok:yQ xs ys)(hl:xs.length=ys.length)(j:Nat)(h1:j<us.toArray.size)(h2:j<ws.toArray.size) :
  SeqAt.EqAt A s us.toArray[j] ws.toArray[j] (ans xs ys j):=by
 have l1:=r.length;have l2:=r'.length;have j1:j<xs.length:=by simp at h1;lia
 have j2:j<ys.length:=by lia
 have e1:xs[j]?=some xs[j]:=by simp[j1]
 have e2:ys[j]?=some ys[j]:=by simp[j2]
 obtain⟨u,eu,ru⟩:=r.get e1;obtain⟨w,ew,rw'⟩:=r'.get e2
 have a1:us.toArray[j]=u:=by
  have:us[j]?=some u:=eu;simp at h1;simpa[h1] using this
 have a2:ws.toArray[j]=w:=by
  have:ws[j]?=some w:=ew;simp at h2;simpa[h2] using this
 have a3:ans xs ys j=eqP xs[j] ys[j]:=by unfold ans;rw[e1,e2]
 rw[a1,a2,a3];exact xo ru rw' (ok hl j _ _ e1 e2)
def yI (K:Frag)(neg:Bool):R2:=fun x y H Q=>Ex4 fun p q xs ys=>An6 (x=.ref p) (y=.ref q) (SqL K H p xs) (SqL K H q ys) (yQ xs ys) (Q (.bl (if neg then !se xs ys else se xs ys)) H)
theorem wv (hu:X.A.units<cLine):OpR X (compareOp .Eq) (yI X.K false):=by
 intro pins s σ H x y v u Q I rx ry h;obtain⟨p,q,xs,ys,rfl,rfl,hp,hq,ok,hQ⟩:=h;cases rx;cases ry;obtain⟨us,r,pl,hz⟩:=I.list hp;obtain⟨ws,r',pl',hz'⟩:=I.list hq;have l1:=r.length;have l2:=r'.length;by_cases hl:xs.length=ys.length
 ·refine SeqAt.RcAt.lists (e:=ans xs ys) pl.isList pl'.isList (by simp;lia) hu (fun j h1 h2=>tM r r' ok hl j h1 h2) _ _ _ _ ⟨.bl _,H,I,rfl,?_⟩;rw[show us.toArray.size=xs.length by simp;lia,kj xs ys hl];unfold se at hQ;rw[aq hl,Bool.true_and] at hQ;exact hQ
 ·refine SeqAt.RcAt.lists_lengths pl.isList pl'.isList (by simp;lia) hu _ _ _ _ ⟨.bl _,H,I,rfl,?_⟩;unfold se at hQ;rw[aM hl,Bool.false_and] at hQ;exact hQ
theorem wq (hu:X.A.units<cLine):OpR X (compareOp .NotEq) (yI X.K true):=by
 intro pins s σ H x y v u Q I rx ry h;obtain⟨p,q,xs,ys,rfl,rfl,hp,hq,ok,hQ⟩:=h;cases rx;cases ry;obtain⟨us,r,pl,hz⟩:=I.list hp;obtain⟨ws,r',pl',hz'⟩:=I.list hq;have l1:=r.length;have l2:=r'.length;by_cases hl:xs.length=ys.length
 ·refine SeqAt.RcNeAt.lists (e:=ans xs ys) pl.isList pl'.isList (by simp;lia) hu (fun j h1 h2=>tM r r' ok hl j h1 h2) _ _ _ _ ⟨.bl _,H,I,rfl,?_⟩;rw[show us.toArray.size=xs.length by simp;lia,kj xs ys hl];unfold se at hQ;rw[aq hl,Bool.true_and] at hQ;exact hQ
 ·refine SeqAt.RcNeAt.lists_lengths pl.isList pl'.isList (by simp;lia) hu _ _ _ _ ⟨.bl _,H,I,rfl,?_⟩;unfold se at hQ;rw[aM hl,Bool.false_and] at hQ;exact hQ
def zu (K:Frag)(te:TE):TE:=fun σ H Q=>te σ H fun x H1=>Ex2 fun a xs=>An3 (x=.ref a) (SqL K H1 a xs) (∀p,H1 p=none->Q (.ref p) (upd H1 p (.lst xs.reverse)))
theorem we {k}(he:PE X e te)(hk:PE X k (tUn (fun x H Q=>x=.int 1/\Q (.int (-1)) H) (tC (.int 1)))):PE X (.Subscript e (.Slice none none (some k) p2) pos) (zu X.K te):=by
 intro pins s σ H Q I h;refine Subscript_ (thn (he pins s σ H _ I h) fun v s1 zz=>?_);obtain⟨x,H1,I1,r1,q1⟩:=zz;obtain⟨a,xs,rfl,hx,q⟩:=q1;cases r1;refine wpAny_Slice ?_;rw[evalPart_none,evalPart_some];refine ae (ae (thn (hk pins s1 σ H1 (fun v H2=>v=.int (-1)/\H2=H1) I1 ⟨rfl,rfl,rfl⟩) fun kv s2 zz=>?_));obtain⟨y,H2,I2,r2,e1,e2⟩:=zz;subst e1 e2;obtain⟨t,rfl⟩:=r2
 have I3:=I2.kept (h':=s2.heap.push { cls:=.type "slice",data:=.fields #[.none,.none,.int (-1) t] }) (t':=s2.toks) fun b ob q=>af _ q;obtain⟨its,r,pl,hz⟩:=I3.list hx;have hlen:=r.length
 refine tail_any (ops:=[.ref a,.ref s2.heap.objs.size]) pl.isList.typeIs slot_list_getitem.lookup (wpAny_getItem_list_slice pl.isList (Heap.IsSliceOf.new ..) .none .none (.int (-1) t) (by decide) ?_ (by rw[aJ]<;>lia)) (by with_unfolding_all rfl);rw[PySem.W.krv_pick]
 refine⟨.ref _,_,I3.laid (t':=s2.toks) (o:=.lst xs.reverse) (fun b ob q=>af _ q) (by lia) ?_,rfl,q _ (I3.hok.fresh (by lia))⟩;refine⟨by rw[length_reverse];exact hz,its.reverse,0,r.reverse,?_⟩;have:=aI (s2.heap.push { cls:=.type "slice",data:=.fields #[.none,.none,.int (-1) t] }) (o:={ cls:=.type "list",data:=.seq its.reverse.toArray }) rfl;simpa using this
end
abbrev bmV:List Value:=[.type "ValueError",.type "Exception",.type "BaseException",.type "object"]
def xP (es:Array DictEntry):Bool:=es.all fun e=>match e.key with|.str _ _=>true|_=>false
theorem t7 {es}(x:xP es=true):StrKeys es:=fun e he=>by
 have hx:=Array.all_eq_true_iff_forall_mem.mp x e he;cases hk:e.key with
 | str a b=>exact⟨a,b,rfl⟩
 | _=>rw[hk] at hx;cases hx
structure ExC (K:Frag)(C T fI:Addr):Prop where
 cls:∃(nm q:Str) (N:Addr) (bs:List Value) (hdct:Bool) (sn:List Str) (sub:List Value) (ab:Bool) (col:Option Bool) (dd:Option Addr) (k0 k1 k2 k3 k5:Option Value),
  K.lookup C=some (excClassObj nm q C N bs (.ref T::bmV) hdct sn sub ab col dd k0 k1 k2 k3 k5 "ValueError.__new__")
 top:Ex4 fun(c0:Value) (dd:Option Addr) (cd:ClassData) (sl:Array (Option Value))=>K.lookup T=some ⟨c0,dd,.cls cd,sl⟩/\Ex5 fun(d0:Value) (d1:Option Addr) (es:Array DictEntry) (n:Nat) (sl':Array (Option Value))=>An3 (K.lookup cd.ns=some ⟨d0,d1,.dict es n,sl'⟩) (xP es=true) (nsFind es "__init__" = none)
 init:findIn K (.ref C) "__init__" = some (some (.ref fI))
 fn:isFn K (.ref fI)=true
 kp:keepIn K (.ref C)=true
theorem ExC.tail (x:ExC K C T fI)(X:K.In h):OwnTail h bmV (.ref T::bmV):=by
 obtain⟨c0,dd,cd,sl,h1,d0,d1,es,n,sl',h2,h3,h4⟩:=x.top;exact .own (X _ _ h1) ⟨_,es,n,X _ _ h2,rfl,t7 h3,fun _=>rfl⟩ h4 .base
section
variable {g:Array GenState}{d:Drawn}{t:Nat}{os:OsState}
theorem xl (x:ExC K C T fI)(X:K.In h){us:List Value}{Q:Fin->Shared->Prop}
  (hq:∀h' e,Heap.MadeExcOf h h' e (.ref C) us->h.objs.size<=e->wpAny (model prog w) A (call (.ref fI) (.ref e::us)) (fun r s'=>r=.none/\Q (.done (.ret (.ref e))) s') E ⟨h',g,d,t,os⟩) (hz:us.length<=sizeLine) :
  wpAny (model prog w) A (Builtin.«type.__call__» ⟨.ref C::us,[]⟩) Q E ⟨h,g,d,t,os⟩:=by
 have F:=PySem.F.excBase_ValueError;have OT:=x.tail X;obtain⟨nm,q,N,bs,hdct,sn,sub,ab,col,dd,k0,k1,k2,k3,k5,lk⟩:=x.cls;have hC:=X _ _ lk
 repeat (first
  | with_reducible exact wpAny_loadPart_at hC ‹_›
  | with_reducible refine wpAny_loadPart_at hC ?_
  | with_reducible refine wpAny_madeBy_exc hC ?_
  | wp_step)
 refine codeAny_call_builtin_code (Code.quiet_builtin _ F.quiet) (wpAny_check_new_subU F F.hasB OT hC ?_);refine codeAny_exc_new_subU F F.hasB F OT hC ?_ hz;generalize hg1:h.push { cls:=.type "tuple",data:=.seq us.toArray }=h1;have z1:h1.objs.size=h.objs.size+1:=by rw[<- hg1];exact size_push _ _
 have k1':∀b o,h.get? b=some o->h1.get? b=some o:=fun b o e=>by rw[<- hg1];exact af _ e
 generalize hg2:h1.push { cls:=.ref C,data:=.fields #[.ref h.objs.size,.none,.none,.none,.bool false,.none] }=h2;have k2':∀b o,h1.get? b=some o->h2.get? b=some o:=fun b o e=>by rw[<- hg2];exact af _ e
 have X2:=X.keeps fun b o e=>k2' b o (k1' b o e);have hC2:=X2 _ _ lk
 have he:h2.get? (h.objs.size+1)=some { cls:=.ref C,data:=.fields #[.ref h.objs.size,.none,.none,.none,.bool false,.none] }:=by
  rw[<- hg2,<- z1];exact aI _ rfl
 have ht:h2.get? h.objs.size=some { cls:=.type "tuple",data:=.seq us.toArray }:=k2' _ _ (by rw[<- hg1];exact aI _ rfl);have hcC:(Value.ref C::Value.ref T::bmV).contains (.ref C)=true:=by simp
 unfold isInstance
 repeat (first|with_reducible refine wpAny_loadPart_at he ?_|(with_reducible refine wpAny_isSubtype_exc hC2 ?_;rw[hcC])|wp_step)
 refine(looks_findIn X2 x.init).at (bj ?_);refine aa ?_;unfold bindSpecial;refine aa ((looks_typeIn X2 (beq_iff_eq.mp x.fn)).at ?_);rw[ak (by decide)]
 refine ae (aa (bn (hq h2 (h.objs.size+1) ⟨fun b o e=>k2' b o (k1' b o e),Heap.get?_none_of_le (le_succ _),h.objs.size,he,Heap.get?_none_of_le (by lia),ht⟩ (le_succ _)) (fun r s' hr=>?_) fun _ _ z=>z));obtain⟨rfl,hQ⟩:=hr
 wp_walk
 exact hQ
theorem r6 (x:ExC K C T fI)(X:K.In h){us:List Value}
  (hq:∀h' e,Heap.MadeExcOf h h' e (.ref C) us->h.objs.size<=e->wpAny (model prog w) (A.under (.builtin "type.__call__" ⟨.ref C::us,[]⟩)) (call (.ref fI) (.ref e::us)) (fun r s'=>r=.none/\Q (.ref e) s') E ⟨h',g,d,t,os⟩) (hz:us.length<=sizeLine) :
  wpAny (model prog w) A (call (.ref C) us) Q E ⟨h,g,d,t,os⟩:=by
 obtain⟨nm,q,N,bs,hdct,sn,sub,ab,col,dd,k0,k1,k2,k3,k5,lk⟩:=x.cls;have hC:=X _ _ lk;have f1:=tc_lookup;have f2:=tc_bind (.ref C);have ty:Shared.TypeIs ⟨h,g,d,t,os⟩ (.ref C) "type":=⟨_,hC,rfl⟩;refine wpAny_call ?_;refine codeAny_of_tree ?_
 repeat (any_goals (first
  | assumption
  | with_reducible refine wpAny_loadPart_at hC ?_
  | wp_step))
 exact⟨rfl,codeAny_call_builtin_at (Code.quiet_builtin _ (by decide +kernel)) entry_typeCall (wpAny_check_type_call_sub hC (xl x X hq hz))⟩
end
end L2
variable {CX:L2.CXT}{X Y:L2.Cx}{o o0:L2.HO}{H H' H1 H2 H₂ h1:L2.Hp}{J:L2.It}{r r':L2.R2}{sp:L2.Sp}{σ:L2.St}{ct:L2.St->L2.Hp->Prop}{t4 ta td te tl tv tx ty:L2.TE}{wi wi2:L2.TI}{th:L2.TO}{tb:L2.TS}{tA tc tc2 tt:L2.TT}{v y:L2.V}{Z:L2.V->L2.Hp->(List (Option L2.V)->Prop)->Prop}{rd:L2.V->L2.V->L2.Hp->L2.VK->Prop}{rr:L2.V->List L2.V->L2.Hp->L2.VK->Prop}{rt:L2.VK}{kvs:List (L2.Key×L2.V)}{trs:List (L2.TE×L2.TE)}{dvs xs ys zs:List L2.V}
namespace L2
open PySem PySem.Spec PyProof.Rows PySem.Builtin.ObjectAttr
def tbV (tb:Option Addr):Value:=match tb with|none=>.none|some b=>.ref b
def vh (C e:Addr)(dx ar tb:Option Addr)(h:Heap):Prop:=∃(o:Obj) (vs:Array Value),h.get? e=some o/\o.cls=.ref C/\o.dict=dx/\o.data=.fields vs/\0<vs.size/\(∀t,ar=some t->vs[0]?=some (.ref t))/\vs[1]?=some (tbV tb)
def ExO (C e:Addr)(dx ar tb:Option Addr):HO:=.ext (vh C e dx ar tb)
def vf (a:Addr)(fs:List (Str×V))(h:Heap):Prop:=fs.length<=1000/\∃mA,h.Ns1 a mA/\(∀f,ij (fs.lookup f) (mA f))/\PySem.Within mA (fs.map (·.1))
def XdO (a:Addr)(fs:List (Str×V)):HO:=.ext (vf a fs)
theorem vh.stay {e dx tb}(x:vh C e dx ar tb h)(k:∀o,h.get? e=some o->h'.get? e=some o):vh C e dx ar tb h':=
 let⟨o,vs,e1,r⟩:=x;⟨o,vs,k o e1,r⟩
theorem vf.stay {fs}(x:vf a fs h)(k:∀o,h.get? a=some o->h'.get? a=some o):vf a fs h':=
 let⟨z,mA,hn,r⟩:=x;⟨z,mA,hn.at k,r⟩
section
theorem mB {e dx tb}(x:vh C e dx ar tb h):bI P w H h e (ExO C e dx ar tb):=by
 refine⟨x,?_,fun h1 h2 q k=>q.stay k⟩;obtain⟨o,_,e1,_⟩:=x;exact⟨o,e1⟩
theorem vm {fs}(x:vf a fs h):bI P w H h a (XdO a fs):=by
 refine⟨x,?_,fun h1 h2 q k=>q.stay k⟩;obtain⟨_,_,⟨o,_,_,e,_⟩,_⟩:=x;exact⟨o,e⟩
end
structure ExF (K:Frag)(C T fI:Addr):Prop extends ExC K C T fI where
 hd:hasDictIn K C=true
 sa:findIn K (.ref C) "__setattr__" = some (some (.builtin "object.__setattr__"))
section
variable {e:Addr}
theorem ib {dx tb}(I:Inv X pins σ H s)(he:H e=some (ExO C e dx ar tb)):vh C e dx ar tb s.heap:=(I.hok e _ he).1
structure BaseInit (K:Frag)(T:Addr):Prop where
 ga:specialIn K (.ref T) "__getattribute__" = some (some (.builtin "type.__getattribute__"))
 rd:readsIn K T (.type "type")=true
 at_:findCls K (.ref T) (.type "type") "__init__" = some (.val (.builtin "ValueError.__init__"))
theorem pY {dx tb}{us:List Value}{rest}(x:ExF X.K C T fI)(I:Inv X pins σ H s)(he:H e=some (ExO C e dx ar tb))(rv:b_ rest us)(hz:us.length<=sizeLine)
  (hq:∀t s',H t=none->t≠e->Inv X pins σ (upd (upd H t (.tup rest)) e (ExO C e dx (some t) tb)) s'->Q .none s'):wpAny (model X.prog X.w) A (call (.builtin "ValueError.__init__") (.ref e::us)) Q E s:=by
 have F:=PySem.F.excBase_ValueError;obtain⟨nm,q,N,bs,hdct,sn,sub,ab,col,dd,k0,k1,k2,k3,k5,lk⟩:=x.cls;have hC:=I.kIn _ _ lk;obtain⟨o,vs,e1,e2,e3,e4,e5,e6,eT⟩:=ib I he;rcases s with⟨hp,g,d,tk,os⟩;refine wpAny_call (codeAny_call_builtin F.init.plain F.initEntry (wpAny_check_init_subU F (x.tail I.kIn) hC e1 e2 ?_))
 delta Builtin.«BaseException.__init__»
 dsimp only;rw[ah (by simp)];unfold Builtin.BaseException.bexcPut newTuple;have h0:vs[0]?=some vs[0]:=by simp[e5]
 have e1':=af (h:=hp) { cls:=.type "tuple",data:=.seq us.toArray } e1;refine aa (wpAny_newObj_type (aa (aa (wpAny_field e1' e4 h0 (aa (wpAny_setField e1' e4 e5 ?_))))) hz);have nt:=ne_of_gt (aS e1)
 have key:Inv X pins σ (upd (upd H hp.objs.size (.tup rest)) e (ExO C e dx (some hp.objs.size) tb)) ⟨(hp.push { cls:=.type "tuple",data:=.seq us.toArray }).update e (mapFields (·.setIfInBounds 0 (.ref hp.objs.size))),g,d,tk,os⟩:=by
  have I1:=I.laid (a:=hp.objs.size) (o:=.tup rest) (h':=hp.push { cls:=.type "tuple",data:=.seq us.toArray }) (t':=tk) (fun b o q=>af _ q) (aD _) ⟨by rw[rv.length];exact hz,_,rv,(by first|exact⟨IsTup.new _ _,du⟩|exact IsTup.new _ _)⟩
  have e7:((hp.push { cls:=.type "tuple",data:=.seq us.toArray }).update e (mapFields (·.setIfInBounds 0 (.ref hp.objs.size)))).get? e=some (mapFields (·.setIfInBounds 0 (.ref hp.objs.size)) o):=
   bY _ e1' (isFreed_of_fields (data_mapFields e4 _))
  refine I1.write (x:=e) (e:=e) (t':=tk) (by rw[aE nt.symm,he];trivial) (.inl rfl) (fun b u hb q=>(get?_update_other _ _ hb.symm).trans q) ⟨_,e7⟩ (mB ⟨_,_,e7,(Obj.cls_mapFields ..).trans e2,?_,data_mapFields e4 _,by simpa using e5,fun t ht=>?_,by rw[Array.getElem?_setIfInBounds_ne (by decide)];exact eT⟩)
  ·have:(mapFields (·.setIfInBounds 0 (.ref hp.objs.size)) o).dict=o.dict:=by
    rcases o with⟨oc,od,odt,osl⟩;cases(show odt=_ from e4);rfl
   rw[this,e3]
  ·cases ht;simp[e5]
 have fin:wpAny (model X.prog X.w) A.in1 (ret Value.none) (fun fin s'=>match fin with
   | Fin.done f=>match (Except.ok f:Result) with
    | Except.ok (Flow.ret v)=>Q v s'
    | Except.ok a=>False
    | Except.error e=>E e s'
   | Fin.again c'=>c'.quiet=true/\codeAny (model X.prog X.w) A c' (fun r s'=>match r with
    | Except.ok (Flow.ret v)=>Q v s'
    | Except.ok a=>False
    | Except.error e=>E e s') s') (fun e s'=>E e s') _:=ae (hq _ _ (I.hok.fresh (aD _)) nt key)
 cases vs[0]<;>first
  | exact wpAny_letGo fin
  | exact ae fin
theorem nk (self:Value):refuseLoop self "__setattr__" (.ref C::.ref T::bmV)=pure ():=by
 rw[refuseLoop_ref,refuseLoop_ref]
 first
  | kernel_rfl
  | rfl
theorem rY {tb f}{Q:Unit->Shared->Prop}(x:ExF X.K C T fI)(I:Inv X pins σ H s)(he:H e=some (ExO C e none ar tb))(n:cM X.K C f)(ry:cb y u)
  (hq:∀dx s',H dx=none->dx≠e->Inv X pins σ (upd (upd H dx (XdO dx [(f,y)])) e (ExO C e (some dx) ar tb)) s'->Q () s'):wpAny (model X.prog X.w) A (setAttr (.ref e) f u) Q E s:=by
 obtain⟨o,vs,e1,e2,e3,e4,e5,e6,eT⟩:=ib I he;have J:InstAt s.heap e o C none:=⟨e1,e2,by unfold notCls;rw[e4],by rw[e3];trivial⟩;refine set_plain I.kIn J x.sa ?_;have SF:=PySem.F.store_object;obtain⟨cd,hc,hd'⟩:=any_some x.hd;obtain⟨nm,q,N,bs,hdct,sn,sub,ab,col,dd,k0,k1,k2,k3,k5,lk⟩:=x.cls
 have hcd:cd.mro=.ref C::.ref T::bmV:=by
  unfold clsIn at hc;rw[lk] at hc;cases hc;rfl
 have hm:PySem.W.Looks (model X.prog X.w) s.heap (mroOf (.ref C)) cd.mro:=(looks_clsIn I.kIn hc).andThen .now
 have sub:PySem.W.Looks (model X.prog X.w) s.heap (isInstance (.ref e) (.type "object")) true:=
  J.type.andThen (looks_mroIn I.kIn (by unfold mroIn;rw[hc,bind_some,hcd];rfl))
 have hat:=looks_findIn (M:=model X.prog X.w) I.kIn (show findIn X.K (.ref C) f=some none from n);refine codeAny_call_builtin SF.slot.plain SF.entry (@PySem.W.check_slot (model X.prog X.w) _ _ { s with toks:=s.toks+1 } "object.__setattr__" "object" "__setattr__" (.ref e) [.str f s.toks,u] [] _ SF.kind SF.split sub (SF.args (.ref e) (.str f s.toks) u) ?_);rw[PySem.W.osa_eq,refuse_eq]
 refine aa (aa (PySem.W.Looks.here (s:={ s with toks:=s.toks+1 }) J.type (aa (PySem.W.Looks.here (s:={ s with toks:=s.toks+1 }) hm ?_))));rw[hcd,nk];refine ae (aa (PySem.W.Looks.here (s:={ s with toks:=s.toks+1 }) J.type (aa (PySem.W.Looks.here (s:={ s with toks:=s.toks+1 }) hat (aa (ae ?_))))))
 have e1b:s.heap.get? e=some ⟨.ref C,none,.fields vs,o.slots⟩:=by
  rcases o with⟨oc,od,odt,osl⟩;cases(show oc=_ from e2);cases(show od=_ from e3);cases(show odt=_ from e4);exact e1
 unfold storeInOwnDict;refine aa (ae ?_);dsimp only;rw[ah (by intro z;cases z)];refine aa ?_;unfold ownDictForStores instanceDict;refine aa (wpAny_loadPart (s:={ s with toks:=s.toks+1 }) e1b ?_);dsimp only;refine aa (PySem.W.Looks.here (s:={ s with toks:=s.toks+1 }) (looks_clsIn I.kIn hc) ?_)
 rw[hd',ah (by decide),ah (show ¬(!true || !typeHasDict (.ref C))=true from aj)];have nd:=ne_of_gt (aS e1);refine aa (wpAny_alloc (aa (wpAny_update (af _ e1b) (ae ?_))));generalize hg1:s.heap.push { cls:=.type "dict",data:=.dict #[] }=g1
 have p1:∀b o,s.heap.get? b=some o->g1.get? b=some o:=fun b o q=>by rw[<- hg1];exact af _ q
 have q1:g1.get? s.heap.objs.size=some { cls:=.type "dict",data:=.dict #[] }:=by rw[<- hg1];exact aI _ rfl
 generalize hg2:g1.update e (fun o=>{ cls:=o.cls,dict:=some s.heap.objs.size,data:=o.data,slots:=o.slots })=g2;have q2:g2.get? s.heap.objs.size=some { cls:=.type "dict",data:=.dict #[] }:=by rw[<- hg2,get?_update_other _ _ nd.symm];exact q1
 have q2e:g2.get? e=some ⟨.ref C,some s.heap.objs.size,.fields vs,o.slots⟩:=by rw[<- hg2,bY _ (p1 _ _ e1b) rfl]
 have q2o:∀b,b≠e->g2.get? b=g1.get? b:=fun b hb=>by rw[<- hg2];exact get?_update_other _ _ hb.symm
 have n2:g2.Ns s.heap.objs.size (fun _=>none):=⟨_,#[],_,q2,rfl,(fun e he=>aY he (by simp)),fun _=>rfl⟩;unfold storeInDict;refine aa (ae (aa (wpAny_nsSet1 (s:=⟨g2,s.gens,s.drawn,s.toks+1,s.os⟩) (Heap.Ns1.of_empty n2) fun h3 hn3 hs3=>?_)))
 have wi:PySem.Within (fun z=>if z=f then some u else none) [f]:=fun z hz=>by
  by_cases q:z=f
  ·simp[q]
  ·exact aY (ah q) hz
 obtain⟨oD,esD,epD,hoD,hdD,hcD⟩:=hn3.count wi;refine aa (wpAny_lookBehind hoD (by rw[hdD];exact pastItsLine_dict (Nat.le_trans hcD (by rw[sizeLine_eq,List.length_singleton];decide))) ?_);refine ae (hq s.heap.objs.size _ (I.hok.fresh (by lia)) nd ?_)
 -- the dict first, with what it holds; then the error that has it
 have kA:(s.heap.push oD).get? s.heap.objs.size=some oD:=aI _ (Obj.isFreed_of_dict hdD)
 have I1:=I.laid (a:=s.heap.objs.size) (o:=XdO s.heap.objs.size [(f,y)]) (h':=s.heap.push oD) (t':=s.toks+1+1) (fun b u q=>af _ q) (by lia)
  (vm ⟨le_of_ble_eq_true rfl,_,hn3.at fun o q=>by rw[hoD] at q;cases q;exact kA,fun z=>?_,wi⟩)
 ·refine I1.write (x:=e) (e:=e) (t':=s.toks+1+1) (by rw[aE nd.symm,he];trivial) (.inl rfl) (fun b v hb q=>?_) ⟨_,hs3.extBut _ _ nd.symm q2e⟩ (mB ⟨_,vs,hs3.extBut _ _ nd.symm q2e,rfl,rfl,rfl,e5,e6,eT⟩);by_cases hbd:b=s.heap.objs.size
  ·subst hbd;rw[kA] at q;cases q;exact hoD
  ·have hlt:b<s.heap.objs.size:=by
    have z:=aS q;have z2:(s.heap.push oD).objs.size=s.heap.objs.size+1:=size_push _ _;have z3:b<s.heap.objs.size+1:=by rw[<- z2];exact z
    exact Nat.lt_of_le_of_ne (Nat.le_of_lt_succ z3) hbd
   have q':s.heap.get? b=some v:=by
    obtain⟨a1,a2⟩:=get?_some_iff.mp q;refine get?_some_iff.mpr ⟨?_,a2⟩;have:(s.heap.objs.push oD)[b]?=some v:=a1;rw[Array.getElem?_push_lt hlt] at this;simpa[hlt] using this
   exact hs3.extBut _ _ hbd (by rw[q2o b hb];exact p1 _ _ q')
 ·show ij ([(f,y)].lookup z) (if z=f then some u else none);by_cases q:z=f
  ·subst q;rw[ak rfl,lookup_cons];simp;exact ry
  ·rw[ah q,lookup_cons];have:(z==f)=false:=beq_eq_false_iff_ne.mpr q;rw[this]
   trivial
theorem rZ {tb}{fs:List (Str×V)}{f b}(g:hasDictIn X.K C=true)(I:Inv X pins σ H s)(he:H e=some (ExO C e (some dx) ar tb))(hx:H dx=some (XdO dx fs))(n:cM X.K C f)
  (l:fs.lookup f=some y) (ga:∀{o:Obj} {od:Option Obj} {v:Value},InstAt s.heap e o C od->findObj X.K C od f=some (.value v)->handedIn v=true->Q v { s with toks:=s.toks+1 }->wpAny (model X.prog X.w) A (getAttr (.ref e) f b) Q E s)
  (hq:∀u s',Inv X pins σ H s'->cb y u->Q u s'):wpAny (model X.prog X.w) A (getAttr (.ref e) f b) Q E s:=by
 obtain⟨o,vs,e1,e2,e3,e4,e5,e6,eT⟩:=ib I he;obtain⟨hzl,mA,hn,rA,wA⟩:=(show vf dx fs s.heap from (I.hok dx _ hx).1);obtain⟨oD,q,hl⟩:=jP hn;obtain⟨u,hu,ru⟩:=ij.some_of (v:=y) (o:=mA f) (by rw[<- l];exact rA f);exact ga ⟨e1,e2,by unfold notCls;rw[e4],by rw[e3];exact q⟩ (findObj_own g n rfl (by rw[hl,hu])) (jU ru) (hq u _ (I.tok _) ru)
end
structure ExG (K:Frag)(C:Addr):Prop where
 ga:findIn K (.ref C) "__getattribute__" = some (some (.builtin "BaseException.__getattribute__"))
 no:findIn K (.ref C) "__getattr__" = some none
 be:mroIn K C (.type "BaseException")=some true
 hd:hasDictIn K C=true
 ca:findIn K (.ref C) "__class__" = some (some (.builtin "object.__class__"))
 cn:specialIn K (.builtin "object.__class__") "__get__" = some (some (.builtin "getset_descriptor.__get__"))
 ct:takesIn K (.builtin "object.__class__")=some true
 ob:mroIn K C (.type "object")=some true
 ki:subIn K (.ref C) (.type "int")=some false
 kb:subIn K (.ref C) (.type "bool")=some false
 kl:subIn K (.ref C) (.type "list")=some false
 kt:subIn K (.ref C) (.type "tuple")=some false
def rW (r:Found)(e C:Addr)(name:Str):Sem PySem.Fin:=match r with
 | .value v=>ret v
 | .bind g a=>bindTo g a (.ref e) (.ref C)
 | .missing=>noSuchAttribute (.ref e) name
section
variable {e:Addr}{o:Obj}{od:Option Obj}
theorem uX {fill tk}{r:Found}(x:ExG K C)(X:K.In s.heap)(I:InstAt s.heap e o C od)(hf:findObj K C od name=some r)(hr:r≠.missing)
  (h:wpAny (model prog w) A.in1 (rW r e C name) (fun fin s'=>match fin with|.done (.ret v)=>wpAny (model prog w) A (handedOut v) Q E s'|_=>False) (fun _ _=>False) s) :
  wpAny (model prog w) A (getAttrBy (.ref e) (.str name tk) fill expr) Q E s:=by
 have SL:=PySem.F.attr_ValueError.ga;unfold getAttrBy;refine bj (aa (I.type.here (aa ((looks_findIn X x.ga).here ?_))));dsimp only;rw[ah (by rw[show (builtin "BaseException.__getattribute__" == builtin "object.__getattribute__")=false from by decide +kernel,Bool.and_false];decide)];unfold getAttrByItsOwn
 refine aa ((PySem.W.looks_hook (mc:=.ref C) X (r:=none) (by rw[ak (by rfl)];exact x.no)).here (aa (wpAny_attempt (bj ?_))));unfold callGetattribute;rw[ah (by rw[show onTheHeap (builtin "BaseException.__getattribute__")=false from rfl,Bool.and_false];decide)];unfold boundAndCalled;rw[SL.bind];refine aa (ae ?_)
 refine wpAny_call (codeAny_call_builtin SL.plain PySem.F.entry_bexc_ga ?_);refine @PySem.W.check_slot (model prog w) _ _ s "BaseException.__getattribute__" "BaseException" "__getattribute__" (.ref e) [.str name tk] [] _ (by decide +kernel) (by decide +kernel) (I.type.andThen (looks_mroIn X x.be)) (PySem.F.args_bexc_ga (.ref e) (.str name tk)) ?_
 delta Builtin.«object.__getattribute__»
 refine aa (ae (aa (ae (aa (I.type.here (aa ((PySem.W.looks_find X I hf).here ?_)))))));refine bn (show wpAny (model prog w) A.in1 _ (fun fin s'=>match fin with|.done (.ret v)=>wpAny (model prog w) A (handedOut v) Q E s'|_=>False) (fun _ _=>False) s from ?_) (fun fin s' z=>?_) fun _ _ z=>z.elim
 ·cases r with
  | value v=>exact h
  | bind g a=>exact h
  | missing=>exact aY rfl hr
 ·rcases fin with(_|_|_|_)|_<;>first|exact z|exact z.elim
theorem nj {v}(x:ExG K C)(X:K.In s.heap)(I:InstAt s.heap e o C od)(hf:findObj K C od name=some (.value v))(hh:handedIn v=true)
  (h:Q v { s with toks:=s.toks+1 }):wpAny (model prog w) A (getAttr (.ref e) name expr) Q E s:=by
 unfold getAttr;refine aa (wpAny_mkText (uX (s:={ s with toks:=s.toks+1 }) x X I hf nofun (ae ?_)));show wpAny (model prog w) _ (handedOut v) _ _ _;rw[PySem.W.handedOut_of hh];exact ae h
end
end L2
namespace L2
open PySem PySem.Spec PyProof.Rows
inductive Thg (K:Frag)(H:Hp):V->Value->Prop where
 | non:Thg K H .non (.type "NoneType")
 | bl (x:Bool):Thg K H (.bl x) (.type "bool")
 | int (i:Int):Thg K H (.int i) (.type "int")
 | str (x:Str):Thg K H (.str x) (.type "str")
 | lst {a:Addr} {xs:List V} (e:H a=some (.lst xs)):Thg K H (.ref a) (.type "list")
 | frz {a:Addr} {o:Obj} {xs:List V} (e:H a=some (.frz o (.lst xs))):Thg K H (.ref a) (.type "list")
 | tup {a:Addr} {xs:List V} (e:H a=some (.tup xs)):Thg K H (.ref a) (.type "tuple")
 | dK {a:Addr} {kvs:List (Key×V)} (e:H a=some (.dK kvs)):Thg K H (.ref a) (.type "dict")
theorem Thg.keep {t}(x:Thg K H v t)(k:∀a o,H a=some o->H' a=some o):Thg K H' v t:=by
 cases x with
 | non=>exact .non
 | bl x=>exact .bl x
 | int i=>exact .int i
 | str x=>exact .str x
 | lst e=>exact .lst (k _ _ e)
 | frz e=>exact .frz (k _ _ e)
 | tup e=>exact .tup (k _ _ e)
 | dK e=>exact .dK (k _ _ e)
section
theorem bI.there (x:bI P w H h a o):∃ob,h.get? a=some ob:=by
 cases o with
 | lst xs=>obtain⟨_,_,_,_,e⟩:=x;exact⟨_,e⟩
 | tup xs=>obtain⟨_,_,_,⟨ob,e,_⟩,_⟩:=x;exact⟨ob,e⟩
 | dK kvs=>obtain⟨_,_,_,_,o,_,_,e,_⟩:=x;exact⟨o,e⟩
 | dT kvs=>obtain⟨_,_,_,_,o,_,_,e,_⟩:=x;exact⟨o,e⟩
 | set S n=>obtain⟨o,_,_,_,e,_⟩:=x;exact⟨o,e⟩
 | ins C dx fs=>obtain⟨_,_,_,e,_⟩:=x;exact⟨_,e⟩
 | own y=>exact x
 | xd fs=>obtain⟨_,⟨o,_,_,e,_⟩,_⟩:=x;exact⟨o,e⟩
 | rng lo hi=>obtain⟨_,_,_,e⟩:=x;exact⟨_,e⟩
 | frz ob u=>obtain⟨e,_⟩:=x;exact⟨ob,e⟩
 | tbl ps=>exact⟨_,x⟩
 | met f y=>exact⟨_,x⟩
 | ext φ=>exact x.2
theorem Thg.kit {t}(I:Inv X pins σ H s)(r:cb v u)(x:Thg X.K H v t):u≠.builtin "__main__.__loader__#opaque"/\∃φ,PySem.W.KitX X.K u t φ/\φ s.heap:=by
 cases x with
 | non=>cases(show u=Value.none from r);exact⟨nofun,_,PySem.W.kitx_none,True.intro⟩
 | bl y=>cases(show u=Value.bool y from r);exact⟨nofun,_,PySem.W.kitx_bool,True.intro⟩
 | int i=>obtain⟨t,q⟩:=(show ∃t,u=Value.int i t from r);cases q;exact⟨nofun,_,PySem.W.kitx_int,True.intro⟩
 | str y=>obtain⟨t,q⟩:=(show ∃t,u=Value.str y t from r);cases q;exact⟨nofun,_,PySem.W.kitx_str,True.intro⟩
 | @lst a xs ea=>
  cases(show u=Value.ref a from r);obtain⟨_,_,n,_,h1⟩:=(show bI X.prog X.w H s.heap a (.lst xs) from I.hok a _ ea);exact⟨nofun,_,kitx_list,⟨_,h1,rfl⟩⟩
 | @frz a ob xs ea=>
  cases(show u=Value.ref a from r);obtain⟨_,_,_,n,_,h1⟩:=(show bI X.prog X.w H s.heap a (.frz ob (.lst xs)) from I.hok a _ ea);exact⟨nofun,_,kitx_list,⟨_,h1,rfl⟩⟩
 | @tup a xs ea=>
  cases(show u=Value.ref a from r);obtain⟨_,_,_,p,_⟩:=(show bI X.prog X.w H s.heap a (.tup xs) from I.hok a _ ea);obtain⟨o,h1,h2,_⟩:=p;exact⟨nofun,_,PySem.W.kitx_tuple,⟨o,h1,h2⟩⟩
 | @dK a kvs ea=>
  cases(show u=Value.ref a from r);obtain⟨_,_,vs,_,p⟩:=(show bI X.prog X.w H s.heap a (.dK kvs) from I.hok a _ ea);obtain⟨o,es,ep,h1,h2,_⟩:=p;exact⟨nofun,_,PySem.W.kitx_dict,⟨o,h1,h2.1⟩⟩
def vOf:V->Value
 | .ty n=>.type n
 | .ref a=>.ref a
 | _=>.none
theorem lG:∀{cs:List V} {us:List Value},b_ cs us->(∀c∈cs,(∃n,c=.ty n)\/∃a,c=.ref a)->us=cs.map vOf
 | _,_,.nil,_=>rfl
 | c::cs,u::us,.cons r t,h=>by
  rw[bX,lG t fun c hc=>h c (aX _ hc)];rcases h c bt with⟨n,rfl⟩|⟨a,rfl⟩
  ·cases(show u=type n from r);rfl
  ·cases(show u=Value.ref a from r);rfl
def yH (K:Frag):List V->Hp->VK->Prop:=fun xs H Q=>Ex4 fun v c t b=>xs=[v,c]/\Thg K H v t/\((∃T,c=.ty T/\kitOne K t (.type T)=some b)\/(∃C,c=.ref C/\kitOne K t (.ref C)=some b) \/
    Ex2 fun tp cs=>An4 (c=.ref tp) (H tp=some (.tup cs)) (∀c∈cs,(∃n,c=.ty n)\/∃a,c=.ref a) (kitAny K t (cs.map vOf)=some b))/\Q (.bl b) H
theorem bZ:fe X (.builtin "isinstance") (yH X.K):=by
 intro pins s σ H xs us Q I r h;obtain⟨v,c,t,b,rfl,x,hc,q⟩:=h;obtain⟨u,u',rfl,ru,ru'⟩:=mL r;obtain⟨hx,φ,Z,p⟩:=x.kit I ru;have fin:∀tk,EP X pins σ Q (.bool b) { s with toks:=tk }:=fun tk=>⟨.bl b,H,I.tok tk,rfl,q⟩;rcases hc with⟨T,rfl,e⟩|⟨C,rfl,e⟩|⟨tp,cs,rfl,ht,hcs,e⟩
 ·cases(show u'=type T from ru');exact kia_one Z I.kIn p e hx fin
 ·cases(show u'=Value.ref C from ru');exact kia_one Z I.kIn p e hx fin
 ·cases(show u'=Value.ref tp from ru');obtain⟨_,its,rv,⟨o,h1,h2,n,h3⟩,_⟩:=(show bI X.prog X.w H s.heap tp (.tup cs) from I.hok tp _ ht);rcases o with⟨oc,od,odt,osl⟩;cases(show oc=_ from h2);cases(show odt=_ from h3);rw[<- lG rv hcs] at e;exact PySem.W.kia_tup Z I.kIn p h1 e hx fin
end
section
def tEx (C:Addr)(sp:Sp)(t:TA):TE:=fun σ H Q=>t σ H fun vs H1=>vs.length<=sizeLine/\∀e,H1 e=none->sp (.ref e::vs) (upd H1 e (ExO C e none none none)) (fun v H2=>v=.non/\Q (.ref e) H2) E0
theorem sT {k:Nat}{t}(M:ExF X.K C T fI)(F:nI X.prog X.w X.K X.mg X.base CX0 k fI fd ps sp)(hr:jp (k+1) X.A)(hg:Gl X x)(hm:X.mg x=some (.ref C))
  (hb:eS X.K fd ps []) (ha:PA X (e::es) t) (hdb:(x==("__debug__" : Str))=false:=by decide) (he:starEach (e::es) X.env=(false,eval e X.env)::starEach es X.env:=by rfl) (hpl:(backTo pos (starEach es X.env)).any (·.1)=false:=by rfl) :
  PE X (.Call (.Name x p) (e::es) [] pos) (tEx C sp t):=by
 intro pins s σ H Q I h;refine wpAny_Call_Name_kw (fA I hg hm ?_ hdb);refine callWith_K (h₀:=X.base) I.ok.mod.kin M.kp (thn (ha pos pins s σ H _ I h) fun us s1 ⟨vs,H1,I1,r,hz,q⟩=>⟨I1.kIn,?_⟩) he hpl;obtain⟨hp,g,d,tk,os⟩:=s1;refine r6 M.toExC I1.kIn (fun h' e hm hle=>?_) (by rw[nil_append,<- r.length];exact hz);obtain⟨hk,hn,tt,h1,_,h2⟩:=hm
 have I2:=I1.laid (a:=e) (o:=ExO C e none none none) (h':=h') (t':=tk) hk hle (mB ⟨_,_,h1,rfl,rfl,rfl,by show 0<6;decide,nofun,rfl⟩);have hq:=q e (I1.hok.fresh hle);have r2:b_ (V.ref e::vs) (Value.ref e::us):=.cons rfl r
 have hl:(Value.ref e::us++[]).length=ps.length:=by
  have e1:=r2.length;rw[F.len _ _ _ _ hq] at e1;rw[cH];exact e1.symm
 have hbb:=hb ⟨h',g,d,tk,os⟩ (Value.ref e::us) I2.kIn hl;rw[cH] at hbb;refine wpAny_call (codeAny_mono (F.run _ X.stack _ _ ⟨Value.ref e::us,[]⟩ (Value.ref e::us) _ _ E0 (hr.make C us []) (I2.env0.make C us []) hbb r2 hq) fun rr s' hq'=>?_);cases rr with
 | error e=>exact False.elim hq'
 | ok fl=>
  cases fl with
  | ret u=>
   obtain⟨v,H',I3,rv,ev,q3⟩:=I2.after hq';subst ev;exact⟨rv,⟨V.ref e,H',I3,rfl,q3⟩⟩
  | next=>exact False.elim hq'
  | brk=>exact False.elim hq'
  | cont=>exact False.elim hq'
def tBI (C:Addr)(t:TA):TE:=fun σ H Q=>t σ H fun vs H1=>Ex5 fun e dx ar tb rest=>An4 (vs=.ref e::rest) (rest.length<=sizeLine) (H1 e=some (ExO C e dx ar tb)) (∀t,H1 t=none->t≠e->Q .non (upd (upd H1 t (.tup rest)) e (ExO C e dx (some t) tb)))
theorem kH {t}(M:ExF X.K C T fI)(B:BaseInit X.K T)(hg:Gl X x)(hm:X.mg x=some (.ref T))(ha:PA X (e::es) t)
  (hdb:(x==("__debug__" : Str))=false:=by decide) (he:starEach (e::es) X.env=(false,eval e X.env)::starEach es X.env:=by rfl) (hpl:(backTo pos (starEach es X.env)).any (·.1)=false:=by rfl)
  (ht:eval (.Call (.Attribute (.Name x p) "__init__" apos) (e::es) [] pos) X.env=(do
   let ov <- eval (.Name x p) X.env
   standAt apos.atName
   let(f,first) <- holding [ov] (getMethod ov "__init__" pl)
   callWith pos f first (backTo pos (starEach (e::es) X.env)) (backToKw pos (keywordEach [] X.env))):=by rfl) :
  PE X (.Call (.Attribute (.Name x p) "__init__" apos) (e::es) [] pos) (tBI C t):=by
 intro pins s σ H Q I h;refine methodCall_KW (pl:=pl) (fA I hg hm ?_ hdb) ht;refine PySem.W.method_cls I.kIn B.ga (PySem.W.cls_value I.kIn B.rd B.at_ (by decide +kernel) ?_);refine callWith_builtin1 (thn (ha pos pins { s with toks:=s.toks+1 } σ H _ (I.tok _) h) fun us s1 ⟨vs,H1,I1,r,q⟩=>?_) he hpl;obtain⟨e',dx,ar,tb,rest,rfl,hz,hE,q⟩:=q;cases r with
 | cons r1 r2=>
  cases r1;exact pY M I1 hE r2 (by rw[<- r2.length];exact hz) fun t s' f1 f2 I'=>⟨.non,_,I',rfl,q t f1 f2⟩
def z4 (K:Frag)(C:Addr)(ta tv:TE)(f:Str):TS:=fun D σ H=>tv σ H fun y H1=>ta σ H1 fun x H2=>Ex3 fun e ar tb=>An4 (x=.ref e) (H2 e=some (ExO C e none ar tb)) (cM K C f) (∀dx,H2 dx=none->dx≠e->D.nx σ (upd (upd H2 dx (XdO dx [(f,y)])) e (ExO C e (some dx) ar tb)))
theorem v9 {o f}(M:ExF X.K C T fI)(ha:PE X o ta)(hv:PE X value tv)(hs:swapsWith value (some (.Attribute o f pos')) pos.line X.env=pure false):PS X (.Assign [.Attribute o f pos'] value pos) (z4 X.K C ta tv f):=by
 intro pins s σ H D I h;refine plainObj_wpAny_Assign_Attribute (thn (hv pins s σ H _ I h) fun u s1 ⟨y,H1,I1,ry,q⟩=>thn (ha pins s1 σ H1 _ I1 q) fun ov s2 ⟨x,H2,I2,rx,e,ar,tb,ex,ea,n,q2⟩=>?_) hs;subst ex;obtain rfl:ov=Value.ref e:=rx;exact rY M I2 ea n ry fun dx s3 h1 h2 I3=>⟨σ,_,I3,q2 dx h1 h2⟩
def nY (K:Frag)(ta:TE)(f:Str):TE:=fun σ H Q=>ta σ H fun x H1=>Ex7 fun e C dx ar tb fs y=>An7 (x=.ref e) (H1 e=some (ExO C e (some dx) ar tb)) (H1 dx=some (XdO dx fs)) (ExG K C) (cM K C f) (fs.lookup f=some y) (Q y H1)
theorem q8 {f}(he:PE X e ta)(hb:attributeBase e f X.env (eval e X.env)=eval e X.env):PE X (.Attribute e f pos) (nY X.K ta f):=by
 intro pins s σ H Q I h;refine qB hb (thn (he pins s σ H _ I h) fun u s1 zz=>?_);obtain⟨x,H1,I1,rx,a,C,dx,ar,tb,fs,y,ex,ea,ed,g,n,l,q⟩:=zz;subst ex;obtain rfl:u=Value.ref a:=rx;exact rZ g.hd I1 ea ed n l (fun J hf hh hq=>nj g I1.kIn J hf hh hq) fun u' s2 I2 ru=>⟨y,H1,I2,ru,q⟩
end
section
variable {e t:Addr}{o:Obj}{od:Option Obj}{vs:Array Value}{tk:Tok}{nm:String}
def KBp (p:Addr)(H H':Hp):Prop:=∀b o,H b=some o->b≠p->H' b=some o
def Shw (P:Program)(w:World)(K:Frag)(p:Addr)(H:Hp)(as:List Addr)(d:Nat)(v:V)(t:Str):Prop:=
 ∀(X:Cx) (pins:List (Addr×Obj)) (σ:St) (H':Hp) (s:Shared) (u:Value),X.prog=P->X.w=w->X.K=K->Inv X pins σ H' s->KBp p H H'->cb v u->ReprK P w as s.heap d u t
variable {p:Addr}{d:Nat}{tx:Str}
end
section
variable {p:Addr}{d:Nat}{tx:Str}
end
section
variable {g:Array GenState}{d:Drawn}{t:Nat}{os:OsState}
end
section
variable {e:Addr}
theorem Inv.slots (I:Inv X pins σ H s)(x:Heap.SlotsOnly (frs X.stack) s.heap h'):Inv X pins σ H { s with heap:=h' }:=by
 have nf:∀b o,H b=some o->b∉frs X.stack:=fun b o q m=>by rw[I.stkFree b m] at q;cases q
 refine I.call (g':=s.gens) (t':=s.toks) (d':=s.drawn) (ch:=[]) ⟨fun b o q n hb _=>(x.2.1 b hb).trans q,fun b o q _ _ _=>x.2.2 b o q,fun _ _ _ n _=>n,fun b o q _=>let⟨_,z⟩:=x.2.2 b o q;⟨_,z⟩,fun _ _ q=>q,fun _ _ _ q=>q,fun b ps q=>⟨#[],by rw[q];simp⟩⟩ (fun a o q=>?_) I.bare nofun
 refine(I.hok a o q).stay (fun b u hb z=>?_) (fun _ z=>z) fun _ _ z=>z;rcases hb with rfl|hb
 ·exact(x.2.1 _ (nf _ _ q)).trans z
 ·exact(x.2.1 _ (nf _ _ hb)).trans z
def xW (b:Addr)(h:Heap):Prop:=∃(o:Obj) (ts:Array Value),h.get? b=some o/\o.data=.fields ts/\ts[3]?=some .none
def TbO (b:Addr):HO:=.ext (xW b)
theorem nV (x:xW b h):bI P w H h b (TbO b):=by
 refine⟨x,?_,fun h1 h2 q k=>?_⟩
 ·obtain⟨o,_,e1,_⟩:=x;exact⟨o,e1⟩
 ·obtain⟨o,ts,e1,r⟩:=q;exact⟨o,ts,k o e1,r⟩
theorem pq {dx tb}{Q:Unit->Shared->Prop}(hst:X.stack=X.env::X.outer)(hfr:X.env.frame=some X.env.locals)(I:Inv X pins σ H s)(he:H e=some (ExO C e dx ar tb))(ht:∀b,tb=some b->H b=some (TbO b)/\b≠e)
  (hA:A.frames=some X.stack) (hq:∀b' s',H b'=none->b'≠e->Inv X pins σ (upd (upd H b' (TbO b')) e (ExO C e dx ar (some b'))) s'->Q () s'):wpAny (model X.prog X.w) A (noteFrame (.ref e) X.env) (fun _ s'=>wpAny (model X.prog X.w) A (setFlight (.ref e) none) Q E s') E s:=by
 obtain⟨o,vs,e1,e2,e3,e4,e5,e6,eT⟩:=ib I he;have h1:=(Array.getElem?_eq_some_iff.mp eT).1
 -- the entry is made, stored, and its flight is ended
 have tail:∀{s1:Shared} {hd:Value} {nx:Bool},Inv X pins σ H s1->s1.heap.get? e=some o->wpAny (model X.prog X.w) A (do let a <- frameOf X.env;let pl <- entryPlaceOf X.env.locals nx;let b <- EntryCells.newEntry hd a .none (rawInt X.env.locals) .none pl;setField (.ref e) 1 b)
   (fun _ s2=>wpAny (model X.prog X.w) A (setFlight (.ref e) none) Q E s2) E s1:=fun {s1 hd nx} I1 q1=>by
  rw[hst] at hA;have fr:s1.heap.FunFrames X.base (X.env::X.outer):=by have:=I1.stack;rw[hst] at this;exact this
  refine aa (wpAny_frameOf_fun hA fr hfr fun h2 hs2=>?_);have I2:Inv X pins σ H { s1 with heap:=h2 }:=I1.slots (by rw[hst];exact hs2)
  have ne:e∉(X.env::X.outer).filterMap (·.frame):=fun m=>by
   have:=I1.stkFree e (by rw[hst];exact m);rw[he] at this;cases this
  have q2:=(hs2.2.1 e ne).trans q1;refine aa (wpAny_entryPlaceOf fun pl hpl=>?_);unfold EntryCells.newEntry newFields;refine aa (wpAny_newObj_type ?_ (hpl.sizeOk5 _ _ _ _ _));generalize hob:({ cls:=.type "traceback",data:=.fields ([hd,.ref X.env.locals,.none,rawInt X.env.locals,.none]++(if pl.isEmpty then replicate 6 Value.none else pl)).toArray }:Obj)=ob
  have obd:∃ts,ob.data=.fields ts/\3<ts.size:=by
   rw[<- hob];exact⟨_,rfl,by simp⟩
  obtain⟨ts,d1,d2⟩:=obd;have nb:=ne_of_gt (aS q2);have q3:=af (h:=h2) ob q2;refine wpAny_setField q3 e4 h1 ?_;have d3:=data_mapFields e4 (·.setIfInBounds 1 (Value.ref h2.objs.size));have q4:=bY (mapFields (·.setIfInBounds 1 (Value.ref h2.objs.size))) q3 (isFreed_of_fields d3)
  have q5:((h2.push ob).update e (mapFields (·.setIfInBounds 1 (Value.ref h2.objs.size)))).get? h2.objs.size=some ob:=(get?_update_other _ _ nb.symm).trans (aI h2 (isFreed_of_fields d1));unfold setFlight;refine aa (wpAny_field q4 d3 (x:=.ref h2.objs.size) (by simp[h1]) ?_);rw[ak (show (Value.ref h2.objs.size != Value.none)=true from by simp)]
  refine wpAny_setField q5 d1 d2 ?_;generalize hh3:(h2.push ob).update e (mapFields (·.setIfInBounds 1 (Value.ref h2.objs.size)))=h3 at q4 q5;have d5:=data_mapFields d1 (·.setIfInBounds 3 Value.none);have q6:=bY (mapFields (·.setIfInBounds 3 Value.none)) q5 (isFreed_of_fields d5)
  have q7:(h3.update h2.objs.size (mapFields (·.setIfInBounds 3 Value.none))).get? e=some (mapFields (·.setIfInBounds 1 (Value.ref h2.objs.size)) o):=(get?_update_other _ _ nb).trans q4;refine hq h2.objs.size _ (I2.hok.fresh (aD _)) nb ?_
  -- first the entry, as it stands at last; then the error
  have obf:=isFreed_of_fields d5
  have I3:=I2.laid (a:=h2.objs.size) (o:=TbO h2.objs.size) (h':=h2.push (mapFields (·.setIfInBounds 3 Value.none) ob)) (t':=s1.toks) (fun b u q=>af _ q) (aD _)
   (nV ⟨_,_,aI h2 obf,d5,by simp[d2]⟩)
  refine I3.write (x:=e) (e:=e) (t':=s1.toks) (by rw[aE nb.symm,he];trivial) (.inl rfl) (fun b u hb q=>?_) ⟨_,q7⟩ (mB ⟨_,_,q7,(Obj.cls_mapFields ..).trans e2,?_,d3,by simpa using e5,fun t z=>?_,by simp[h1,tbV]⟩)
  ·by_cases hbd:b=h2.objs.size
   ·subst hbd;rw[aI h2 obf] at q;cases q;exact q6
   ·rw[get?_update_other _ _ (dG hbd),<- hh3,get?_update_other _ _ (dG hb)]
    have hlt:b<h2.objs.size:=by
     have z:=aS q;have z2:(h2.push (mapFields (·.setIfInBounds 3 Value.none) ob)).objs.size=h2.objs.size+1:=size_push _ _;have z3:b<h2.objs.size+1:=by rw[<- z2];exact z
     exact Nat.lt_of_le_of_ne (Nat.le_of_lt_succ z3) hbd
    have q':h2.get? b=some u:=by
     obtain⟨a1,a2⟩:=get?_some_iff.mp q;refine get?_some_iff.mpr ⟨?_,a2⟩;have:(h2.objs.push (mapFields (·.setIfInBounds 3 Value.none) ob))[b]?=some u:=a1;rw[Array.getElem?_push_lt hlt] at this;simpa[hlt] using this
    exact af _ q'
  ·have:(mapFields (·.setIfInBounds 1 (Value.ref h2.objs.size)) o).dict=o.dict:=by
    rcases o with⟨oc,od,odt,osl⟩;cases(show odt=_ from e4);rfl
   rw[this,e3]
  ·rw[Array.getElem?_setIfInBounds_ne (by decide)];exact e6 t z
 unfold noteFrame;simp only[hfr];refine aa (wpAny_field e1 e4 eT ?_);cases tb with
 | none=>
  rw[ah (show ¬((tbV none != Value.none)=true) from by simp[tbV])];exact tail I e1
 | some b=>
  obtain⟨hb,nb⟩:=ht b rfl;obtain⟨ob,ts,b1,b2,b3⟩:=(show xW b s.heap from (I.hok b _ hb).1);have b4:=(Array.getElem?_eq_some_iff.mp b3).1;rw[ak (show (tbV (some b) != Value.none)=true from by simp[tbV])];refine aa (wpAny_field b1 b2 b3 ?_);rw[ah (show ¬((Value.none==rawInt X.env.locals)=true) from by simp[rawInt])];refine aa (wpAny_setField b1 b2 b4 ?_)
  have d5:=data_mapFields b2 (·.setIfInBounds 3 Value.none);have q6:=bY (mapFields (·.setIfInBounds 3 Value.none)) b1 (isFreed_of_fields d5)
  have I1:=I.write (x:=b) (e:=b) (o:=TbO b) (t':=s.toks) (h':=s.heap.update b (mapFields (·.setIfInBounds 3 Value.none))) (by rw[hb];trivial) (.inl rfl) (fun c u hc q=>(get?_update_other _ _ hc.symm).trans q) ⟨_,q6⟩ (nV ⟨_,_,q6,d5,by simp[b4]⟩)
  have eH:upd H b (TbO b)=H:=by
   funext c
   by_cases hc:c=b
   ·rw[hc,ay,hb]
   ·rw[aE hc]
  rw[eH] at I1;exact tail I1 ((get?_update_other _ _ nb).trans e1)
theorem rJ {dx tb}{Q:Unit->Shared->Prop}(hst:X.stack=X.env::X.outer)(hfr:X.env.frame=some X.env.locals)(I:Inv X pins σ H s)(he:H e=some (ExO C e dx ar tb))(ht:∀b,tb=some b->H b=some (TbO b)/\b≠e)
  (hA:A.frames=some X.stack) (hq:∀b' s',H b'=none->b'≠e->Inv X pins σ (upd (upd H b' (TbO b')) e (ExO C e dx ar (some b'))) s'->Q () s'):wpAny (model X.prog X.w) A (leaving X.env (.ref e)) Q E s:=by
 unfold leaving;exact aa (pq hst hfr I he ht hA hq)
end
def CXo (P:Program)(w:World):CXT:=fun outer H s E e s'=>CE outer P w H s (fun v H'=>(∃a,v=.ref a)/\E e none H') e s'
def Fly (C e:Addr)(dx ar tb:Option Addr)(H:Hp):Prop:=H e=some (ExO C e dx ar tb)/\∀b,tb=some b->H b=some (TbO b)/\b≠e
def wm (H:Hp)(C e:Addr)(dx ar:Option Addr)(b:Addr):Hp:=upd (upd H b (TbO b)) e (ExO C e dx ar (some b))
def vg (X:Cx)(E:XK):Prop:=∀(pins:List (Addr×Obj)) (σ:St) (H:Hp) (s:Shared) (C e:Addr) (dx ar tb:Option Addr),Inv X pins σ H s->Fly C e dx ar tb H->(∀b,H b=none->b≠e->E (.ref e) none (wm H C e dx ar b))->X.xe (.ref e) s
theorem eW {N cd}{s₀:Shared}{H₀:Hp}{E} :
  vg (xU (CXo P w) P w K mg base N qual scope f cd A outer s₀ H₀ E) E:=fun pins σ H s C e dx ar tb I fl h=>by
 exact rJ (X:=xU (CXo P w) P w K mg base N qual scope f cd A outer s₀ H₀ E) rfl rfl I fl.1 fl.2 I.ok.frames fun b s' f1 f2 J=>⟨.ref e,_,J.os,J.bare,J.base,J.hok,rfl,⟨e,rfl⟩,h b f1 f2⟩
def xc (E:XK):XK:=fun v _ H=>Ex5 fun C e dx ar tb=>An3 (v=.ref e) (Fly C e dx ar tb H) (∀b,H b=none->b≠e->E (.ref e) none (wm H C e dx ar b))
theorem vg.pass {E}(o:vg X E):ei (CXo X.prog X.w) X (xc E):=fun pins σ H s e s' I h=>by
 obtain⟨v,H',I',rv,q⟩:=I.after h;obtain⟨⟨a,rfl⟩,C,e',dx,ar,tb,ee,fl,k⟩:=q;cases(show e=Value.ref a from rv);cases ee;exact o pins σ H' s' C _ dx ar tb I' fl k
structure ExR (K:Frag)(C:Addr):Prop where
 be:mroIn K C (.type "BaseException")=some true
 ty:typeIn K (.ref C)=some (.type "type")
section
variable {E:XK}{x:Expr}
def nW (K:Frag)(E:XK)(tx:TE):TS:=fun D σ H=>tx σ H fun v H1=>Ex4 fun C e dx ar=>An4 (v=.ref e) (ExR K C) (Fly C e dx ar none H1) (∀b,H1 b=none->b≠e->E (.ref e) none (wm H1 C e dx ar b))
theorem lV (o:vg X E)(hc:X.calm=true)(h:PE X x tx):PS X (.Raise (some x) none pos) (nW X.K E tx):=by
 intro pins s σ H D I q;rw[arm_exec_Raise];refine aa (wpAny_standAt ?_);unfold raiseStmt;refine aa (aa (thn (h pins s σ H _ I q) fun v s1 zz=>?_));obtain⟨y,H1,I1,ry,C,e,dx,ar,ey,r,fl,k⟩:=zz;refine aa (wpAny_standAt (ae ?_));subst ey;obtain rfl:v=Value.ref e:=ry;obtain⟨ob,vs,e1,e2,e3,e4,e5,e6,eT⟩:=ib I1 fl.1
 have J:PySem.W.Looks (model X.prog X.w) s1.heap (typeOf (.ref e)) (.ref C):=e2▸(PySem.W.Looks.ld e1).andThen .now
 have nt:∀{A:Around} {R:Bool->Shared->Prop} {E':Value->Shared->Prop},R false s1->wpAny (model X.prog X.w) A (isType (.ref e)) R E' s1:=fun {A R E'} hr=>by
  unfold isType loadHead;refine aa (wpAny_loadPart e1 ?_);rw[e4];exact ae hr
 have inst:PySem.W.Looks (model X.prog X.w) s1.heap (isInstance (.ref e) (.type "BaseException")) true:=J.andThen (looks_mroIn I1.kIn r.be);dsimp only;refine aa (ae (aa (bj ?_)));unfold excFromValue isExcClass;refine aa (aa (nt ?_));rw[ah aj];refine ae ?_;rw[ah aj];refine aa (inst.here ?_)
 rw[ak rfl];refine ae (aa (nt ?_));rw[ah aj];refine aa ?_;unfold raisedInstance;refine aa (J.here (aa ((looks_typeIn I1.kIn r.ty).here ?_)));rw[ak (by decide)];refine ae (aa ?_);unfold setFlight;refine aa (wpAny_field e1 e4 eT ?_);rw[ah (show ¬((tbV none != Value.none)=true) from by simp[tbV])]
 refine ae ?_;unfold raiseNew;refine aa (wpAny_handled ?_);rw[I1.ok.hd hc];have fin:=o pins σ H1 s1 C e dx ar none I1 fl k
 first
  | exact wpAny_throw fin
  | exact aa (ae (wpAny_throw fin))
end
def Cx.held (X:Cx)(e:Addr):Cx:={ X with A:=X.A.mark (some (.ref e)),calm:=false,xe:=fun _ _=>False }
def Cx.tried (X:Cx)(pins:List (Addr×Obj))(xe:Value->Shared->Prop):Cx:={ X with pn:=X.pn++pins,xe:=xe }
section
variable {e:Addr}
theorem Inv.held (I:Inv X pins σ H s)(e:Addr):Inv (X.held e) pins σ H s:=
 ⟨{ I.ok with hd:=fun z=>nomatch (show false=true from z) },I.os,I.bare,I.base,I.loc,I.cell,I.free,I.freeC,I.pin,I.hok,I.len⟩
theorem Inv.unheld (k:X.Ok)(I:Inv (X.held e) pins σ H s):Inv X pins σ H s:=⟨k,I.os,I.bare,I.base,I.loc,I.cell,I.free,I.freeC,I.pin,I.hok,I.len⟩
theorem Inv.tried (I:Inv X pins σ H s):Inv (X.tried pins xe) [] σ H s:=
 ⟨{ I.ok with },I.os,I.bare,I.base,I.loc,I.cell,I.free,I.freeC,fun p hp=>I.pin p (by have:p∈(X.pn++pins)++[]:=hp;rwa[cH] at this),I.hok,I.len⟩
theorem Inv.untried (I:Inv (X.tried pins xe) pins' σ H s):Inv X pins σ H s:=
 ⟨{ I.ok with },I.os,I.bare,I.base,I.loc,I.cell,I.free,I.freeC,fun p hp=>I.pin p (dE _ hp),I.hok,I.len⟩
theorem Inv.bare_frame {t':Nat}(I:Inv X pins σ H s)(hn:h'.Ns X.env.locals m')(hs:Heap.SameBut X.env.locals s.heap h'):Inv X pins (replicate X.N.length none) H { s with heap:=h',toks:=t' }:=by
 obtain⟨m,⟨oL,_,_,hoL,_⟩,_⟩:=id I.loc;have lt:∀{b:Addr} {o:Obj},X.s₀.heap.get? b=some o->b≠X.env.locals:=fun e=>av (aH (aS e) I.ok.above)
 refine⟨I.ok,I.os,I.bare,⟨fun b o e n hb hx=>(hs.2 b (lt e)).trans (I.base.keep b o e n hb hx),fun b o e n hb hx=>?_,I.base.free,fun b o e hx=>?_,I.base.tups,I.base.frzs,I.base.tbls⟩,⟨m',hn,fun j y v e1 e2 _=>?_⟩,fun y c q=>?_,I.free,I.freeC,fun p hp=>?_,fun b ob q=>?_,by simp⟩
 ·obtain⟨sl,e1⟩:=I.base.slot b o e n hb hx;exact⟨sl,(hs.2 b (lt e)).trans e1⟩
 ·obtain⟨o',e1⟩:=I.base.there b o e hx;exact⟨o',(hs.2 b (lt e)).trans e1⟩
 ·simp[List.getElem?_replicate] at e2
 ·obtain⟨v,o,ho,hd⟩:=I.cell y c q;exact⟨v,o,(hs.2 c (I.cne y c q)).trans ho,hd⟩
 ·obtain⟨p1,p2,p3,p4,p5⟩:=I.pin p hp;exact⟨(hs.2 _ p3).trans p1,p2,p3,p4,p5⟩
 ·refine(I.hok b ob q).stay (fun c w' hc z=>(hs.2 c ?_).trans z) (fun _ z=>z) fun _ _ z=>z;rintro rfl;rcases hc with rfl|hc
  ·rw[I.free] at q;cases q
  ·rw[I.free] at hc;cases hc
structure ExM (K:Frag)(D:Addr):Prop where
 be:mroIn K D (.type "BaseException")=some true
 ty:typeIn K (.ref D)=some (.type "type")
 cl:(clsIn K D).isSome=true
theorem iD {D dx tb b}{Q:Bool->Shared->Prop}(I:Inv X pins σ H s)(he:H e=some (ExO C e dx ar tb))(m:ExM X.K D)(hb:mroIn X.K C (.ref D)=some b)(q:Q b s) :
  wpAny (model X.prog X.w) A (excMatches (.ref e) (.ref D)) Q E s:=by
 obtain⟨ob,vs,e1,e2,e3,e4,e5,e6,eT⟩:=ib I he;have J:PySem.W.Looks (model X.prog X.w) s.heap (typeOf (.ref e)) (.ref C):=e2▸(PySem.W.Looks.ld e1).andThen .now;obtain⟨cd,hc⟩:=Option.isSome_iff_exists.mp m.cl
 have isT:∀{A:Around} {R:Bool->Shared->Prop} {E':Value->Shared->Prop},R true s->wpAny (model X.prog X.w) A (isType (.ref D)) R E' s:=fun {A R E'} hr=>by
  unfold clsIn at hc;split at hc
  ·rename_i c' d' cd' sl' ho
   unfold isType loadHead;exact aa (wpAny_loadPart (I.kIn _ _ ho) (ae hr))
  ·cases hc
 have nt:PySem.W.Looks (model X.prog X.w) s.heap (isInstance (.ref D) (.type "tuple")) false:=(looks_typeIn I.kIn m.ty).andThen (PySem.W.looks_subIn I.kIn (K:=X.K) (t:=.type "type") (base:=.type "tuple") (by rfl));unfold excMatches;refine aa (nt.here ?_);dsimp only;rw[ah aj];refine aa (ae ?_);refine aa ?_;rw[forIn_cons]
 refine aa (aa ?_);unfold isExcClass;refine aa (isT ?_);rw[ak rfl];refine(looks_mroIn I.kIn m.be).here ?_;rw[ah (by decide)];refine ae ?_;dsimp only;rw[List.forIn_nil];refine ae (aa (J.here (aa ?_)));rw[forIn_cons];refine aa (aa ((looks_mroIn I.kIn hb).here ?_));cases b with
 | true=>
  rw[ak rfl];exact ae (ae (ae q))
 | false=>
  rw[ah aj];refine ae ?_;dsimp only;rw[List.forIn_nil];exact ae (ae q)
abbrev TH:=Addr->Addr->Option Addr->Option Addr->Addr->Ends->St->Hp->Prop
def PHs (X:Cx)(hs:List ExceptHandler)(t:TH):Prop:=∀(pins:List (Addr×Obj)) (s:Shared) (σ:St) (H:Hp) (D:Ends) (C e:Addr) (dx ar:Option Addr) (b:Addr),Inv X pins σ H s->Fly C e dx ar (some b) H->t C e dx ar b D σ H->wpAny (model X.prog X.w) X.A (handleBy (.ref e) X.env hs) (SP X pins D) X.xe s
def yc:TH:=fun _ _ _ _ _ _ _ _=>False
theorem oN:PHs X [] yc:=fun _ _ _ _ _ _ _ _ _ _ _ _ z=>z.elim
def oy (D:Ends):Ends:={ nx:=fun _ _=>False,rt:=D.rt }
def zZ (K:Frag)(Dc:Addr)(i:Nat)(tb:TS)(rest:TH):TH:=fun C e dx ar b D σ H=>∃hit,mroIn K C (.ref Dc)=some hit/\if hit=true then tb (oy D) (σ.set i (some (.ref e))) H else rest C e dx ar b D σ H
def tX (K:Frag)(Dc:Addr)(tb:TS)(rest:TH):TH:=fun C e dx ar b D σ H=>∃hit,mroIn K C (.ref Dc)=some hit/\if hit=true then tb D σ H else rest C e dx ar b D σ H
theorem mz {dx}{Q:Unit->Shared->Prop}(I:Inv X pins σ H s)(f:Fly C e dx ar (some b) H)(q:∀s',Inv X pins σ H s'->Q () s'):wpAny (model X.prog X.w) A (setFlight (.ref e) none) Q E s:=by
 obtain⟨ob,vs,e1,e2,e3,e4,e5,e6,eT⟩:=ib I f.1;obtain⟨hb,nb⟩:=f.2 b rfl;obtain⟨oT,ts,b1,b2,b3⟩:=(show xW b s.heap from (I.hok b _ hb).1);have b4:=(Array.getElem?_eq_some_iff.mp b3).1;refine wpAny_setFlight_none e1 e4 eT b1 b2 b4 (q _ ?_);have d5:=data_mapFields b2 (·.setIfInBounds 3 Value.none);have q6:=bY (mapFields (·.setIfInBounds 3 Value.none)) b1 (isFreed_of_fields d5)
 have I1:=I.write (x:=b) (e:=b) (o:=TbO b) (t':=s.toks) (h':=s.heap.update b (mapFields (·.setIfInBounds 3 Value.none))) (by rw[hb];trivial) (.inl rfl) (fun c u hc q=>(get?_update_other _ _ hc.symm).trans q) ⟨_,q6⟩ (nV ⟨_,_,q6,d5,by simp[b4]⟩)
 have eH:upd H b (TbO b)=H:=by
  funext c
  by_cases hc:c=b
  ·rw[hc,ay,hb]
  ·rw[aE hc]
 rwa[eH] at I1
theorem sR {n rest}{tr:TH}(m:ExM X.K Dc)(hg:Gl X x)(hm:X.mg x=some (.ref Dc))(hN:X.N.Nodup)(hi:X.N[i]?=some n)(hl:X.env.scope.names.lookup n=some .local)(hk:X.env.kindOf n=some .local)
  (hb:∀e,PSs (X.held e) (b₀::suite) tb) (hr:PHs X rest tr) (hdb:(x==("__debug__" : Str))=false:=by decide):PHs X (.ExceptHandler (some (.Name x xp)) (some n) (b₀::suite) pos::rest) (zZ X.K Dc i tb tr):=by
 intro pins s σ H D C e dx ar b I f h;obtain⟨hit,hc,h⟩:=h;refine wpAny_handleBy_cons (codeAny_handlers_test (fA (X:=X.held e) (I.held e) hg hm ?_ hdb)) (by intro z;cases z);refine iD I f.1 m hc ?_;cases hit with
 | false=>
  rw[ah aj] at h ⊢;exact hr pins s σ H D C e dx ar b I f h
 | true=>
  rw[ak rfl] at h ⊢;refine codeAny_handlers_suite_as (mz I f fun s1 I1=>?_);refine fN I1 hN hi (.inl hl) (v:=.ref e) rfl (fun s2 I2=>?_) (.inr hl);refine bn (hb e pins s2 _ H (oy D) (I2.held e) h) (fun fl s3 q=>?_) fun _ _ z=>z.elim;have hp:(X.env.scope.kind==.class||(X.env.scope.kind==.module&&X.env.locals != X.env.globals))=false:=by rw[I.ok.kind];rfl
  cases fl with
  | ret u=>
   obtain⟨v,σ',H',I3,rv,q⟩:=q;obtain⟨m',hn,_⟩:=I3.loc;exact wpAny_nameGoes hk hn hp fun h4 m4 hn4 hs4=>⟨v,_,H',(I3.unheld I.ok).bare_frame hn4 hs4,rv,q⟩
  | next=>
   obtain⟨_,_,_,q⟩:=q;exact q.elim
  | brk=>
   obtain⟨_,_,_,q⟩:=q;exact q.elim
  | cont=>
   obtain⟨_,_,_,q⟩:=q;exact q.elim
theorem SP.unheld {D:Ends}{fl:Flow}(k:X.Ok)(q:SP (X.held e) pins D fl s):SP X pins D fl s:=by
 cases fl with
 | ret u=>
  obtain⟨v,σ',H',I3,rv,q⟩:=q;exact⟨v,σ',H',I3.unheld k,rv,q⟩
 | next=>
  obtain⟨σ',H',I3,q⟩:=q;exact⟨σ',H',I3.unheld k,q⟩
 | brk=>
  obtain⟨σ',H',I3,q⟩:=q;exact⟨σ',H',I3.unheld k,q⟩
 | cont=>
  obtain⟨σ',H',I3,q⟩:=q;exact⟨σ',H',I3.unheld k,q⟩
theorem SP.untried {D:Ends}{fl:Flow}(q:SP (X.tried pins xe) [] D fl s):SP X pins D fl s:=by
 cases fl with
 | ret u=>
  obtain⟨v,σ',H',I3,rv,q⟩:=q;exact⟨v,σ',H',I3.untried,rv,q⟩
 | next=>
  obtain⟨σ',H',I3,q⟩:=q;exact⟨σ',H',I3.untried,q⟩
 | brk=>
  obtain⟨σ',H',I3,q⟩:=q;exact⟨σ',H',I3.untried,q⟩
 | cont=>
  obtain⟨σ',H',I3,q⟩:=q;exact⟨σ',H',I3.untried,q⟩
theorem jG {rest}{tr:TH}(m:ExM X.K Dc)(hg:Gl X x)(hm:X.mg x=some (.ref Dc))
  (hb:∀e,PSs (X.held e) (b₀::suite) tb) (hr:PHs X rest tr) (hdb:(x==("__debug__" : Str))=false:=by decide):PHs X (.ExceptHandler (some (.Name x xp)) none (b₀::suite) pos::rest) (tX X.K Dc tb tr):=by
 intro pins s σ H D C e dx ar b I f h;obtain⟨hit,hc,h⟩:=h;refine wpAny_handleBy_cons (codeAny_handlers_test (fA (X:=X.held e) (I.held e) hg hm ?_ hdb)) (by intro z;cases z);refine iD I f.1 m hc ?_;cases hit with
 | false=>
  rw[ah aj] at h ⊢;exact hr pins s σ H D C e dx ar b I f h
 | true=>
  rw[ak rfl] at h ⊢;exact codeAny_handlers_suite (mz I f fun s1 I1=>bn (hb e pins s1 _ H D (I1.held e) h) (fun fl s3 q=>q.unheld I.ok) fun _ _ z=>z.elim)
def mI (n:Nat)(th:TH)(D:Ends):XK:=fun v _ H=>Ex5 fun C e dx ar tb=>An3 (v=.ref e) (Fly C e dx ar tb H) (∀σ:St,σ.length=n->∀b,H b=none->b≠e->th C e dx ar b D σ (wm H C e dx ar b))
def yf (n:Nat)(tb:XK->TS)(th:TH):TS:=fun D σ H=>tb (mI n th D) D σ H
theorem jh {dx}(h:b≠e):Fly C e dx ar (some b) (wm H C e dx ar b):=by
 refine⟨ay,fun b' z=>?_⟩;cases z;exact⟨by show upd _ _ _ _=_;rw[aE h,ay],h⟩
theorem sP {h₀ hs}{tb:XK->TS}{th:TH}(hst:X.stack=X.env::X.outer)(hfr:X.env.frame=some X.env.locals)
  (hb:∀(E:XK) (ps:List (Addr×Obj)) (xe:Value->Shared->Prop),ei (CXo X.prog X.w) (X.tried ps xe) E->PSs (X.tried ps xe) body (tb E)) (hh:PHs X (h₀::hs) th):PS X (.Try body (h₀::hs) [] [] pos) (yf X.N.length tb th):=by
 intro pins s σ H D I h;refine wpAny_Try_except ?_;have run:=hb (mI X.N.length th D) pins (fun v s'=>Ex2 fun σ' H'=>Inv X pins σ' H' s'/\mI X.N.length th D v none H') (fun pins' σ' H' s' v s'' I' q=>?_) [] s σ H D I.tried h
 ·refine bn run (fun fl s1 q=>?_) fun v s1 q=>?_
  ·have q':=q.untried;cases fl with
   | next=>exact ae q'
   | ret u=>exact q'
   | brk=>exact q'
   | cont=>exact q'
  ·obtain⟨σ',H',I',C,e,dx,ar,tb',rfl,fl,k⟩:=q;exact pq hst hfr I' fl.1 fl.2 I'.ok.frames fun b s2 f1 f2 J=>hh pins s2 σ' _ D C e dx ar b J (jh f2) (k σ' I'.len b f1 f2)
 ·obtain⟨u,H2,I2,rv,⟨a,ea⟩,q⟩:=I'.after q;exact⟨_,H2,I2.untried,q⟩
end
variable {tr:L2.TH}
section
end
def SqB (K:Frag)(tp:Bool)(H:Hp)(a:Addr)(xs:List V):Prop:=if tp then SqT K H a xs else SqL K H a xs
section
end
section
end
section
end
theorem d7:bootBuiltins "len" = some (.builtin "len"):=by decide +kernel
theorem mJ:bootBuiltins "max" = some (.builtin "max"):=by decide +kernel
theorem qA:bootBuiltins "min" = some (.builtin "min"):=by decide +kernel
theorem bA:bootBuiltins "isinstance" = some (.builtin "isinstance"):=by decide +kernel
theorem eR:bootBuiltins "list" = some (.type "list"):=by decide +kernel
theorem e_:bootBuiltins "tuple" = some (.type "tuple"):=by decide +kernel
theorem mK:bootBuiltins "int" = some (.type "int"):=by decide +kernel
theorem u8:bootBuiltins "bool" = some (.type "bool"):=by decide +kernel
theorem j5:bootBuiltins "enumerate" = some (.type "enumerate"):=by decide +kernel
structure Dn (K:Frag)(mg:Str->Option Value)(x qual:Str)(st:Stmt)(ps:List Str)(f:Addr)(fd:FuncData):Prop where
 fn:Fun K x qual st f fd
 b:eS K fd ps []
 m:mg x=some (.ref f)
theorem dn_mk (X:K.In h)(G:h.Ns mainGlobals mg){kV ct:Value}
  (a:nsIn K mainGlobals x=some (some (.ref f))) (l:K.lookup f=some ⟨oc,od,.func (fnOf x x (cf st) (bP st) (aO st) .none kV doc pm an cdv ct),osl⟩)
  (c:codeIn K cdv x=true) (k:keepIn K (.ref f)=true)
  (b:∀(kV doc pm:Value) (an:Option Addr) (cdv ct:Value) (us:List Value),us.length=ps.length->bindArgs (fnOf x x (cf st) (bP st) (aO st) .none kV doc pm an cdv ct) ⟨us,[]⟩=pure (ps.zip us)) :
  Ex2 fun f fd=>Dn K mg x x st ps f fd:=⟨f,_,gw (st:=st) l c k,(gw (st:=st) l c k).binds b,mg_of X G a⟩
def cL:Expr->Bool
 | .Starred _ _=>true
 | _=>false
theorem gK (h:cL e=false):starEach (e::es) env=(false,eval e env)::starEach es env:=by
 cases e with
 | Starred a b=>exact Bool.noConfusion h
 | _=>kernel_rfl
theorem va {t}(ha:PE X e te)(hr:PA X es t)(h:cL e=false:=by rfl):PA X (e::es) (cN te t):=kJ ha hr (gK h)
section
variable {t:TA}
theorem cJ (ha:PE X e te)(hs:cL e=false)(h:PA X es t):PA X (e::es) (cN te t):=va ha h hs
theorem ma (h:PA X es t):PA X (.Constant .none j p::es) (cN (tC .non) t):=cJ dY rfl h
theorem oU {b}(h:PA X es t):PA X (.Constant (.bool b) j p::es) (cN (tC (.bl b)) t):=cJ cO rfl h
theorem cX (h:PA X es t):PA X (.Constant (.str x) j p::es) (cN (tC (.str x)) t):=cJ bv rfl h
theorem dZ {i:Int}(h:PA X es t):PA X (.Constant (.int i) j p::es) (cN (tC (.int i)) t):=cJ ai rfl h
theorem oS {t'}(h':PA X es' t')(h:PA X es t):PA X (.List es' p::es) (cN (yg t') t):=cJ (bD h') rfl h
theorem gR {t'}{k:Nat}(h':PA X es' t')(h:PA X es t):PA X (.Tuple es' k p::es) (cN (ye t') t):=cJ (bR h') rfl h
theorem kI (h:PA X es t):PA X (.Dict [] [] p::es) (cN nZ t):=cJ lY rfl h
end
def xD (fs:Scope)(scope:Scope)(N xs Nf:List Str)(js:List Nat):Bool:=
 (scope.kind==.function)&&scope.names.all (fun y=>y.2 != .cell)&&scope.names.all (fun y=>y.2 != .local||scope.names.lookup y.1==some .local)&&xs.all (fun x=>scope.names.lookup x==some .local) &&
  decide (xs++Nf).Nodup&&scope.names.all (fun y=>y.2 != .free||fs.names.lookup y.1==some .cell)&&(Nf.length==js.length) &&
  (Nf.zip js).all (fun p=>N[p.2]?==some p.1&&scope.names.lookup p.1==some .free&&fs.names.lookup p.1==some .cell)
theorem eh {xs}(Nf:List Str)(js:List Nat)(h:xD X.env.scope scope X.N xs Nf js=true:=by kernel_rfl):BlkG X scope xs Nf js:=by
 unfold xD at h;simp only[and_eq_true,beq_iff_eq,decide_eq_true_eq] at h;obtain⟨⟨⟨⟨⟨⟨⟨h1,h2⟩,h3⟩,h4⟩,h5⟩,h6⟩,h7⟩,h8⟩:=h;refine⟨h1,fun y hy=>?_,fun y hy hl=>?_,fun x hx=>beq_iff_eq.mp (all_eq_true.mp h4 x hx),h5,fun y hy hf=>?_,h7,fun i z hz=>?_⟩
 ·have:=all_eq_true.mp h2 y hy;simpa using this
 ·have:=all_eq_true.mp h3 y hy;rw[hl] at this;simpa using this
 ·have:=all_eq_true.mp h6 y hy;rw[hf] at this;show X.env.scope.names.lookup y.1=some .cell;simpa using this
 ·have hi:i<js.length:=by rw[<- h7];exact(aA.mp hz).1
  have hm:(z,js[i])∈Nf.zip js:=by
   have e:(Nf.zip js)[i]?=some (z,js[i]):=by
    rw[List.getElem?_zip_eq_some];exact⟨hz,by simp[hi]⟩
   exact bV e
  have q:=all_eq_true.mp h8 _ hm;rw[and_eq_true,and_eq_true,beq_iff_eq,beq_iff_eq,beq_iff_eq] at q;exact⟨js[i],by simp[hi],q.1.1,q.1.2,q.2⟩
def ItB (K:Frag)(tp:Bool)(a:Addr):It:=if tp then Itt K a else Itl K a
def Aq (K:Frag)(tp:Bool)(tl:TE):TI:=fun σ H R=>tl σ H fun x H1=>∃a,An3 (x=.ref a) (∃xs,SqB K tp H1 a xs) (R (ItB K tp a) H1)
theorem lW {l}(tp:Bool)(hl:PE X l tl):PI X tg l (Aq X.K tp tl):=by
 cases tp with
 | true=>exact wc hl
 | false=>exact cZ hl
def KB (p:Addr)(H H':Hp):Prop:=∀b o,H b=some o->b≠p->H' b=some o
theorem KB.refl {p}:KB p H H:=fun _ _ h _=>h
theorem KB.trans {p}(a:KB p H H1)(b:KB p H1 H2):KB p H H2:=fun c o h n=>b c o (a c o h n) n
theorem aZ.kb {p}(a:aZ H H'):KB p H H':=fun b o h _=>a b o h
theorem aZ.upd {p}(h:H p=none):aZ H (upd H p o):=fun b u q=>by rw[aE (ao q h)];exact q
theorem KB.updP {p}(k:KB p H H1):KB p H (upd H1 p o):=fun b u z n=>by rw[aE n];exact k b u z n
def kD:Key->PyData
 | .inl i=>.int i
 | .inr x=>.str x
mutual
inductive DV (N:Addr->Prop)(H:Hp):V->PyData->Prop
 | non:DV N H .non .none
 | bl (b:Bool):DV N H (.bl b) (.bool b)
 | int (i:Int):DV N H (.int i) (.int i)
 | str (x:Str):DV N H (.str x) (.str x)
 | lst {a:Addr} {xs:List V} {ds:List PyData}:¬N a->H a=some (.lst xs)->DVs N H xs ds->DV N H (.ref a) (.list ds)
 | tup {a:Addr} {xs:List V} {ds:List PyData}:¬N a->H a=some (.tup xs)->DVs N H xs ds->DV N H (.ref a) (.tuple ds)
 | dct {a:Addr} {kvs:List (Key×V)} {ds:List (PyData×PyData)}:¬N a->H a=some (.dK kvs)->DKs N H kvs ds->DV N H (.ref a) (.dict ds)
inductive DVs (N:Addr->Prop)(H:Hp):List V->List PyData->Prop
 | nil:DVs N H [] []
 | cons {v:V} {d:PyData} {vs:List V} {ds:List PyData}:DV N H v d->DVs N H vs ds->DVs N H (v::vs) (d::ds)
inductive DKs (N:Addr->Prop)(H:Hp):List (Key×V)->List (PyData×PyData)->Prop
 | nil:DKs N H [] []
 | cons {k:Key} {v:V} {d:PyData} {vs:List (Key×V)} {ds:List (PyData×PyData)}:DV N H v d->DKs N H vs ds->DKs N H ((k,v)::vs) ((kD k,d)::ds)
end
mutual
theorem DV.keep {N N':Addr->Prop}{H H':Hp}(k:∀a o,¬N a->H a=some o->H' a=some o)(n:∀a,N' a->N a):∀{v:V} {d:PyData},DV N H v d->DV N' H' v d
 | _,_,.non=>.non
 | _,_,.bl b=>.bl b
 | _,_,.int i=>.int i
 | _,_,.str x=>.str x
 | _,_,.lst na e r=>.lst (fun z=>na (n _ z)) (k _ _ na e) (DVs.keep k n r)
 | _,_,.tup na e r=>.tup (fun z=>na (n _ z)) (k _ _ na e) (DVs.keep k n r)
 | _,_,.dct na e r=>.dct (fun z=>na (n _ z)) (k _ _ na e) (DKs.keep k n r)
theorem DVs.keep {N N':Addr->Prop}{H H':Hp}(k:∀a o,¬N a->H a=some o->H' a=some o)(n:∀a,N' a->N a):∀{vs:List V} {ds:List PyData},DVs N H vs ds->DVs N' H' vs ds
 | _,_,.nil=>.nil
 | _,_,.cons r t=>.cons (DV.keep k n r) (DVs.keep k n t)
theorem DKs.keep {N N':Addr->Prop}{H H':Hp}(k:∀a o,¬N a->H a=some o->H' a=some o)(n:∀a,N' a->N a):∀{vs:List (Key×V)} {ds:List (PyData×PyData)},DKs N H vs ds->DKs N' H' vs ds
 | _,_,.nil=>.nil
 | _,_,.cons r t=>.cons (DV.keep k n r) (DKs.keep k n t)
end
mutual
theorem DV.one {N N':Addr->Prop}{H:Hp}:∀{v:V} {d d':PyData},DV N H v d->DV N' H v d'->d=d'
 | _,_,_,.non,h=>by cases h;rfl
 | _,_,_,.bl _,h=>by cases h;rfl
 | _,_,_,.int _,h=>by cases h;rfl
 | _,_,_,.str _,h=>by cases h;rfl
 | _,_,_,.lst _ e r,h=>by
  cases h with
  | lst _ e' r'=>rw[e] at e';cases e';rw[DVs.one r r']
  | tup _ e' _=>rw[e] at e';cases e'
  | dct _ e' _=>rw[e] at e';cases e'
 | _,_,_,.tup _ e r,h=>by
  cases h with
  | tup _ e' r'=>rw[e] at e';cases e';rw[DVs.one r r']
  | lst _ e' _=>rw[e] at e';cases e'
  | dct _ e' _=>rw[e] at e';cases e'
 | _,_,_,.dct _ e r,h=>by
  cases h with
  | dct _ e' r'=>rw[e] at e';cases e';rw[DKs.one r r']
  | lst _ e' _=>rw[e] at e';cases e'
  | tup _ e' _=>rw[e] at e';cases e'
theorem DVs.one {N N':Addr->Prop}{H:Hp}:∀{vs:List V} {ds ds':List PyData},DVs N H vs ds->DVs N' H vs ds'->ds=ds'
 | _,_,_,.nil,h=>by cases h;rfl
 | _,_,_,.cons r t,h=>by
  cases h with
  | cons r' t'=>rw[DV.one r r',DVs.one t t']
theorem DKs.one {N N':Addr->Prop}{H:Hp}:∀{vs:List (Key×V)} {ds ds':List (PyData×PyData)},DKs N H vs ds->DKs N' H vs ds'->ds=ds'
 | _,_,_,.nil,h=>by cases h;rfl
 | _,_,_,.cons r t,h=>by
  cases h with
  | cons r' t'=>rw[DV.one r r',DKs.one t t']
end
mutual
theorem DV.avoid {N N':Addr->Prop}{H:Hp}{a:Addr}{D:PyData}(x:DV N' H (.ref a) D):∀{v:V} {d:PyData},DV N H v d->d.depth<D.depth->DV (fun b=>N b\/b=a) H v d
 | _,_,.non,_=>.non
 | _,_,.bl b,_=>.bl b
 | _,_,.int i,_=>.int i
 | _,_,.str y,_=>.str y
 | _,_,.lst na e r,h=>.lst (fun z=>z.elim na fun q=>by subst q;rw[DV.one x (DV.lst na e r)] at h;exact Nat.lt_irrefl _ h) e (DVs.avoid x r (by simp only[PyData.depth] at h;lia))
 | _,_,.tup na e r,h=>.tup (fun z=>z.elim na fun q=>by subst q;rw[DV.one x (DV.tup na e r)] at h;exact Nat.lt_irrefl _ h) e (DVs.avoid x r (by simp only[PyData.depth] at h;lia))
 | _,_,.dct na e r,h=>.dct (fun z=>z.elim na fun q=>by subst q;rw[DV.one x (DV.dct na e r)] at h;exact Nat.lt_irrefl _ h) e (DKs.avoid x r (by simp only[PyData.depth] at h;omega))
theorem DVs.avoid {N N':Addr->Prop}{H:Hp}{a:Addr}{D:PyData}(x:DV N' H (.ref a) D):∀{vs:List V} {ds:List PyData},DVs N H vs ds->PyData.depthAll ds<D.depth->DVs (fun b=>N b\/b=a) H vs ds
 | _,_,.nil,_=>.nil
 | _,_,.cons r t,h=>.cons (DV.avoid x r (by simp only[PyData.depthAll] at h;lia)) (DVs.avoid x t (by simp only[PyData.depthAll] at h;lia))
theorem DKs.avoid {N N':Addr->Prop}{H:Hp}{a:Addr}{D:PyData}(x:DV N' H (.ref a) D):∀{vs:List (Key×V)} {ds:List (PyData×PyData)},DKs N H vs ds->PyData.depthKv ds<D.depth->DKs (fun b=>N b\/b=a) H vs ds
 | _,_,.nil,_=>.nil
 | _,_,.cons r t,h=>.cons (DV.avoid x r (by simp only[PyData.depthKv] at h;omega)) (DKs.avoid x t (by simp only[PyData.depthKv] at h;omega))
end
def tyD:PyData->Value
 | .none=>.type "NoneType"|.bool _=>.type "bool"|.int _=>.type "int"|.str _=>.type "str"|.list _=>.type "list"|.tuple _=>.type "tuple"|.dict _=>.type "dict"
theorem DV.thg {d}(x:DV N H v d):Thg K H v (tyD d):=by
 cases x with
 | non=>exact .non
 | bl b=>exact .bl b
 | int i=>exact .int i
 | str x=>exact .str x
 | lst _ e _=>exact .lst e
 | tup _ e _=>exact .tup e
 | dct _ e _=>exact .dK e
theorem DVs.length {N:Addr->Prop}{H:Hp}:∀{vs:List V} {ds:List PyData},DVs N H vs ds->vs.length=ds.length
 | _,_,.nil=>rfl
 | _,_,.cons _ t=>by rw[aR,aR,DVs.length t]
theorem DVs.append:∀{vs us:List V} {ds es:List PyData},DVs N H vs ds->DVs N H us es->DVs N H (vs++us) (ds++es)
 | _,_,_,_,.nil,q=>q
 | _,_,_,_,.cons r t,q=>.cons r (t.append q)
theorem gx {prog:Program}{w:World}{h₀:Heap}{as as':List Addr}{d d':Nat}(hsub:∀b∈as,b∈as')(hd:d<=d'):∀{l:List DictEntry} {ts:List Str},ReprEntriesK prog w as h₀ d l ts->ReprEntriesK prog w as' h₀ d' l ts
 | _,_,.nil=>.nil
 | _,_,.cons a b t=>.cons ((a.more hsub).level_le hd) ((b.more hsub).level_le hd) (gx hsub hd t)
section
def Low (N:Addr->Prop)(H:Hp)(n:Nat)(bs:List Addr):Prop:=∀b∈bs,∃d,DV N H (.ref b) d/\d.depth<=n
theorem Low.mono {m:Nat}{bs}(h:Low N H n bs)(k:n<=m):Low N H m bs:=fun b hb=>let⟨d,r,q⟩:=h b hb;⟨d,r,Nat.le_trans q k⟩
theorem Low.append {bs cs}(h:Low N H n bs)(k:Low N H n cs):Low N H n (bs++cs):=fun b hb=>(ba.mp hb).elim (h b) (k b)
theorem Low.cons {d:PyData}{bs}(r:DV N H (.ref a) d)(k:n<=d.depth)(h:Low N H n bs):Low N H d.depth (a::bs):=fun b hb=>by
 rcases aV.mp hb with rfl|hb
 ·exact⟨d,r,aD _⟩
 ·exact h.mono k b hb
theorem Low.out {d:PyData}{bs}(r:DV N H (.ref a) d)(k:n<d.depth)(h:Low N H n bs):a∉bs:=fun hb=>by
 obtain⟨d',r',q⟩:=h a hb;rw[DV.one r' r] at q
 lia
mutual
theorem DV.shows (I:Inv X pins σ H s):∀{v:V} {d:PyData} {u:Value},DV N H v d->cb v u->d.showable=true->d.shown.length<=sizeLine->∃bs,Low N H d.depth bs/\ReprK X.prog X.w bs s.heap d.depth u d.shown
 | _,_,u,.non,r,_,_=>by cases(show u=Value.none from r);exact⟨[],nofun,by simp only[PyData.shown];exact .of_is ReprIs.none _ _ _⟩
 | _,_,u,.bl b,r,_,_=>by cases(show u=Value.bool b from r);exact⟨[],nofun,by simp only[PyData.shown];exact .of_is (ReprIs.bool b) _ _ _⟩
 | _,_,u,.int i,r,hs,_=>by obtain⟨t,rfl⟩:=(show ∃t,u=Value.int i t from r);exact⟨[],nofun,by simp only[PyData.shown];exact .of_is (ReprIs.int t (by simpa[PyData.showable] using hs)) _ _ _⟩
 | _,_,u,.str x,r,_,hz=>by obtain⟨t,rfl⟩:=(show ∃t,u=Value.str x t from r);exact⟨[],nofun,by simp only[PyData.shown];exact .of_is (ReprIs.str x t (by simpa only [PyData.shown] using hz)) _ _ _⟩
 | _,_,u,.lst (a:=a) (xs:=xs) (ds:=ds) na e q,r,hs,hz=>by
  cases(show u=Value.ref a from r);obtain⟨_,its,n,rv,g⟩:=(show bI X.prog X.w H s.heap a (.lst xs) from I.hok a _ e);have hz':(listText (PyData.shownAll ds)).length<=sizeLine:=by simpa only [PyData.shown] using hz
  obtain⟨bs,hb,hk⟩:=DVs.shows I q rv (by simpa[PyData.showable] using hs) (fun t ht=>Nat.le_trans (listText_mem_le ht) hz');have R:DV N H (.ref a) (.list ds):=.lst na e q;have hna:=Low.out R (by simp only[PyData.depth];lia) hb;refine⟨a::bs,Low.cons R (by simp only[PyData.depth];lia) hb,?_⟩;simp only[PyData.depth,PyData.shown];cases rv with
  | nil=>
   cases q;simp only[PyData.shownAll,listText_nil];exact ReprK.listEmpty g rfl rfl
  | cons r1 r2=>exact ReprK.list g rfl rfl hna (by simpa using hk.length_eq) (fun i y e=>hk.item i y (by simpa using e))
 | _,_,u,.tup (a:=a) (xs:=xs) (ds:=ds) na e q,r,hs,hz=>by
  cases(show u=Value.ref a from r);obtain⟨_,its,rv,⟨o,h1,h2,n,h3⟩,_⟩:=(show bI X.prog X.w H s.heap a (.tup xs) from I.hok a _ e);have hz':(tupleText (PyData.shownAll ds)).length<=sizeLine:=by simpa only [PyData.shown] using hz
  obtain⟨bs,hb,hk⟩:=DVs.shows I q rv (by simpa[PyData.showable] using hs) (fun t ht=>Nat.le_trans (tupleText_mem_le ht) hz');have R:DV N H (.ref a) (.tuple ds):=.tup na e q;have hna:=Low.out R (by simp only[PyData.depth];lia) hb;refine⟨a::bs,Low.cons R (by simp only[PyData.depth];lia) hb,?_⟩;simp only[PyData.depth,PyData.shown];exact ReprK.tuple h1 h2 h3 hna (by simpa using hk)
 | _,_,u,.dct (a:=a) (kvs:=kvs) (ds:=ds) na e q,r,hs,hz=>by
  cases(show u=Value.ref a from r);obtain⟨_,hsys,vs,kv,o,es,ep,h1,h2,h3,h4,h5,h6⟩:=(show bI X.prog X.w H s.heap a (.dK kvs) from I.hok a _ e);have hz':(dictText (PyData.shownKv ds)).length<=sizeLine:=by simpa only [PyData.shown] using hz
  obtain⟨bs,hb,hk⟩:=DKs.shows I q kv h5 (by simpa[PyData.showable] using hs) (fun t ht=>Nat.le_trans (dictText_mem_le ht) hz');have R:DV N H (.ref a) (.dict ds):=.dct na e q;have hna:a∉bs:=Low.out R (by simp only[PyData.depth];omega) hb;refine⟨a::bs,Low.cons R (by simp only[PyData.depth];omega) hb,?_⟩;simp only[PyData.depth,PyData.shown];exact ReprK.dict h1 h2.1 h3 hsys hna hk
theorem DVs.shows (I:Inv X pins σ H s):∀{vs:List V} {ds:List PyData} {us:List Value},DVs N H vs ds->b_ vs us->PyData.showableAll ds=true->(∀t∈PyData.shownAll ds,t.length<=sizeLine) ->
  ∃bs,Low N H (PyData.depthAll ds) bs/\ReprAllK X.prog X.w bs s.heap (PyData.depthAll ds) us (PyData.shownAll ds)
 | _,_,_,.nil,.nil,_,_=>⟨[],nofun,by simp only[PyData.shownAll];exact .nil⟩
 | _,_,_,.cons (d:=d) (ds:=ds) r t,.cons r1 r2,hs,hz=>by
  obtain⟨sd,sds⟩:d.showable=true/\PyData.showableAll ds=true:=by rwa[PyData.showableAll,and_eq_true] at hs
  obtain⟨b1,hb1,k1⟩:=DV.shows I r r1 sd (hz _ (by simp only[PyData.shownAll];exact bt ..));obtain⟨b2,hb2,k2⟩:=DVs.shows I t r2 sds (fun t ht=>hz t (by simp only[PyData.shownAll];exact aX _ ht));refine⟨b1++b2,(hb1.mono (by simp only[PyData.depthAll];exact Nat.le_max_left _ _)).append (hb2.mono (by simp only[PyData.depthAll];exact Nat.le_max_right _ _)),?_⟩
  simp only[PyData.depthAll,PyData.shownAll];have m1:=(k1.more fun b hb=>dE b2 hb).level_le (Nat.le_max_left d.depth (PyData.depthAll ds));have m2:=k2.more_le (fun b hb=>bh b1 hb) (Nat.le_max_right d.depth (PyData.depthAll ds));exact .cons m1 m2
theorem DKs.shows (I:Inv X pins σ H s):∀{vs:List (Key×V)} {ds:List (PyData×PyData)} {us:List (Key×Value)} {es:List DictEntry},DKs N H vs ds->KV vs us->Pairs (bK X.prog X.w) es us->PyData.showableKv ds=true ->
  (∀t∈PyData.shownKv ds,t.length<=sizeLine)->∃bs,Low N H (PyData.depthKv ds) bs/\ReprEntriesK X.prog X.w bs s.heap (PyData.depthKv ds) es (PyData.shownKv ds)
 | _,_,_,_,.nil,.nil,.nil,_,_=>⟨[],(fun _ h=>nomatch h),by simp only[PyData.shownKv];exact .nil⟩
 | _,_,_,[],.cons _ _,.cons _ _,w,_,_=>nomatch w
 | _,_,kv::_,e::_,.cons (k:=k) (d:=d) (ds:=ds) r t,.cons q1 q2,w,hs,hz=>by
  cases w with
  | cons w1 w2 w3=>
  have hs':((kD k).showable=true/\d.showable=true)/\PyData.showableKv ds=true:=by simpa[PyData.showableKv] using hs
  have hz1:((kD k).shown ++ ": " ++ d.shown).length<=sizeLine:=hz _ (by simp only[PyData.shownKv];exact bt ..);rw[strLen_append,strLen_append] at hz1;obtain⟨z1,z2⟩:=q1;obtain⟨b1,hb1,k1⟩:=DV.shows I r z2 hs'.1.2 (by omega);obtain⟨b2,hb2,k2⟩:=DKs.shows I t q2 w3 hs'.2 (fun t ht=>hz t (by simp only[PyData.shownKv];exact aX _ ht))
  have hk:∀n,ReprK X.prog X.w (b1++b2) s.heap n e.key (kD k).shown:=fun n=>by
   have z1':k=kv.1:=z1;rcases bS (show jc kv.1 e.key=true from w1) with⟨i,tk,z,w4⟩|⟨x,tk,z,w4⟩
   ·rw[w4,z1',z];have hsi:=hs'.1.1;rw[z1',z] at hsi;simp only[kD,PyData.shown];exact .of_is (ReprIs.int tk (by simpa[kD,PyData.showable] using hsi)) _ _ _
   ·rw[w4,z1',z];have hzi:(kD k).shown.length<=sizeLine:=by omega
    rw[z1',z] at hzi;simp only[kD,PyData.shown] at hzi ⊢;exact .of_is (ReprIs.str x tk hzi) _ _ _
  refine⟨b1++b2,(hb1.mono (by simp only[PyData.depthKv];omega)).append (hb2.mono (by simp only[PyData.depthKv];omega)),?_⟩;simp only[PyData.depthKv,PyData.shownKv];exact .cons (hk _) (by rw[w2];exact(k1.more fun b hb=>dE _ hb).level_le (by omega)) (gx (fun b hb=>bh _ hb) (by omega) k2)
end
structure Okd (n:Nat)(d:PyData):Prop where
 sh:d.showable=true
 lv:d.leavesShort 40=true
 dp:d.depth<=20
 wt:d.weight<=n
theorem Okd.len {d:PyData}(h:Okd n d)(hn:n<=100000):d.shown.length<=sizeLine:=by
 have:=PyData.shown_le 40 (by decide) d h.lv;have e:(40+2) * d.weight<=42 * 100000:=Nat.mul_le_mul (by lia) (Nat.le_trans h.wt hn);have:sizeLine=16777216:=by decide
 lia
theorem cp (hg:X.A.guards=some [])(hu:X.A.units+64<cLine):fe X (.builtin "repr") (fun xs H Q=>Ex3 fun(v:V) (N:Addr->Prop) (d:PyData)=>An4 (xs=[v]) (DV N H v d) (Okd 100000 d) (Q (.str d.shown) H)):=by
 intro pins s σ H xs us Q I r h;obtain⟨v,N,d,rfl,x,ok,q⟩:=h;obtain⟨u,rfl,rx⟩:=fK r;have hz:=ok.len (by lia);have hs:=ok.sh;have hd:=ok.dp;cases x with
 | non=>cases(show u=Value.none from rx);exact P.repr_of_none ⟨.str PyData.none.shown,H,I.tok _,⟨_,by simp only[PyData.shown];rfl⟩,q⟩
 | bl b=>cases(show u=Value.bool b from rx);exact P.repr_of_bool ⟨.str (PyData.bool b).shown,H,I.tok _,⟨_,by simp only[PyData.shown];rfl⟩,q⟩
 | int i=>
  obtain⟨t,rfl⟩:=(show ∃t,u=Value.int i t from rx);exact P.repr_of_int (by simpa[PyData.showable] using hs) ⟨.str (PyData.int i).shown,H,I.tok _,⟨_,by simp only[PyData.shown];rfl⟩,q⟩
 | str y=>
  obtain⟨t,rfl⟩:=(show ∃t,u=Value.str y t from rx);exact P.repr_of_str ⟨.str (PyData.str y).shown,H,I.tok _,⟨_,by simp only[PyData.shown];rfl⟩,q⟩ (by simpa only [PyData.shown] using hz)
 | @lst a xs ds na e p=>
  cases(show u=Value.ref a from rx);obtain⟨_,its,n,rv,g⟩:=(show bI X.prog X.w H s.heap a (.lst xs) from I.hok a _ e);have hz':(listText (PyData.shownAll ds)).length<=sizeLine:=by simpa only [PyData.shown] using hz
  obtain⟨bs,hb,hk⟩:=DVs.shows I p rv (by simpa[PyData.showable] using hs) (fun t ht=>Nat.le_trans (listText_mem_le ht) hz');have hna:=Low.out (DV.lst na e p) (by simp only[PyData.depth];lia) hb;simp only[PyData.depth] at hd;cases rv with
  | nil=>
   cases p;exact call_repr_slot (by lia) ⟨_,g,rfl⟩ PySem.F.slot_list_repr.toG (call_list_repr_empty ⟨_,g,rfl⟩ g rfl ⟨_,_,rfl,.str (PyData.list []).shown,H,I.kept (fun _ _ e=>e),⟨_,by simp only[PyData.shown,PyData.shownAll,listText_nil];rfl⟩,q⟩)
  | cons r1 r2=>
   exact call_repr_slot (by lia) ⟨_,g,rfl⟩ PySem.F.slot_list_repr.toG (call_list_reprK (g:=[]) g rfl rfl hna (by simpa using hk.length_eq) (fun i y z=>hk.item i y (by simpa using z)) hg (fun b _=>Clear.nil b) (by show X.A.units+1+(_+1)<cLine;lia) (fun _ _ e=>e) (fun h' u tk hkk=>⟨_,_,rfl,⟨.str (PyData.list ds).shown,H,I.kept hkk,⟨_,by simp only[PyData.shown];rfl⟩,q⟩⟩) hz')
 | @tup a xs ds na e p=>
  cases(show u=Value.ref a from rx);obtain⟨_,its,rv,⟨o,h1,h2,n,h3⟩,_⟩:=(show bI X.prog X.w H s.heap a (.tup xs) from I.hok a _ e);have hz':(tupleText (PyData.shownAll ds)).length<=sizeLine:=by simpa only [PyData.shown] using hz
  obtain⟨bs,hb,hk⟩:=DVs.shows I p rv (by simpa[PyData.showable] using hs) (fun t ht=>Nat.le_trans (tupleText_mem_le ht) hz');have hna:=Low.out (DV.tup na e p) (by simp only[PyData.depth];lia) hb;simp only[PyData.depth] at hd
  exact call_repr_slot (by lia) ⟨_,h1,h2⟩ PySem.F.slot_tuple_repr (call_tuple_reprK (g:=[]) h1 h2 h3 hna (by simpa using hk) hg (fun b _=>Clear.nil b) (by show X.A.units+1+(_+1)<cLine;lia) (fun _ _ e=>e) (fun h' u tk hkk=>⟨_,_,rfl,⟨.str (PyData.tuple ds).shown,H,I.kept hkk,⟨_,by simp only[PyData.shown];rfl⟩,q⟩⟩) hz')
 | @dct a kvs ds na e p=>
  cases(show u=Value.ref a from rx);obtain⟨_,hsys,vs,kv,o,es,ep,h1,h2,h3,h4,h5,h6⟩:=(show bI X.prog X.w H s.heap a (.dK kvs) from I.hok a _ e);have hz':(dictText (PyData.shownKv ds)).length<=sizeLine:=by simpa only [PyData.shown] using hz
  obtain⟨bs,hb,hk⟩:=DKs.shows I p kv h5 (by simpa[PyData.showable] using hs) (fun t ht=>Nat.le_trans (dictText_mem_le ht) hz');have hna:a∉bs:=Low.out (DV.dct na e p) (by simp only[PyData.depth];omega) hb;simp only[PyData.depth] at hd
  refine call_repr_slot (by omega) ⟨_,h1,h2.1⟩ PySem.F.slot_dict_repr (call_dict_reprK (g:=[]) h1 h2.1 h3 hsys hna hk hg (fun b _=>Clear.nil b) (by show X.A.units+1+(_+1)<cLine;omega) (fun _ _ e=>e) (fun h' u tk hkk=>⟨_,_,rfl,?_⟩) hz');exact⟨.str (PyData.dict ds).shown,H,I.kept hkk,⟨_,by simp only[PyData.shown];rfl⟩,q⟩
end
theorem dR:bootBuiltins "repr" = some (.builtin "repr"):=by decide +kernel
theorem j6:bootBuiltins "all" = some (.builtin "all"):=by decide +kernel
section
theorem eP (hh:X.A.handled=none):fe X (.builtin "all") (fun xs H Q=>Ex2 fun(a:Addr) (bs:List Bool)=>An3 (xs=[.ref a]) (H a=some (.lst (bs.map V.bl))) (Q (.bl (bs.all id)) H)):=by
 intro pins s σ H xs us Q I r h;obtain⟨a,bs,rfl,hl,q⟩:=h;obtain⟨u,rfl,rx⟩:=fK r;cases rx;obtain⟨hz,its,n,rv,g⟩:=(show bI X.prog X.w H s.heap a (.lst (bs.map V.bl)) from I.hok a _ hl);have isl:s.heap.IsList a its.toArray:=⟨_,g,rfl,n,rfl⟩;refine call_all_walk (wpAny_pyIter_list isl ?_)
 have at_:∀(i:Nat) (v:Value),its.toArray[i]?=some v->v=.bool (bs.getD i false):=fun i v e=>by
  have e':its[i]?=some v:=by simpa using e
  obtain⟨j1,j2⟩:=aA.mp e';have hi:i<bs.length:=by have:=rv.length;rw[au] at this;lia
  obtain⟨u,u1,u2⟩:=rv.get (i:=i) (x:=.bl bs[i]) (by simp[hi]);rw[e'] at u1;cases u1;rw[show v=Value.bool bs[i] from u2];simp[hi]
 refine⟨_,_,_,_,_,_,fun i=>bs.getD i false,rfl,Walks.list (by simp[hh]) _ a (av (aS g)) its.toArray,⟨⟨_,aI _ rfl,rfl,rfl⟩,isl.push _⟩,?_,fun h' tk k=>?_⟩
 ·intro i v s' R E' e hr;rw[at_ i v e];exact ae hr
 ·have kk:∀b o,s.heap.get? b=some o->h'.get? b=some o:=fun b o e=>k b o (by
   intro z;rw[a_.mp z] at e
   exact aY (aS e) (Nat.lt_irrefl _)) (af _ e)
  refine⟨.bl (bs.all id),H,I.kept kk,?_,q⟩;congr 1;have e1:its.toArray.size=bs.length:=by have:=rv.length;rw[au] at this;simp[<- this]
  rw[e1];rw[Bool.eq_iff_iff,all_eq_true,all_eq_true];constructor
  ·intro f b hb;obtain⟨i,hi,e⟩:=getElem_of_mem hb;have:=f i (mem_range.mpr hi);simpa[hi,e] using this
  ·intro f i hi;have hi':=mem_range.mp hi;have:=f bs[i] (getElem_mem hi');simpa[hi'] using this
end
section
end
section
end
end L2
variable {tr:L2.TH}
namespace L2
open PySem PyProof PyProof.Rows
theorem lA:typeLookup (.type "dict") "__len__" = pure (some (.builtin "dict.__len__")):=by rw[typeLookup_type,builtinLookup_eq_fast];kernel_rfl
section
variable {KK:Type}[DecidableEq KK]{knd:KeyKind prog w KK}
theorem xb {id}{args:Args}{b:Builtin}(ent:entryFor table id=some b)(pl:plainId id=true)(k:wpAny (model prog w) A.in1 (b args) (fun fin t=>match fin with|.done f=>R (.ok f) t|.again c=>c.quiet=true/\codeAny (model prog w) A c R t) (fun e t=>R (.error e) t) s):codeAny (model prog w) A (.builtin id args) R s:=
 codeAny_builtin ent (by rw[under_plainId pl];exact k)
theorem jR {kvs:List (KK×Value)}{Q:List Value->Shared->Prop}(hh:A.handled=none)(hS:(d==sysModules)=false)(hm:s.heap.DictAt knd d kvs ep)(hn:kvs.length<=sizeLine)
  (q:∀h' tk acc,s.heap.objs.size<=h'.objs.size->(∀b o,s.heap.get? b=some o->h'.get? b=some o)->ItemsOf (fun i v=>∃k x,kvs[i]?=some (k,x)/\knd.is k v=true) acc kvs.length->Q acc.toList { s with heap:=h',toks:=tk }):wpAny (model prog w) A (collect (.ref d)) Q E s:=by
 have dlt:=hm.lt_size;refine show wpAny _ _ (runValue (.builtin "proto.collect" ⟨[.ref d],[]⟩) >>= _) _ _ s from aa (wpAny_runValue (xb F.entry_proto_collect F.plain_proto_collect ?c0));refine aa (m:=newList []) (wpAny_newList (ae ⟨plainId_quiet F.plain_list_iadd _,xb F.entry_list_iadd F.plain_list_iadd (show wpAny _ A.in1 (typeOf (.ref d) >>= _) _ _ _ from ?c2)⟩))
 have m1:=hm.push { cls:=.type "list",data:=.seq ([]:List Value).toArray };have g1:(s.heap.push { cls:=.type "list",data:=.seq ([]:List Value).toArray }).get? s.heap.objs.size=some { cls:=.type "list",data:=.seq ([]:List Value).toArray }:=aI _ rfl;have z1:(s.heap.push { cls:=.type "list",data:=.seq ([]:List Value).toArray }).objs.size=s.heap.objs.size+1:=by rw[size_push]
 have k1:∀b o,s.heap.get? b=some o->(s.heap.push { cls:=.type "list",data:=.seq ([]:List Value).toArray }).get? b=some o:=fun b o e=>af _ e;generalize s.heap.push { cls:=.type "list",data:=.seq ([]:List Value).toArray }=h1 at *;refine aa (wpAny_typeOf (T:="dict") (s:={ s with heap:=h1 }) m1.dictOf.typeIs ?c3);have nd:s.heap.objs.size≠d:=fun e=>Nat.lt_irrefl _ (e▸dlt)
 have e1:listSameRef (.ref s.heap.objs.size) (.ref d)=false:=by simp[listSameRef,nd]
 rw[ah (by rw[e1];decide)];refine aa (wpAny_pyIter_dict (s:={ s with heap:=h1 }) hS m1 ?c4);dsimp only;have m2:=m1.push { cls:=.type "dict_keyiterator",data:=.fields #[.ref d,.int 0 0,.int kvs.length 0,.int ep 0] }
 have i2:(h1.push { cls:=.type "dict_keyiterator",data:=.fields #[.ref d,.int 0 0,.int kvs.length 0,.int ep 0] }).IsKeyIter h1.objs.size d 0 kvs.length ep:=⟨_,aI _ rfl,rfl,rfl⟩;have g2:=af { cls:=.type "dict_keyiterator",data:=.fields #[.ref d,.int 0 0,.int kvs.length 0,.int ep 0] } g1
 have k2:∀b o,s.heap.get? b=some o->(h1.push { cls:=.type "dict_keyiterator",data:=.fields #[.ref d,.int 0 0,.int kvs.length 0,.int ep 0] }).get? b=some o:=fun b o e=>af _ (k1 b o e);have n2:s.heap.objs.size≠h1.objs.size:=by rw[z1];exact av (lt_succ_self _)
 have dI:d≠h1.objs.size:=by rw[z1];exact av (lt_succ_of_lt dlt)
 generalize hI:h1.objs.size=It at *;generalize h1.push { cls:=.type "dict_keyiterator",data:=.fields #[.ref d,.int 0 0,.int kvs.length 0,.int ep 0] }=h2 at *;refine aa (bj ?c5);unfold Builtin.List.listLengthHint;refine aa (wpAny_specialOf (T:="dict") (s:={ s with heap:=h2 }) m2.dictOf.typeIs lA ?c6)
 wp_delta
 refine aa (wpAny_isInstance (T:="dict") (s:={ s with heap:=h2 }) (b:=true) m2.dictOf.typeIs (by rw[isSubtype_type];kernel_rfl) ?c7);refine aa (wpAny_typeOf (T:="dict") (s:={ s with heap:=h2 }) m2.dictOf.typeIs ?c8);refine ae ?c9;rw[ak (by decide +kernel)];refine aa (wpAny_rule ?c10);refine aa ?c11
 refine aa (wpAny_updateSeq (s:={ s with heap:=h2 }) g2 rfl ?c12);have g3:=bY (mapSeq (·.push Value.none)) g2 rfl;refine wpAny_updateSeq (hz:=by seq_fits) g3 rfl ?c13;have g4:=bY (mapSeq (·.pop)) g3 rfl
 have o4:∀b o,b≠s.heap.objs.size->h2.get? b=some o->((h2.update s.heap.objs.size (mapSeq (·.push Value.none))).update s.heap.objs.size (mapSeq (·.pop))).get? b=some o:=fun b o n e=>
  (get?_update_other _ _ n.symm).trans ((get?_update_other _ _ n.symm).trans e)
 generalize (h2.update s.heap.objs.size (mapSeq (·.push Value.none))).update s.heap.objs.size (mapSeq (·.pop))=h4 at *;have W:=(Walks.dictKeys (prog:=prog) (w:=w) (A:=A.in1) (knd:=knd) hh It d dI kvs ep).toS
 have out:s.heap.objs.size∉[It,d]:=fun z=>by
  rcases aV.mp z with z|z
  ·exact n2 z
  ·exact nd (a_.mp z)
 refine ae ⟨plainId_quiet F.plain_extend_loop _,codeAny_extend_loopS W hn s.heap.objs.size out _ kvs.length 0 _ _ _ rfl (zero_le _) ⟨i2.at fun o e=>o4 _ _ n2.symm e,m2.at' fun o e=>o4 _ _ nd.symm e⟩ g4 (ItemsOf.nil _) fun s' acc' c' mv gS it=>?c14⟩;refine show wpAny _ A (load s.heap.objs.size >>= _) _ _ s' from aa (wpAny_load gS ?c15)
 have kp:∀b o,s.heap.get? b=some o->s'.heap.get? b=some o:=fun b o e=>by
  have lt:=aS e;have b1:=av lt;refine mv.heap b o (fun z=>?_) (o4 b o b1 (k2 b o e));rcases aV.mp z with z|z
  ·exact b1 z
  ·rw[a_.mp z,z1] at lt;exact aY lt (Nat.not_lt.mpr (le_succ _))
 rw[(Moved.eq_with mv)];exact ae (q s'.heap s'.toks acc' (cV (aS gS)) kp it)
end
theorem uQ {us:List Value}(l:us.length=ns.length)(f:∀(i:Nat) (u:Value) (n:Int),us[i]?=some u->ns[i]?=some n->∃t,u=.int n t):IntsAre us ns:=by
 induction us generalizing ns with
 | nil=>
  rw[(List.length_eq_zero_iff.mp l.symm)];exact .nil
 | cons u us ih=>
  obtain⟨n,ns,rfl⟩:=List.exists_cons_of_length_eq_add_one (n:=us.length) l.symm;obtain⟨t,rfl⟩:=f 0 u n rfl rfl;exact .cons n t (ih (Nat.succ.inj l) fun i u' n' a b=>f (i+1) u' n' a b)
section
end
section
theorem sk {t}(ht:IsTup s.heap t #[])(hb:IsTup s.heap b ws.toArray)(q:Q (.ref b) s):wpAny (model prog w) A (binaryOp .Add (.ref t) (.ref b)) Q E s:=by
 obtain⟨⟨c1,d1,x1,l1⟩,o1,e1,n1,f1⟩:=id ht;obtain⟨⟨c2,d2,x2,l2⟩,o2,e2,n2,f2⟩:=id hb;simp only at e1 f1 e2 f2;subst e1 f1 e2 f2;exact concat_meets ⟨_,o1,rfl⟩ ⟨_,o2,rfl⟩ noFill_tuple_add seq_tuple_add slot_tuple_add entry_tuple_add (args_tuple_add_2 _ _) (tuple_addW0 t b #[] ws.toArray n1 n2 d1 d2 l1 l2 rfl) ⟨o1,o2,q⟩
end
section
theorem d8:OpR X (binaryOp .Add) (fun x y H Q=>Ex4 fun a b xs ys=>An6 (x=.ref a) (y=.ref b) (H a=some (.tup xs)) (H b=some (.tup ys)) (xs.length+ys.length<=sizeLine) (∀p H',aZ H H'->H' p=some (.tup (xs++ys))->Q (.ref p) H')):=by
 intro pins s σ H x y v u Q I rx ry h;obtain⟨a,b,xs,ys,rfl,rfl,ha,hb,hz,q⟩:=h;by_cases e:xs=[]
 ·subst e;cases rx;cases ry;obtain⟨i1,r1,p1,_⟩:=I.tuple (SqT.of ha);obtain⟨i2,r2,p2,_⟩:=I.tuple (SqT.of hb);cases r1;exact sk p1 p2 ⟨.ref b,H,I,rfl,q b H (aZ.refl _) hb⟩
 ·refine uA pins s σ H _ _ v u Q I rx ry ⟨a,b,xs,ys,rfl,rfl,SqT.of ha,SqT.of hb,e,hz,fun z=>?_,fun _ p hp=>q p _ (aZ.upd hp) ay⟩;subst z;exact q a H (aZ.refl _) (by rw[cH];exact ha)
end
section
end
section
variable {o:Expr}{to:TE}{t:TA}{id:String}{r:V->List V->Hp->VK->Prop}
end
section
end
section
end
end L2
namespace L2
open PySem
section
variable {TI TO:Addr}
end
end L2
namespace L2
open PySem PyProof PyProof.Rows
theorem de:entryFor table "dict.update.loop" = some Builtin.«dict.update.loop»:=entryFor_of_tree (by kernel_rfl)
theorem bQ:plainId "dict.update.loop" = true:=by decide +kernel
section
variable {KK:Type}[DecidableEq KK]{knd:KeyKind prog w KK}{R:Result->Shared->Prop}
variable {TI TO:Addr}
end
section
variable {KK:Type}[DecidableEq KK]{knd:KeyKind prog w KK}
end
section
variable {a b:Expr}{t:TA}
end
section
end
theorem Inv.turnN {t':Nat}(ch:List Addr)(I:Inv X pins σ H s)(hf:∀b∈ch,kc X pins H b)(k:∀b o,b∉ch->s.heap.get? b=some o->h'.get? b=some o):Inv X pins σ H { s with heap:=h',toks:=t' }:=by
 have nH:∀b u,H b=some u->b∉ch:=fun b u q z=>by rw[(hf b z).1] at q;cases q
 refine I.step (g':=s.gens) (d':=s.drawn) (ch:=ch) (fun b hb=>?_) (fun b o _ _ hc q _=>k b o hc q) (fun b o _ _ hc q _=>⟨o.slots,k b o hc q⟩)
  (fun _ _ _ _ n=>n) (fun b o hc q=>⟨o,k b o hc q⟩) (fun _ _ e=>e) (fun _ _ _ e=>e) (fun b ps e=>⟨#[],by rw[e];simp⟩) (fun m hm=>?_) (fun b u q=>?_) I.bare
 ·obtain⟨_,f1,_,f3,f4,f5⟩:=hf b hb;exact⟨f3,f1,f4,f5⟩
 ·obtain⟨o,es,ep,ho,r⟩:=hm;exact⟨o,es,ep,k _ o (fun z=>(hf _ z).2.1 rfl) ho,r⟩
 ·refine(I.hok b u q).stay (fun c v hc z=>?_) (fun _ z=>z) fun _ _ z=>z;rcases hc with rfl|hc
  ·exact k _ v (nH _ _ q) z
  ·exact k _ v (nH _ _ hc) z
theorem Inv.turnT {t':Nat}{us:List Value}(ch:List Addr)(I:Inv X pins σ H s)(hf:∀b∈ch,kc X pins H b)(k:∀b o,b∉ch->s.heap.get? b=some o->h'.get? b=some o)
  (lT:s.heap.objs.size<=T) (r:b_ xs us) (hz:xs.length<=sizeLine) (hT:h'.get? T=some { cls:=.type "tuple",data:=.seq us.toArray }):Inv X pins σ (upd H T (.tup xs)) { s with heap:=h',toks:=t' }:=by
 have fT:=I.hok.fresh lT;have nT:∀b o,s.heap.get? b=some o->b≠T:=fun b o q=>av (aH (aS q) lT);have nH:∀b u,H b=some u->b∉ch:=fun b u q z=>by rw[(hf b z).1] at q;cases q
 refine I.step (g':=s.gens) (d':=s.drawn) (ch:=ch) (fun b hb=>?_) (fun b o _ _ hc q _=>k b o hc q) (fun b o _ _ hc q _=>⟨o.slots,k b o hc q⟩)
  (fun b o _ q n=>by rw[aE (nT b o q)];exact n) (fun b o hc q=>⟨o,k b o hc q⟩) (fun b ys q=>by rw[aE (ao q fT)];exact q) (fun b o u q=>by rw[aE (ao q fT)];exact q)
  (fun b ps q=>⟨#[],by rw[aE (ao q fT),q];simp⟩) (fun m hm=>?_) (fun b u q=>?_) I.bare
 ·obtain⟨_,f1,_,f3,f4,f5⟩:=hf b hb;exact⟨f3,f1,f4,f5⟩
 ·obtain⟨o,es,ep,ho,r⟩:=hm;exact⟨o,es,ep,k _ o (fun z=>(hf _ z).2.1 rfl) ho,r⟩
 ·by_cases hb:b=T
  ·subst hb;rw[ay] at q;cases q;exact⟨hz,us,r,⟨_,hT,rfl,_,rfl⟩,fun o z=>by rw[hT] at z;cases z;rfl⟩
  ·rw[aE hb] at q;refine(I.hok b u q).stay (fun c v hc z=>?_) (fun c z=>by rw[aE (ao z fT)];exact z) fun c ys z=>by rw[aE (ao z fT)];exact z
   rcases hc with rfl|hc
   ·exact k _ v (nH _ _ q) z
   ·exact k _ v (nH _ _ hc) z
section
end
section
end
end L2
namespace L2
open PySem PySem.Spec PyProof.Rows
section
end
open PySem.SeqAt
open PySem.AutoSeq1 (wpAny_loadPart')
open PySem.MeetsSeq PySem.MeetsSeq2 PySem.MeetsSeq3
section
theorem nK {t}{lo hi:Option Int}(ht:IsTup s.heap t items)(hs:s.heap.IsSliceOf sl vl vu .none)(pl:IsPart vl lo)(pu:IsPart vu hi)
  (hw:HT.sIx items.size 0 lo=0/\HT.sIx items.size items.size hi=items.size) (h:Q (.ref t) s):wpAny (model prog w) A (getItem (.ref t) (.ref sl)) Q E s:=by
 obtain⟨os,hos,hcs,hds⟩:=id hs;have ty:s.TypeIs (.ref sl) "slice":=⟨os,hos,hcs⟩;unfold getItem
 try with_reducible refine bj ?_
 first|refine aa (ae ?_)|skip
 refine aa (wpAny_sequenceKey ht.typeIs (by decide) (aa (wpAny_callSpecial?_slot (name:=Str.ofString "__getitem__") ht.typeIs PyProof.Rows.slot_tuple_getitem
  (wpAny_call_entry PyProof.Rows.slot_tuple_getitem ht.typeIs entry_tuple_getitem ?_ (args_tuple_getitem _ _)))))
 show wpAny _ _ (Builtin.Tuple.tupleItemsOf (.ref t) >>= _) _ _ s;refine aa (tupleItemsOf_ ht (aa (wpAny_typeOf ty ?_)));rw[ak (by decide)];refine aa (HT.sliceApplied_gen hs pl pu ?_);rw[hw.1,hw.2];show wpAny _ _ (if (((0:Nat):Int)==0&&(1:Int)==1&&(items.size - 0)==items.size)=true then _ else _) _ _ s;rw[ak (by simp)]
 refine aa (show wpAny _ _ (typeOf (.ref t) >>= fun T=>pure (T==.type "tuple")) _ _ s from aa (wpAny_typeOf ht.typeIs (ae ?_)));rw[ak (by decide)];exact aa (wpAny_rule (ae ⟨_,rfl,ae h⟩))
end
section
def Ah (K:Frag):V->Option Int->Option Int->Hp->VK->Prop:=fun x lo hi H Q=>Ex2 fun a xs=>An3 (x=.ref a) (H a=some (.tup xs)) (∀p H',aZ H H'->H' p=some (.tup (lB xs lo hi))->Q (.ref p) H')
theorem dO:SlR X (Ah X.K):=by
 intro pins s σ H x v vl vu lo hi sl Q I rx hs pl pu h;obtain⟨a,xs,rfl,hx,q⟩:=h;by_cases hw:HT.sIx xs.length 0 lo=0/\HT.sIx xs.length xs.length hi=xs.length
 ·cases rx;obtain⟨its,r,ht,hz⟩:=I.tuple (SqT.of (K:=X.K) hx);have hlen:its.toArray.size=xs.length:=by rw[aJ];exact r.length.symm
  refine⟨"tuple",_,PyProof.Rows.slot_tuple_getitem.lookup,ht.typeIs,nK ht hs pl pu (by rw[hlen];exact hw) ⟨.ref a,H,I,rfl,q a H (aZ.refl _) ?_⟩⟩;unfold lB;rw[hw.1,hw.2,drop_zero,Nat.sub_zero,take_length];exact hx
 ·exact vE pins s σ H (.ref a) v vl vu lo hi sl Q I rx hs pl pu ⟨a,xs,rfl,SqT.of hx,hw,fun p fp=>q p _ (aZ.upd fp) ay⟩
end
end L2
namespace L2
open PySem PyProof PyProof.Rows
section
variable {u u':HO}
end
theorem KV.get {vs:List (Key×Value)}(r:KV kvs vs):∀{i:Nat} {k:Key} {x:V},kvs[i]?=some (k,x)->∃v,vs[i]?=some (k,v)/\cb x v:=by
 induction r with
 | nil=>intro i k x h;cases h
 | @cons a b l m h t ih=>
  intro i k x e;cases i with
  | zero=>
   have e':=e;cases e';obtain⟨h1,h2⟩:=h;obtain⟨b1,b2⟩:=b;cases h1;exact⟨b2,rfl,h2⟩
  | succ i=>exact ih (i:=i) e
theorem ud {k}(h:jc k u=true):cb (kV k) u:=by
 rcases bS h with⟨i,t,rfl,rfl⟩|⟨x,t,rfl,rfl⟩
 ·exact⟨t,rfl⟩
 ·exact⟨t,rfl⟩
section
variable {o:Expr}{to:TE}
end
section
theorem Inv.track (I:Inv X pins σ H s)(f:kc X pins H a)(h0:X.s₀.heap.objs.size<=a)(new:bI X.prog X.w (upd H a o) s.heap a o):Inv X pins σ (upd H a o) s:=by
 obtain⟨f0,f1,_,_,f4,f5⟩:=f;have nb:∀{b:Addr} {u:HO},H b=some u->upd H a o b=some u:=fun {b u} h=>by rw[aE (ao h f0)];exact h
 refine⟨I.ok,I.os,I.bare,⟨I.base.keep,I.base.slot,fun b ob e n hx=>?_,I.base.there,fun b xs e=>nb (I.base.tups b xs e),fun b ob z e=>nb (I.base.frzs b ob z e),fun b ps e=>?_⟩,I.loc,I.cell,?_,fun x c e=>?_,fun p hp=>?_,fun b u e=>?_,I.len⟩
 ·rw[aE (av (aH (aS e) h0))];exact I.base.free b ob e n hx
 ·obtain⟨more,h⟩:=I.base.tbls b ps e;exact⟨more,nb h⟩
 ·rw[aE f1.symm];exact I.free
 ·rw[aE (f4 x c e)];exact I.freeC x c e
 ·obtain⟨e,n,r⟩:=I.pin p hp;exact⟨e,by rw[aE (f5 p hp)];exact n,r⟩
 ·by_cases h:b=a
  ·subst h;rw[ay] at e;cases e;exact new
  ·rw[aE h] at e;exact(I.hok b u e).stay (fun c v _ q=>q) (fun c q=>nb q) fun c xs q=>nb q
theorem Inv.tracks:∀(as:List Addr) (qs:List (List V)) {H:Hp},Inv X pins σ H s->as.length=qs.length->as.Pairwise (· < ·)->(∀a∈as,kc X pins H a/\X.s₀.heap.objs.size<=a) ->
  (∀(j:Nat) (a:Addr) (q:List V),as[j]?=some a->qs[j]?=some q->q.length<=sizeLine/\∃us:List Value,b_ q us/\s.heap.get? a=some { cls:=.type "tuple",data:=.seq us.toArray }) ->
  ∃H',An3 (Inv X pins σ H' s) (∀b o,H b=some o->H' b=some o) (∀(j:Nat) (a:Addr) (q:List V),as[j]?=some a->qs[j]?=some q->H' a=some (.tup q))
 | [],qs,H,I,_,_,_,_=>⟨H,I,fun _ _ z=>z,nofun⟩
 | a::as,[],H,I,l,_,_,_=>nomatch l
 | a::as,q::qs,H,I,l,pw,hf,ho=>by
  obtain⟨pa,pw'⟩:=List.pairwise_cons.mp pw;obtain⟨hz,us,rv,e⟩:=ho 0 a q rfl rfl;obtain⟨fa,h0⟩:=hf a (bt ..);have I1:Inv X pins σ (upd H a (.tup q)) s:=I.track fa h0 ⟨hz,us,rv,⟨_,e,rfl,_,rfl⟩,fun o z=>by rw[e] at z;cases z;rfl⟩;have na:∀b o,H b=some o->upd H a (.tup q) b=some o:=fun b o z=>by rw[aE (ao z fa.1)];exact z
  obtain⟨H',I',k',t'⟩:=Inv.tracks as qs I1 (Nat.succ.inj l) pw' (fun b hb=>by
   obtain⟨⟨g0,g⟩,gl⟩:=hf b (aX _ hb)
   exact⟨⟨by rw[aE (ne_of_gt (pa b hb))];exact g0,g⟩,gl⟩) fun j b p e1 e2=>ho (j+1) b p e1 e2
  refine⟨H',I',fun b o z=>k' b o (na b o z),fun j b p e1 e2=>?_⟩;cases j with
  | zero=>
   have e1':=e1;have e2':=e2;cases e1';cases e2';exact k' _ _ ay
  | succ j=>exact t' j b p e1 e2
end
def sv (v d:Addr):HO:=.ext fun h=>h.IsItemsView v d
section
variable {o:Expr}{to:TE}
def sD (to:TE):TE:=fun σ H Q=>to σ H fun x H1=>Ex2 fun d kvs=>An3 (x=.ref d) (H1 d=some (.dK kvs)) (∀v,H1 v=none->Q (.ref v) (upd H1 v (sv v d)))
theorem qZ (ho:PE X o to)(hbase:attributeBase o "items" X.env (eval o X.env)=eval o X.env:=by rfl)(hline:(apos.endLine==cpos.line)=true:=by rfl) :
  PE X (.Call (.Attribute o "items" apos) [] [] cpos) (sD to):=by
 intro pins s σ H Q I h;refine wpAny_Call_method0_late hbase hline (thn (ho pins s σ H _ I h) fun v s1 zz=>?_);obtain⟨x,H1,I1,r1,q1⟩:=zz;obtain⟨d,kvs,rfl,hd,q⟩:=q1;cases r1;obtain⟨h1,h2⟩:=nO (T:="dict") (x:=.ref d) I1 rfl (.inr (.inr (.inl ⟨rfl,.inl ⟨kvs,hd⟩⟩)))
 refine⟨"dict","dict.items",plainAttrs_dict,PySem.F.slot_dict_items,PySem.F.type_dict_items,h1,h2,Calls.callWith_builtin rfl (PySem.evalArgs_none ?_)⟩;obtain⟨hz,hS,vs,rk,m⟩:=qj I1.hok hd;refine call_meetsIn PySem.F.slot_dict_items m.typeIs PySem.F.entry_dict_items (PySem.F.args_dict_items_1 _) (meets_dict_items (bK X.prog X.w) d hS) ⟨⟨vs,m⟩,?_⟩
 have g:(s1.heap.push { cls:=.type "dict_items",data:=.fields #[.ref d] }).get? s1.heap.objs.size=some { cls:=.type "dict_items",data:=.fields #[.ref d] }:=aI _ rfl;refine⟨.ref s1.heap.objs.size,_,I1.laid (a:=s1.heap.objs.size) (o:=sv s1.heap.objs.size d) (t':=s1.toks) (fun b u e=>af _ e) (by lia) ?_,rfl,q _ (I1.hok.fresh (by lia))⟩
 exact⟨⟨_,g,rfl,rfl⟩,⟨_,g⟩,fun a b ⟨ob,e,c⟩ k=>⟨ob,k ob e,c⟩⟩
theorem gG:∀(as:List Addr),b_ (as.map V.ref) (as.map Value.ref)
 | []=>.nil
 | _::as=>.cons rfl (gG as)
end
open PySem.AutoSeq1 (wpAny_loadPart')
section
variable {x:Value}
end
section
end
section
variable {t:TS}
end
section
end
end L2
namespace L2
open PySem PySem.Spec PyProof PyProof.Rows
section
variable {o f:Expr}
end
section
variable {I S:Addr}{Pv:Nat->Value->Prop}{St:Nat->Heap->Prop}{d:Value}
end
def tQ (X:Cx)(f:Value)(ks:List Str)(r:List V->List V->Hp->VK->Prop):Prop:=
 ∀(pins:List (Addr×Obj)) (s:Shared) (σ:St) (H:Hp) (xs zs:List V) (us ws:List Value) (Q:VK),Inv X pins σ H s->b_ xs us->b_ zs ws->r xs zs H Q->wpAny (model X.prog X.w) X.A (call f us (ks.zip ws)) (EP X pins σ Q) X.xe s
def zE (r:List V->List V->Hp->VK->Prop)(t tk:TA):TE:=fun σ H Q=>t σ H fun vs H1=>tk σ H1 fun zs H2=>r vs zs H2 Q
section
variable {kws:List Keyword}{t tk:TA}{id:String}{r:List V->List V->Hp->VK->Prop}
theorem oQ (hc:tQ X (.builtin id) ks r)(hg:Gl X x)(hm:X.mg x=none)(hv:bootBuiltins x=some (.builtin id))(ha:PA X (e::es) t)(hkw:PK X kws tk)(hn:x ≠ "__name__":=by decide)(hdb:(x==("__debug__" : Str))=false:=by decide)
  (he:starEach (e::es) X.env=(false,eval e X.env)::starEach es X.env:=by rfl) (hpl:(backTo pos (starEach (e::es) X.env)).any (·.1)=false:=by rfl)
  (hall:(backToKw pos (keywordEach kws X.env)).all (·.1.isSome)=true:=by rfl) (hno:(backToKw pos (keywordEach kws X.env)).any (·.1.isNone)=false:=by rfl) (hks:(backToKw pos (keywordEach kws X.env)).filterMap (·.1)=ks:=by rfl) :
  PE X (.Call (.Name x p) (e::es) kws pos) (zE r t tk):=by
 intro pins s σ H Q I h;refine wpAny_Call_Name_kw (gv I hg hm hv ?_ hn hdb);refine callWith_builtin_kwB hpl hno (evalArgs_kw2 hall (thn (ha pos pins s σ H _ I h) fun us s1 ⟨vs,H1,I1,r1,q1⟩=>thn (hkw pos pins s1 σ H1 _ I1 q1) fun ws s2 ⟨zs,H2,I2,r2,q2⟩=>?_) he);rw[hks];exact hc pins s2 σ H2 vs zs us ws Q I2 r1 r2 q2
end
theorem sg (S:aZ H H')(e:H a=some o):H' a=some o:=S _ _ e
theorem xM {p x}(f:H p=none)(e:H a=some x):upd H p o a=some x:=by rw[aE (ao e f)];exact e
section
variable {Q:VK}{n bk:St->Hp->Prop}{D:Ends}{tb tc:TE}{t u:TS}{tu:TT}{g:TG}{gs:TGs}{w':V}{vs:List V}{f:Str}
theorem yj (h:te σ H fun x H1=>n (σ.set i (some x)) H1):qI te (c_ i) ⟨n,rt,bk,ct⟩ σ H:=h
theorem yq (h:te σ H fun x H1=>g x σ H1 n):qI te g ⟨n,rt,bk,ct⟩ σ H:=h
theorem yk (h:te σ H rt):zw te ⟨n,rt,bk,ct⟩ σ H:=h
theorem vH (h:te σ H fun _ H1=>n σ H1):vw te ⟨n,rt,bk,ct⟩ σ H:=h
theorem vG (h:n σ H):vt ⟨n,rt,bk,ct⟩ σ H:=h
def xH (K:Frag)(f:Str)(y:V)(n:St->Hp->Prop)(σ:St)(x:V)(H:Hp):Prop:=Ex4 fun a C dx fs=>An6 (x=.ref a) (H a=some (.ins C dx fs)) (Cls K C) (cM K C f) (fs.length<1000) (n σ (upd H a (.ins C dx (jr f y fs))))
theorem yp (h:tb σ H fun y H1=>ta σ H1 fun x H2=>xH K f y n σ x H2):zH K ta tb f ⟨n,rt,bk,ct⟩ σ H:=h
theorem tw {fs:List (Str×V)}(h:H a=some (.ins C dx fs))(c:Cls K C)(no:cM K C f)(l:fs.length<1000)(q:n σ (upd H a (.ins C dx (jr f y fs)))):xH K f y n σ (.ref a) H:=⟨a,C,dx,fs,rfl,h,c,no,l,q⟩
def xI (v:V)(n:St->Hp->Prop)(σ:St)(x y:V)(H:Hp):Prop:=Ex2 fun a H'=>An3 (x=.ref a) (vi H a y v H') (n σ H')
theorem vI (h:tc σ H fun v H1=>ta σ H1 fun x H2=>tb σ H2 fun y H3=>xI v n σ x y H3):vK ta tb tc ⟨n,rt,bk,ct⟩ σ H:=h
theorem pO {k}(h:H a=some (.dK kvs))(l:kvs.length<sizeLine)(q:n σ (upd H a (.dK (iR kvs k v)))):xI v n σ (.ref a) (kV k) H:=⟨a,_,rfl,vi.k h l,q⟩
def zT (i j:Nat)(n:St->Hp->Prop)(σ:St)(vs:List V)(H:Hp):Prop:=Ex2 fun v w=>vs=[v,w]/\n ((σ.set i (some v)).set j (some w)) H
theorem ym {ta}(h:ta σ H fun vs H1=>zT i j n σ vs H1):zx i j ta ⟨n,rt,bk,ct⟩ σ H:=h
theorem yW (h:n ((σ.set i (some v)).set j (some w')) H):zT i j n σ [v,w'] H:=⟨v,w',rfl,h⟩
theorem xi {N:St->Hp->Prop}(h:N (σ.set i (some v)) H):c_ i v σ H N:=h
theorem rT {N:St->Hp->Prop}{k:Nat}(e:H a=some (.tup xs))(l:xs.length=k)(h:gs xs σ H N):vd K k gs (.ref a) σ H N:=⟨a,xs,rfl,SqT.of e,l,h⟩
theorem xk {N:St->Hp->Prop}(h:g v σ H fun σ' H'=>gs xs σ' H' N):fF g gs (v::xs) σ H N:=⟨v,xs,rfl,h⟩
theorem y_ {N:St->Hp->Prop}{ts:xX}(h:ta σ H fun o H1=>tb σ H1 fun i H2=>ts o i v H2 fun H3=>N σ H3):zP ta tb ts v σ H N:=h
theorem v0 {N:Hp->Prop}{k:Int}(h:H a=some (.lst xs))(e:ixN xs.length k=some j)(q:N (upd H a (.lst (xs.set j v)))):vY (.ref a) (.int k) v H N:=⟨a,xs,k,j,rfl,rfl,h,e,q⟩
theorem za {N:St->Hp->Prop}(h:N σ H):ve [] σ H N:=⟨rfl,h⟩
def QB (Q:Bool->Hp->Prop)(x:V)(H:Hp):Prop:=∃k,x=.bl k/\Q k H
theorem qb {Q:Bool->Hp->Prop}{k}(h:Q k H):QB Q (.bl k) H:=⟨k,rfl,h⟩
theorem vM {Q:Bool->Hp->Prop}(h:te σ H (QB Q)):tY te σ H Q:=h
theorem z8 {Q:Bool->Hp->Prop}(h:te σ H (QB Q)):tB te σ H Q:=h
theorem vX (h:ta σ H (QB fun c H1=>if c=true then tb σ H1 Q else Q (.bl false) H1)):vC ta tb σ H Q:=h
theorem yu (h:ta σ H (QB fun c H1=>if c=true then Q (.bl true) H1 else tb σ H1 Q)):zy ta tb σ H Q:=h
theorem vR (h:ta σ H (QB fun c H1=>Q (.bl (!c)) H1)):vq ta σ H Q:=h
theorem yE {Q:Bool->Hp->Prop}(h:tt σ H fun c H1=>if c=true then tu σ H1 Q else Q false H1):zF tt tu σ H Q:=h
theorem Ab {Q:Bool->Hp->Prop}(h:tt σ H fun c H1=>if c=true then Q true H1 else tu σ H1 Q):tOr tt tu σ H Q:=h
theorem yw {Q:Bool->Hp->Prop}(h:tt σ H fun c H1=>Q (!c) H1):zA tt σ H Q:=h
theorem yB (h:tt σ H fun c H1=>if c=true then ta σ H1 Q else tb σ H1 Q):tIf tt ta tb σ H Q:=h
theorem yr (e:σ[i]?=some (some v))(h:Q v H):xN i σ H Q:=⟨v,e,h⟩
theorem r_c (h:Q v H):tC v σ H Q:=h
theorem Ac (h:ta σ H fun x H1=>tb σ H1 fun y H2=>r x y H2 Q):tOp r ta tb σ H Q:=h
theorem z6 {ru:V->Hp->VK->Prop}(h:ta σ H fun x H1=>ru x H1 Q):tUn ru ta σ H Q:=h
theorem zK {g:Int->Int->V}{a b:Int}(h:Q (g a b) H):rI0 g (.int a) (.int b) H Q:=⟨a,b,rfl,rfl,h⟩
theorem q_i {C:Int->Int->Prop}{g:Int->Int->V}{a b:Int}(c:C a b)(h:Q (g a b) H):rI C g (.int a) (.int b) H Q:=⟨a,b,rfl,rfl,c,h⟩
theorem q_u {g:Int->V}{a:Int}(h:Q (g a) H):rU g (.int a) H Q:=⟨a,rfl,h⟩
theorem Aj {x}(c:xQ x y=true)(h:Q (.bl (decide (x=y))) H):rEq x y H Q:=⟨c,h⟩
theorem Ai {x}(c:xQ x y=true)(h:Q (.bl (!decide (x=y))) H):rNe x y H Q:=⟨c,h⟩
def tP (r':R2)(tc:TE)(σ:St)(y:V)(Q:VK)(z:V)(H:Hp):Prop:=∃k,z=.bl k/\(if k=true then tc σ H fun w' H4=>r' y w' H4 Q else Q (.bl false) H)
theorem ug (h:ta σ H fun x H1=>tb σ H1 fun y H2=>r x y H2 (tP r' tc σ y Q)):sH r r' ta tb tc σ H Q:=h
theorem uP {k}(h:if k=true then tc σ H fun w' H4=>r' y w' H4 Q else Q (.bl false) H):tP r' tc σ y Q (.bl k) H:=⟨k,rfl,h⟩
def zV (K:Frag)(f:Str)(Q:VK)(x:V)(H:Hp):Prop:=Ex5 fun a C dx fs v=>An6 (x=.ref a) (H a=some (.ins C dx fs)) (Cls K C) (cM K C f) (fs.lookup f=some v) (Q v H)
theorem yC (h:ta σ H (zV K f Q)):zD K ta f σ H Q:=h
theorem yY {fs:List (Str×V)}(h:H a=some (.ins C dx fs))(c:Cls K C)(no:cM K C f)(l:fs.lookup f=some v)(q:Q v H):zV K f Q (.ref a) H:=⟨a,C,dx,fs,v,rfl,h,c,no,l,q⟩
def xJ (x y:V)(Q:VK)(H:Hp):Prop:=Ex2 fun a v=>An3 (x=.ref a) (ju H a y (some v)) (Q v H)
theorem vU (h:ta σ H fun x H1=>tb σ H1 fun y H2=>xJ x y Q H2):vx ta tb σ H Q:=h
theorem kW {k}(h:H a=some (.dK kvs))(e:ik kvs k=some v)(q:Q v H):xJ (.ref a) (kV k) Q H:=⟨a,v,rfl,e▸ju.k (k:=k) h,q⟩
def zU (xs:List V)(Q:VK)(H:Hp):Prop:=xs.length<=sizeLine/\∀p,H p=none->Q (.ref p) (upd H p (.lst xs))
theorem yz {t}(h:t σ H fun xs H1=>zU xs Q H1):yg t σ H Q:=h
def zS (xs:List V)(Q:VK)(H:Hp):Prop:=xs.length<=sizeLine/\∀p,H p=none->Q (.ref p) (upd H p (.tup xs))
theorem yt {t}(h:t σ H fun xs H1=>zS xs Q H1):ye t σ H Q:=h
theorem vV {t}{Q:List V->Hp->Prop}(h:ta σ H fun x H1=>t σ H1 fun xs H2=>Q (x::xs) H2):cN ta t σ H Q:=h
theorem yy {Q:List V->Hp->Prop}(h:Q [] H):qF σ H Q:=h
theorem vW {E t}(h:t σ H fun vs H1=>sp (vs++dvs) H1 Q E):n5 sp dvs E t σ H Q:=h
def xF (C:Addr)(m:Str)(sp:Sp)(dvs:List V)(E:XK)(t:TA)(σ:St)(Q:VK)(x:V)(H:Hp):Prop:=Ex3 fun a dx fs=>An4 (x=.ref a) (H a=some (.ins C dx fs)) (fs.lookup m=none) (t σ H fun vs H2=>sp (x::(vs++dvs)) H2 Q E)
theorem vS {E t}(h:ta σ H (xF C m sp dvs E t σ Q)):kn C m sp dvs E ta t σ H Q:=h
theorem wT {E t}{fs:List (Str×V)}(h:H a=some (.ins C dx fs))(l:fs.lookup m=none)(q:t σ H fun vs H2=>sp (.ref a::(vs++dvs)) H2 Q E):xF C m sp dvs E t σ Q (.ref a) H:=⟨a,dx,fs,rfl,h,l,q⟩
def xG (C:Addr)(sp:Sp)(dvs:List V)(E:XK)(Q:VK)(vs:List V)(H:Hp):Prop:=∀x dx,H x=none->H dx=none->dx≠x->sp (.ref x::(vs++dvs)) (upd (upd H dx (.own x)) x (.ins C dx [])) (fun v H2=>v=.non/\Q (.ref x) H2) E
theorem vT {E t}(h:t σ H fun vs H1=>xG C sp dvs E Q vs H1):vv C sp dvs E t σ H Q:=h
theorem Ae {rr:List V->Hp->VK->Prop}{t}(h:t σ H fun vs H1=>rr vs H1 Q):tCB rr t σ H Q:=h
theorem df {k:Int}(h:H a=some (.lst xs))(e:atI xs k=some v)(q:Q v H):zI K (.ref a) (.int k) H Q:=⟨a,xs,k,v,rfl,rfl,SqL.of h,e,q⟩
theorem oB {k:Int}(h:H a=some (.tup xs))(e:atI xs k=some v)(q:Q v H):yG K (.ref a) (.int k) H Q:=⟨a,xs,k,v,rfl,rfl,SqT.of h,e,q⟩
def zW (K:Frag)(T:String)(rr:V->List V->Hp->VK->Prop)(t:TA)(σ:St)(Q:VK)(x:V)(H:Hp):Prop:=tyV K T x H/\t σ H fun xs H2=>rr x xs H2 Q
theorem Af {T t}(h:ta σ H (zW K T rr t σ Q)):tBM K T rr ta t σ H Q:=h
theorem yZ {t}(h:H a=some (.lst xs))(q:t σ H fun ys H2=>rr (.ref a) ys H2 Q):zW K "list" rr t σ Q (.ref a) H:=⟨.inl ⟨rfl,_,SqL.of h⟩,q⟩
theorem dJ (h:H a=some (.lst xs))(l:xs.length<sizeLine)(q:Q .non (upd H a (.lst (xs++[y])))):oz (.ref a) [y] H Q:=⟨a,xs,y,rfl,rfl,h,l,q⟩
theorem iQ (h1:H a=some (.lst xs))(h2:H b=some (.lst ys))(l:xs.length+ys.length<=sizeLine)(q:∀p,H p=none->Q (.ref p) (upd H p (.lst (xs++ys)))):zJ (.ref a) (.ref b) H Q:=⟨a,b,xs,ys,rfl,rfl,h1,h2,l,q⟩
end
end L2
namespace L2
open PySem
def jo (tp:Bool)(H:Hp)(a:Addr)(xs:List V):Prop:=H a=some (if tp then .tup xs else .lst xs)
theorem jo.sq (h:jo tp H a xs):SqB K tp H a xs:=by
 cases tp with
 | true=>exact SqT.of h
 | false=>exact SqL.of h
theorem tz {x}(h:jo tp H a xs)(e:xs[i]?=some x):(ItB K tp a).go i H:=by
 cases tp with
 | true=>exact⟨xs,x,SqT.of h,e⟩
 | false=>exact⟨xs,x,SqL.of h,e⟩
theorem pT (h:jo tp H a xs)(y:(ItB K tp a).yld i H v H'):H'=H/\xs[i]?=some v:=by
 cases tp with
 | true=>exact⟨y.1,y.2 xs (SqT.of h)⟩
 | false=>exact⟨y.1,y.2 xs (SqL.of h)⟩
theorem mt (h:jo tp H a xs)(e:xs.length<=i):(ItB K tp a).stop i H:=by
 cases tp with
 | true=>exact⟨xs,SqT.of h,e⟩
 | false=>exact⟨xs,SqL.of h,e⟩
theorem im {D}(s:aZ H1 H2)(d:H1 D=none):aZ H1 (upd H2 D o):=fun b u q=>by rw[aE (ao q d)];exact s b u q
theorem kZ {b c}{A:Prop}(e:b=c)(h:if c=true then A else B):if b=true then A else B:=by subst e;exact h
theorem bW {p}(k:KB p H H1)(h:H1 l=none)(n:l≠p):H l=none:=by
 cases c:H l with
 | none=>rfl
 | some o=>rw[k l o c n] at h;cases h
def fj (H:Hp)(ts:List Addr)(ps:List (Int×Int)):Prop:=ts.length=ps.length/\∀(j:Nat) (t:Addr) (x:Int×Int),ts[j]?=some t->ps[j]?=some x->H t=some (.tup [.int x.1,.int x.2])
theorem fj.keep {ps}(h:fj H ts ps)(S:∀b xs,H b=some (.tup xs)->H' b=some (.tup xs)):fj H' ts ps:=⟨h.1,fun j t x a b=>S _ _ (h.2 j t x a b)⟩
theorem tE {ps:List (Int×Int)}(hl:H1 l=some (.lst (ts.map V.ref)))(h:fj H1 ts ps):∀i H2,aZ H1 H2 ->
  (i<ps.length->(Itl K l).go i H2)/\(∀v H3 x,(Itl K l).yld i H2 v H3->ps[i]?=some x->∃t,v=.ref t/\aZ H2 H3/\H3 t=some (.tup [.int x.1,.int x.2]))/\(ps.length<=i->(Itl K l).stop i H2):=fun i H2 S=>by
 have h2:SqL K H2 l (ts.map V.ref):=SqL.of (S _ _ hl);have le:=h.1;refine⟨fun hi=>⟨_,.ref ts[i],h2,by rw[aQ,List.getElem?_eq_getElem (by lia)];rfl⟩,fun v H3 x yl ex=>?_,fun hi=>⟨_,h2,by rw[au];lia⟩⟩;obtain⟨rfl,y2⟩:=yl;have ev:=y2 _ h2;rw[aQ] at ev;obtain⟨t,et,rfl⟩:=dF.mp ev;exact⟨t,rfl,aZ.refl _,S _ _ (h.2 i t x et ex)⟩
def kL (ps:List (Int×Int)):List (Key×V):=ps.map fun p=>(Sum.inl p.1,V.int p.2)
theorem pP (ps:List (Int×Int)):(kL ps).length=ps.length:=by unfold kL;rw[au]
theorem eQ:bootBuiltins "sorted" = some (.builtin "sorted"):=by decide +kernel
theorem pQ (ps:List (Int×Int))(p:Int):jV (kL ps) (Sum.inl p)=kL (ps.filter fun x=>decide (x.1≠p)):=by
 unfold jV kL;rw[List.filter_map];congr 1;refine List.filter_congr fun n _=>decide_eq_decide.mpr ⟨fun h z=>h (bL Sum.inl z),fun h z=>h (Sum.inl.inj z)⟩
theorem jf (ps:List (Int×Int)):(kL ps).map (·.1)=(ps.map (·.1)).map Sum.inl:=by unfold kL;rw[map_map,map_map];rfl
def qG (P:Program)(w:World)(K:Frag)(mg:Str->Option Value)(base:Heap)(CX:CXT)(C:Addr)(nm:Str)(ps:List Str)(k:Nat)(sp:Sp):Prop:=
 ∃f fd,Meth K C nm f/\eS K fd ps []/\nI P w K mg base CX k f fd ps sp
end L2
namespace L2
open PySem PySem.Spec PyProof PyProof.Rows
section
variable {k:Nat}{ds:List Value}{E:XK}{o:Expr}
end
section
variable {Q:VK}{E:XK}
end
theorem nh {A:Prop}(h:B):if (!true)=true then A else B:=cG h
theorem ng {A:Prop}(h:A):if (!false)=true then A else B:=dk h
theorem jn:bootBuiltins "dict" = some (.type "dict"):=by decide +kernel
theorem kO {y dy o1 o2}(f1:H y=none)(f2:H dy=none)(e:H b=some o):upd (upd H dy o1) y o2 b=some o:=by
 rw[aE (ao e f1)];exact xM f2 e
end L2
namespace L2
open PySem
theorem jt {p:Prop}[Decidable p]{A B:Prop}(c:p)(h:A):if decide p=true then A else B:=by rw[aq c];exact dk h
theorem eB {p:Prop}[Decidable p]{A B:Prop}(c:¬p)(h:B):if decide p=true then A else B:=by rw[aM c];exact cG h
theorem iteNX {p:Prop}[Decidable p]{A B:Prop}(c:¬p)(h:A):if (!decide p)=true then A else B:=by rw[aM c];exact dk h
section
variable {xs:List α}{f:α->V}
end
def zn (J:It)(g:TG)(tb:TS)(D:Ends)(σ:St)(H:Hp):Prop:=xO (fun _ H R=>R J H) g tb D σ H
def KIL (K:Frag)(R:It->Hp->Prop)(x:V)(H:Hp):Prop:=∃a,An3 (x=.ref a) (∃xs,SqL K H a xs) (R (Itl K a) H)
def KR1 (R:It->Hp->Prop)(vs:List V)(H:Hp):Prop:=∃j:Int,An4 (vs=[.int j]) (-(2 ^ 62)<=j) (j<2 ^ 62) (R (Itr 0 j.toNat) H)
def KR2 (R:It->Hp->Prop)(vs:List V)(H:Hp):Prop:=Ex2 fun(i j:Int)=>An3 (vs=[.int i,.int j]) (An4 (-(2 ^ 62)<=i) (i<2 ^ 62) (-(2 ^ 62)<=j) (j<2 ^ 62)) (R (Itr i (j - i).toNat) H)
section
variable {g:TG}{D:Ends}{ta:TA}{R:It->Hp->Prop}{n bk:St->Hp->Prop}
theorem yo (h:wi σ H fun J H1=>zn J g tb D σ H1):xO wi g tb D σ H:=h
theorem Ad (h:tl σ H (KIL K R)):uS K tl σ H R:=h
theorem yX (h:H a=some (.lst xs))(q:R (Itl K a) H):KIL K R (.ref a) H:=⟨a,rfl,⟨xs,SqL.of h⟩,q⟩
theorem vO (h:ta σ H (KR1 R)):wZ ta σ H R:=h
theorem vN (h:ta σ H (KR2 R)):wY ta σ H R:=h
theorem tq {j:Int}(h0:0<=j)(h1:j<=1000000)(q:R (Itr 0 j.toNat) H):KR1 R [.int j] H:=⟨j,rfl,by lia,by lia,q⟩
theorem wS {i j:Int}(h0:0<=i)(h1:i<=1000000)(h2:0<=j)(h3:j<=1000000)(q:R (Itr i (j - i).toNat) H):KR2 R [.int i,.int j] H:=⟨i,j,rfl,⟨by lia,by lia,by lia,by lia⟩,q⟩
theorem lR (Pv:Nat->St->Hp->Prop)(h0:Pv 0 σ H)(hl:∀i σ H,i<=xs.length->Pv i σ H->H a=some (.lst xs))
  (hs:∀i x σ H,xs[i]?=some x->Pv i σ H->g x σ H fun σ2 H2=>tb ⟨Pv (i+1),rt,n,Pv (i+1)⟩ σ2 H2) (hd:∀σ H,Pv xs.length σ H->n σ H):zn (Itl K a) g tb ⟨n,rt,bk,ct⟩ σ H:=
 rX (K:=K) (D:=⟨n,rt,bk,ct⟩) Pv h0 (fun i σ H a b=>SqL.of (hl i σ H a b)) hs hd
theorem oC {lo:Int}{m:Nat}(Pv:Nat->St->Hp->Prop)(h0:Pv 0 σ H)
  (hs:∀i σ H,i<m->Pv i σ H->g (.int (lo+i)) σ H fun σ2 H2=>tb ⟨Pv (i+1),rt,n,Pv (i+1)⟩ σ2 H2) (hd:∀σ H,Pv m σ H->n σ H):zn (Itr lo m) g tb ⟨n,rt,bk,ct⟩ σ H:=
 qe (D:=⟨n,rt,bk,ct⟩) Pv h0 hs hd
end
theorem uf {tk}{r:List (TE×TE)}{Q:List (V×V)->Hp->Prop}(h:tk σ H fun x H1=>tv σ H1 fun y H2=>iu r σ H2 fun ps H3=>Q ((x,y)::ps) H3):iu ((tk,tv)::r) σ H Q:=h
theorem vP {Q:List (V×V)->Hp->Prop}(h:Q [] H):iu [] σ H Q:=h
theorem yD {rr:List V->List V->Hp->VK->Prop}{t tk Q}(h:t σ H fun vs H1=>tk σ H1 fun zs H2=>rr vs zs H2 Q):zE rr t tk σ H Q:=h
section
variable {g g' k k':Hp}
end
theorem KB.same {h:Hp}{p}(k:KB p H H')(s:aZ h H)(n:h p=none):aZ h H':=fun b o e=>k b o (s _ _ e) fun z=>by rw[z,n] at e;cases e
end L2
namespace L2
open PySem PyProof PyProof.Rows
theorem iE {n}(h:(match fastLookup "list" n with|some none=>true|_=>false)=true):typeLookup (.type "list") n=pure none:=am_miss_of_fast h
section
abbrev xZ (h:Heap)(l:Addr)(its:Array Value)(n:Nat):Prop:=h.get? l=some { cls:=.type "list",dict:=none,data:=.seq its n,slots:=#[] }
theorem uM {Q:PySem.Fin->Shared->Prop}{u:Tok}(o:xZ s.heap l its n)(hA:A.handled=none)(h:∀h' tk e,s.heap.NewAttrErr h' e (.ref l) "keys"->E (.ref e) { s with heap:=h',toks:=tk }) :
  wpAny (model prog w) A (Builtin.«object.__getattribute__» ⟨[.ref l,.str "keys" u],[]⟩) Q E s:=by
 have lacks:=iE (n:="keys") (by kernel_rfl);have ty:s.TypeIs (.ref l) "list":=⟨_,o,rfl⟩;have ol:s.heap.get? l=some { cls:=.type "list",dict:=none,data:=.seq its n,slots:=#[] }:=o
 wp_walk
 exact wpAny_raiseAttrError hA h (attrMsg_fits (by decide +kernel) (by size_fits))
theorem pF:entryFor table "list.__getattribute__" = some Builtin.«object.__getattribute__»:=entryFor_alias (id':="object.__getattribute__") (by kernel_rfl) (by decide +kernel) (by decide +kernel) (by kernel_rfl)
theorem uL {Q:Option Value->Shared->Prop}(o:xZ s.heap l its n)(hA:A.handled=none)(h:∀h' tk,(∀c oc,s.heap.get? c=some oc->h'.get? c=some oc)->Q none { s with heap:=h',toks:=tk }):wpAny (model prog w) A (getAttr? (.ref l) "keys") Q E s:=by
 have ty:∀tk,Shared.TypeIs { s with toks:=tk } (.ref l) "list":=fun tk=>⟨_,o,rfl⟩;have ty0:s.TypeIs (.ref l) "list":=⟨_,o,rfl⟩;have b1:=F.slot_list_getattribute.lookup;have b2:=F.slot_list_getattribute.bind (.ref l);have b3:=iE (n:="__getattr__") (by kernel_rfl)
 have go:∀{Q':Value->Shared->Prop} {E':Value->Shared->Prop} {tk:Nat},(∀h' tk' e,s.heap.NewAttrErr h' e (.ref l) "keys"->E' (.ref e) { s with heap:=h',toks:=tk' })->wpAny (model prog w) A (call (.builtin "list.__getattribute__") ([.ref l]++[.str "keys" s.toks])) Q' E' { s with toks:=tk }:=fun q=>
  wpAny_call_entry F.slot_list_getattribute (ty _) pF (uM (s:={ s with toks:=_ }) o hA q) (F.args_list_getattribute_2 _ _)
 wp_walk using go
 intro h' tk' e ne;obtain⟨ta,tb,there⟩:=ne.there;have sub:=sub_AttributeError
 wp_walk
 exact h h' tk' ne.keeps
end
section
variable {KK:Type}[DecidableEq KK]{knd:KeyKind prog w KK}{R:Result->Shared->Prop}
def fJ (knd:KeyKind prog w KK)(h:Heap)(xs:Array Value)(rs:List (KK×Value)):Prop:=∀(i:Nat) v,xs[i]?=some v->∃(T:Addr) (x y:Value) (k:KK),v=.ref T/\h.IsTuple T #[x,y]/\rs[i]?=some (k,y)/\knd.is k x=true
theorem fJ.keep {xs}{rs:List (KK×Value)}(p:fJ knd h xs rs)(k:∀T o,(∃i:Nat,xs[i]?=some (Value.ref T))->h.get? T=some o->h'.get? T=some o):fJ knd h' xs rs:=fun i v e=>by
 obtain⟨T,x,y,kk,rfl,⟨o,g,r⟩,q⟩:=p i v e;exact⟨T,x,y,kk,rfl,⟨o,k T o ⟨i,e⟩ g,r⟩,q⟩
theorem d4 {rs:List (KK×Value)}(p:h.DictOf knd d rs)(k:∀o,h.get? d=some o->h'.get? d=some o):h'.DictOf knd d rs:=by
 obtain⟨o,es,ep,ho,r⟩:=p;exact⟨o,es,ep,k _ ho,r⟩
theorem nN {xs:Array Value}(hh:A.handled=none)(di:d≠it)(dl:d≠l)(il:l≠it)(res:Value)(rs:List (KK×Value))(hl:xs.size=rs.length)(hn:rs.length<=sizeLine)(nd:(rs.map (·.1)).Nodup)
  (no:∀(i:Nat) T,xs[i]?=some (Value.ref T)->T≠d/\T≠it) :
  ∀(k i:Nat) (s:Shared),rs.length - i=k->i<=rs.length->s.heap.IsListIter it l i->s.heap.IsList l xs->fJ knd s.heap xs rs->s.heap.DictOf knd d (rs.take i) ->
  (∀s' h' tk,s'={ s with heap:=h',toks:=tk }->h'.DictOf knd d rs->(∀c o,c≠it->c≠d->s.heap.get? c=some o->h'.get? c=some o)->R (.ok (.ret res)) s') ->
  codeAny (model prog w) A (.builtin "dict.update.loop" ⟨[.ref d,.ref it,rawInt i,res],[]⟩) R s:=by
 intro k
 induction k with
 | zero=>
  intro i s hk hi hit hls ps hd hR;have hin:i=rs.length:=by lia
  refine codeAny_builtin de ?_;rw[under_plainId bQ _];refine aa (wpAny_pyNext_list_end hh hit hls (by rw[Array.getElem?_eq_none (by lia)]) fun h' kp=>?_);rw[take_of_length_le (by lia)] at hd;refine aa (ae (ae (hR _ h' s.toks rfl ?_ ?_)))
  all_goals first
   | exact d4 hd fun o e=>kp _ _ di e
   | exact fun c o c1 _ e=>kp _ _ c1 e
 | succ k ih=>
  intro i s hk hi hit hls ps hd hR;have ilt:i<xs.size:=by lia
  obtain⟨T,x,y,kk,ev,gT,er,ek⟩:=ps i _ (Array.getElem?_eq_getElem ilt);obtain⟨nTd,nTi⟩:=no i T (by rw[Array.getElem?_eq_getElem ilt,ev]);refine codeAny_builtin de ?_;rw[under_plainId bQ _];refine aa (wpAny_pyNext_list_item hit hls (by rw[Array.getElem?_eq_getElem ilt,ev]) fun h1 it1 sb1=>?_);obtain⟨oT,eT,cT,nT,dT⟩:=gT;have eT1:=sb1.extBut _ _ nTi eT
  refine aa (bj (aa (wpAny_tryCatch ?_)));unfold Builtin.Dict.pairItems;refine aa (wpAny_typeOf (T:="tuple") ⟨_,eT1,cT⟩ ?_);rw[ak (by decide)];refine aa (wpAny_seqItems eT1 dT (ae ?_));refine bj (wpAny_dictSet_pairs (hsz:=by rw[aF];lia) ek (d4 hd fun o e=>sb1.extBut _ _ di e) fun h2 hd2 sb=>?_)
  replace sb:Heap.SameBut d h1 h2:=sb
  have est:stored (rs.take i) kk y=rs.take (i+1):=by
   rw[stored,ah,List.take_succ,er]
   ·rfl
   ·intro q;obtain⟨kv,m1,m2⟩:=any_eq_true.mp q;obtain⟨j,hj⟩:=getElem?_of_mem m1
    have jl:j<i:=by
     have:=(aA.mp hj).1;rw[aF] at this
     lia
    rw[getElem?_take_of_lt jl] at hj;have e1:(rs.map (·.1))[j]?=some kk:=by rw[aQ,hj];exact bL some (aU m2)
    have e2:(rs.map (·.1))[i]?=some kk:=by rw[aQ,er];rfl
    exact aY ((List.getElem?_inj (by rw[au];lia) nd).mp (e1.trans e2.symm)) (by lia)
  rw[est] at hd2;refine ae ⟨plainId_quiet bQ _,?_⟩;obtain⟨oi,gi,ri⟩:=it1;obtain⟨ol,gl,rl⟩:=hls
  exact ih (i+1) _ (by lia) (by lia) ⟨oi,sb.extBut _ _ di.symm gi,ri⟩ ⟨ol,sb.extBut _ _ dl.symm (sb1.extBut _ _ il gl),rl⟩ (ps.keep fun T' o ⟨j,ej⟩ e=>sb.extBut _ _ (no j T' ej).1 (sb1.extBut _ _ (no j T' ej).2 e)) hd2 fun s' h3 tk3 es hd3 kp3=>hR s' h3 tk3 es hd3 fun c o c1 c2 e=>kp3 c o c1 c2 (sb.extBut _ _ c2 (sb1.extBut _ _ c1 e))
end
section
variable {KK:Type}[DecidableEq KK]{knd:KeyKind prog w KK}{l:Addr}{its:Array Value}{n:Nat}
theorem rP {more:List (KK×Value)}{R:PySem.Fin->Shared->Prop}(o:xZ s.heap l its n)(hd:s.heap.DictOf knd d more)(hA:A.handled=none)
  (q:∀(h':Heap) tk,(∀c oc,s.heap.get? c=some oc->h'.get? c=some oc)->R (.again (.builtin "dict.update.loop" ⟨[.ref d,.ref h'.objs.size,rawInt 0,.none],[]⟩)) { s with heap:=h'.push { cls:=.type "list_iterator",data:=.fields #[.ref l,.int 0 0] },toks:=tk }) :
  wpAny (model prog w) A (Builtin.«dict.__init__» ⟨[.ref d,.ref l],[]⟩) R E s:=by
 have ty:s.TypeIs (.ref l) "list":=⟨_,o,rfl⟩
 have from':wpAny (model prog w) A (Builtin.Dict.updateFrom "dict.__init__" d (.ref l) [] .none) R E s:=by
  have seek:∀{Q':Option Value->Shared->Prop},(∀h' tk,(∀c oc,s.heap.get? c=some oc->h'.get? c=some oc)->Q' none { s with heap:=h',toks:=tk })->wpAny (model prog w) A (getAttr? (.ref l) "keys") Q' E s:=fun k=>uL o hA k
  exact show wpAny _ _ (typeOf (.ref l) >>= _) _ _ s from aa (wpAny_typeOf ty (aa (seek fun h' tk keep=>aa (wpAny_rule (aa (wpAny_pyIter_list (items:=its) ⟨_,keep _ _ o,rfl,_,rfl⟩ (ae (q h' tk keep))))))))
 have head:∀{Q':Unit->Shared->Prop},Q' () s->wpAny (model prog w) A (Builtin.Dict.notOrdered "__init__" ⟨[.ref d,.ref l],[]⟩) Q' E s:=fun k=>wpAny_notOrdered_dict hd.typeIs k
 wp_walk using head,from'
theorem ly {rs:List (KK×Value)}(hh:A.handled=none)(o:xZ s.heap l its n)(ps:fJ knd s.heap its rs)(hl:its.size=rs.length)(hn:rs.length<=sizeLine)(nd:(rs.map (·.1)).Nodup)
  (h:∀h' tk,h'.DictOf knd s.heap.objs.size rs->(∀c o,s.heap.get? c=some o->h'.get? c=some o)->Q (.ref s.heap.objs.size) { s with heap:=h',toks:=tk }) :
  wpAny (model prog w) A (call (.type "dict") [.ref l]) Q E s:=by
 refine callType_codes (Q₁:=fun obj t=>obj=.ref s.heap.objs.size/\∃hm,An3 (t={ s with heap:=hm }) (hm.DictOf knd s.heap.objs.size []) (∀c o,s.heap.get? c=some o->hm.get? c=some o)) PySem.F.kt_called_dict (PySem.F.kt_typeCall_dict_1 _) PySem.F.entry_dict_init (kt_code_dict_new _ ⟨rfl,_,rfl,Heap.DictOf.new s.heap,fun c o e=>af _ e⟩) ?_;rintro _ _ ⟨rfl,hm,rfl,dm,km⟩
 refine⟨dm.typeIs,PySem.F.args_dict_init_2 _ _,rP (s:={ s with heap:=hm }) (km _ _ o) dm hh fun h1 tk k1=>⟨plainId_quiet bQ _,?_⟩⟩;have kp:∀c o,s.heap.get? c=some o->h1.get? c=some o:=fun c o e=>k1 c o (km c o e);have k2:∀c o,h1.get? c=some o->(h1.push { cls:=.type "list_iterator",data:=.fields #[.ref l,.int 0 0] }).get? c=some o:=fun c o e=>af _ e
 have lt1:∀{c o},s.heap.get? c=some o->c<s.heap.objs.size:=fun e=>aS e;have lt2:∀{c o},h1.get? c=some o->c<h1.objs.size:=fun e=>aS e;obtain⟨od,_,_,gd,_⟩:=id dm
 have d1:(h1.push { cls:=.type "list_iterator",data:=.fields #[.ref l,.int 0 0] }).DictOf knd s.heap.objs.size (rs.take 0):=by
  rw[List.take_zero];exact d4 dm fun oo e=>k2 _ _ (k1 _ _ e)
 refine nN (A:=A.in1) (knd:=knd) (l:=l) (xs:=its) hh (av (lt2 (k1 _ _ gd))) (dG (av (lt1 o))) (av (lt2 (kp _ _ o))) .none rs hl hn nd (fun i T e=>?_) rs.length 0 { s with heap:=h1.push { cls:=.type "list_iterator",data:=.fields #[.ref l,.int 0 0] },toks:=tk } rfl (zero_le _) ⟨_,aI _ rfl,rfl,rfl⟩ ⟨_,k2 _ _ (kp _ _ o),rfl,_,rfl⟩ (ps.keep fun T oT _ e=>k2 _ _ (kp _ _ e)) d1 fun s' h' tk' es d' kp'=>?_
 ·obtain⟨T',x,y,kk,ev,⟨oT,eT,_⟩,_⟩:=ps i _ e;cases ev;exact⟨av (lt1 eT),av (lt2 (kp _ _ eT))⟩
 ·subst es;exact⟨rfl,h h' tk' d' fun c oc e=>kp' c oc (av (lt2 (kp _ _ e))) (av (lt1 e)) (k2 _ _ (kp _ _ e))⟩
end
theorem iW {prog w}{h:Heap}:∀{ts:List Addr} {kvs:List (Key×V)},ts.length=kvs.length->(∀(i:Nat) t k v,ts[i]?=some t->kvs[i]?=some (k,v)->∃x y,h.IsTuple t #[x,y]/\cb (kV k) x/\cb v y) ->
  ∃rs:List (Key×Value),KV kvs rs/\∀(i:Nat) v,(ts.map Value.ref)[i]?=some v->∃(T:Addr) (x y:Value) (k:Key),v=.ref T/\h.IsTuple T #[x,y]/\rs[i]?=some (k,y)/\(bK prog w).is k x=true
 | [],[],_,_=>⟨[],.nil,fun i v e=>by cases e⟩
 | [],_::_,e,_=>by cases e
 | _::_,[],e,_=>by cases e
 | t::ts,(k,v)::kvs,e,p=>by
  obtain⟨x,y,g,rx,ry⟩:=p 0 t k v rfl rfl;obtain⟨rs,kv,q⟩:=iW (prog:=prog) (w:=w) (ts:=ts) (kvs:=kvs) (Nat.succ.inj e) fun i t' k' v' a b=>p (i+1) t' k' v' a b;refine⟨(k,y)::rs,.cons ⟨rfl,ry⟩ kv,fun i u hu=>?_⟩;cases i with
  | zero=>cases hu;exact⟨t,x,y,k,rfl,g,rfl,je rx⟩
  | succ i=>exact q i u hu
theorem iP:∀{ts:List Addr} {its:List Value},b_ (ts.map V.ref) its->its=ts.map Value.ref
 | [],_,.nil=>rfl
 | t::ts,_,.cons r q=>by cases r;rw[iP q];rfl
section
theorem nF (hh:X.A.handled=none):fe X (.type "dict") (fun xs H Q=>∃(l:Addr) (ts:List Addr) (kvs:List (Key×V)),xs=[.ref l]/\H l=some (.lst (ts.map V.ref))/\ts.length=kvs.length/\(kvs.map (·.1)).Nodup/\(∀(i:Nat) t k v,ts[i]?=some t->kvs[i]?=some (k,v)->H t=some (.tup [kV k,v]))/\∀d,H d=none->Q (.ref d) (upd H d (.dK kvs))):=by
 intro pins s σ H xs us Q I r h;obtain⟨l,ts,kvs,rfl,hl,ln,nd,tu,q⟩:=h;obtain⟨u,rfl,ru⟩:=fK r;cases ru;obtain⟨z,its,n,rv,e⟩:=(show bI X.prog X.w H s.heap l (.lst (ts.map V.ref)) from Rd.ok (.inl hl) I.hok);cases iP rv
 obtain⟨rs,kv,ps⟩:=iW (prog:=X.prog) (w:=X.w) (h:=s.heap) ln fun i t k v a b=>by
  obtain⟨us,r2,⟨o,e1,e2,m,e3⟩,_⟩:=I.tuple (SqT.of (tu i t k v a b));obtain⟨x,y,rfl,rx,ry⟩:=mL r2;exact⟨x,y,⟨o,e1,e2,m,e3⟩,rx,ry⟩
 have lr:=kv.length.symm;rw[au] at z;refine ly (knd:=bK X.prog X.w) (rs:=rs) hh e (fun i v a=>ps i v (by simpa using a)) (by simp[lr,ln]) (by lia) (by rw[<- kv.keys];exact nd) fun h' tk hd kp=>?_;refine⟨.ref s.heap.objs.size,_,I.laid (a:=s.heap.objs.size) (o:=.dK kvs) (t':=tk) kp (by lia) ⟨by lia,?_,rs,kv,hd⟩,rfl,q _ (I.hok.fresh (by lia))⟩;have:=I.big
 exact beq_eq_false_iff_ne.mpr (by intro z;simp only[Addr] at *;lia)
end
end L2
namespace L2
open PySem PySem.Spec PyProof PyProof.Rows
def ItZ (K:Frag)(a b:Addr):It:=
 ⟨fun i H=>Ex4 fun xs ys x y=>An4 (SqL K H a xs) (SqL K H b ys) (xs[i]?=some x) (ys[i]?=some y),fun i H v H'=>Ex3 fun t x y=>An4 (v=.ref t) (H t=none) (∀xs ys,SqL K H a xs->SqL K H b ys->xs[i]?=some x/\ys[i]?=some y) (H'=upd H t (.tup [x,y])),
  fun i H=>Ex2 fun xs ys=>An3 (SqL K H a xs) (SqL K H b ys) (xs.length=i\/ys.length=i)⟩
theorem Inv.listAt (I:Inv X pins σ H s)(h:SqL X.K H a xs):∃us:List Value,b_ xs us/\s.heap.IsList a us.toArray:=by
 obtain⟨us,r,⟨o,n,e1,e2,_,e4⟩,_⟩:=I.list h;exact⟨us,r,o,e1,e2,n,e4⟩
theorem nQ (a b z TI TO i1 i2:Addr)(Z:ZipApart z TI TO i1 i2 a b) :
  Turn P w K (.Tuple elts kk tpos) (ItZ K a b) [z,TI,TO,i1,i2] z (fun i h=>An5 (IsZip h z TI TO .none) (IsPair h TI (.ref i1) (.ref i2)) (Ex2 fun u v=>IsPair h TO u v) (h.IsListIter i1 a i) (h.IsListIter i2 b i)) where
 mem:=by simp
 obj:=fun i h ⟨gz,gI,⟨u,v,gO⟩,⟨o1,e1,_,d1⟩,⟨o2,e2,_,d2⟩⟩ c hc=>by
  simp at hc;rcases hc with rfl|rfl|rfl|rfl|rfl
  ·exact⟨_,gz,fun v z=>by have z':Data.fields _=Data.cell v:=z;cases z'⟩
  ·exact⟨_,gI,fun v z=>by have z':Data.seq _ _=Data.cell v:=z;cases z'⟩
  ·exact⟨_,gO,fun v z=>by have z':Data.seq _ _=Data.cell v:=z;cases z'⟩
  ·exact⟨_,e1,fun v z=>by rw[d1] at z;cases z⟩
  ·exact⟨_,e2,fun v z=>by rw[d2] at z;cases z⟩
 keep:=fun i h h' ⟨gz,gI,⟨u,v,gO⟩,⟨o1,e1,d1⟩,⟨o2,e2,d2⟩⟩ k=>⟨k z (by simp) _ gz,k TI (by simp) _ gI,⟨u,v,k TO (by simp) _ gO⟩,⟨o1,k i1 (by simp) _ e1,d1⟩,o2,k i2 (by simp) _ e2,d2⟩
 item:=by
  intro X hP hw hK hc i pins s σ H E I hf st hg;subst hP hw hK;obtain⟨gz,gI,⟨u,v,gO⟩,h1,h2⟩:=st;obtain⟨xs,ys,x,y,qx,qy,ex,ey⟩:=hg;obtain⟨us,rx,px⟩:=I.listAt qx;obtain⟨vs,ry,py⟩:=I.listAt qy;obtain⟨u1,hu1,ru1⟩:=rx.get ex;obtain⟨u2,hu2,ru2⟩:=ry.get ey;refine wpAny_pyNext_zip_item Z gz gI gO h1 h2 px py (x:=u1) (y:=u2) (by simpa using hu1) (by simpa using hu2) fun h' zo gO' t1 t2 hT sz kp=>⟨_,rfl,?_⟩
  refine wpAny_letOwnedTupleGo_zip (s:={ s with heap:=h' }) zo fun h3 gz3 sb=>?_;replace sb:Heap.SameBut z h' h3:=sb;have old:∀{c:Addr} {o:Obj},s.heap.get? c=some o->c≠s.heap.objs.size:=fun e=>av (aS e)
  have J:Inv X pins σ (upd H s.heap.objs.size (.tup [x,y])) { s with heap:=h3,toks:=s.toks }:=by
   refine I.turnT (xs:=[x,y]) (us:=[u1,u2]) [z,TI,TO,i1,i2] hf (fun c o hc e=>?_) (by lia) (.cons ru1 (.cons ru2 .nil)) (by show 2<=sizeLine;decide) (sb.extBut _ _ (dG (old gz)) hT);simp at hc;exact sb.extBut _ _ hc.1 (kp c o hc.1 hc.2.2.1 hc.2.2.2.1 hc.2.2.2.2 e)
  obtain⟨p1,q1,r1⟩:=t1;obtain⟨p2,q2,r2⟩:=t2;refine⟨.ref s.heap.objs.size,_,J,rfl,⟨_,x,y,rfl,I.hok.fresh (by lia),fun xs' ys' qx' qy'=>?_,rfl⟩,⟨gz3,sb.extBut _ _ Z.TIz (kp _ _ Z.TIz Z.TITO Z.TIi1 Z.TIi2 gI),⟨_,_,sb.extBut _ _ Z.TOz gO'⟩,⟨p1,sb.extBut _ _ Z.i1z q1,r1⟩,p2,sb.extBut _ _ Z.i2z q2,r2⟩,fun c hc=>?_⟩
  ·rw[I.list_inj qx' qx,I.list_inj qy' qy];exact⟨ex,ey⟩
  ·have ne:c≠s.heap.objs.size:=by
    obtain⟨o1,e1,_⟩:=h1;obtain⟨o2,e2,_⟩:=h2;simp at hc;rcases hc with rfl|rfl|rfl|rfl|rfl
    ·exact old gz
    ·exact old gI
    ·exact old gO
    ·exact old e1
    ·exact old e2
   rw[aE ne];exact(hf c hc).1
 done:=by
  intro X hP hw hK hc i pins s σ H E I hf st hg;subst hP hw hK;obtain⟨gz,gI,⟨u,v,gO⟩,h1,h2⟩:=st;obtain⟨xs,ys,qx,qy,en⟩:=hg;obtain⟨us,rx,px⟩:=I.listAt qx;obtain⟨vs,ry,py⟩:=I.listAt qy
  refine wpAny_pyNext_zip_end (I.ok.hd hc) Z gz gI gO h1 h2 px py (en.imp (fun e=>Array.getElem?_eq_none (by rw[aJ,<- rx.length];lia)) fun e=>Array.getElem?_eq_none (by rw[aJ,<- ry.length];lia)) fun h' kp=>⟨rfl,?_⟩;refine I.turnN (t':=s.toks) [z,TI,TO,i1,i2] hf fun c o hc e=>?_;simp at hc;exact kp c o hc.1 hc.2.2.1 hc.2.2.2.1 hc.2.2.2.2 e
 self:=fun _ _ _ _ _ st h=>wpAny_pyIter_zip st.1 h
section
def wX (K:Frag)(ta:TA):TI:=fun σ H R=>ta σ H fun vs H1=>Ex2 fun a b=>An4 (vs=[.ref a,.ref b]) (∃xs,SqL K H1 a xs) (∃ys,SqL K H1 b ys) (R (ItZ K a b) H1)
theorem uo {l ta}(hg:Gl X "zip")(hm:X.mg "zip" = none)(hv:bootBuiltins "zip" = some (.type "zip"))(ha:PA X [l,l'] ta)(sa:cL l=false:=by rfl)(sb:cL l'=false:=by rfl) :
  PI X (.Tuple elts kk tpos) (.Call (.Name "zip" p) [l,l'] [] pos) (wX X.K ta):=by
 intro pins s σ H R I h;refine Call_ (gv I hg hm hv (PyProof.Rows.callWith_type1 (thn (ha pos pins s σ H _ I h) fun us s1 ⟨vs,H1,I1,r1,q1⟩=>?_) (gK sa) (by rw[gK sb];rfl)));obtain⟨a,b,rfl,⟨xs,qx⟩,⟨ys,qy⟩,q⟩:=q1;obtain⟨u1,u2,rfl,e1,e2⟩:=mL r1;cases e1;cases e2;obtain⟨us,rx,px⟩:=I1.listAt qx;obtain⟨ws,ry,py⟩:=I1.listAt qy;refine call_zip_2 px py fun h1 gz gI gO i1 i2 sz kp=>?_
 have a1:a<s1.heap.objs.size:=let⟨_,e,_⟩:=px;aS e;have a2:b<s1.heap.objs.size:=let⟨_,e,_⟩:=py;aS e
 have Z:ZipApart (s1.heap.objs.size+4) (s1.heap.objs.size+2) (s1.heap.objs.size+3) s1.heap.objs.size (s1.heap.objs.size+1) a b:=by
  constructor<;>(intro e;simp only[Addr] at *;lia)
 refine wpAny_pyIter_zip gz ⟨s1.heap.objs.size+4,[s1.heap.objs.size+4,s1.heap.objs.size+2,s1.heap.objs.size+3,s1.heap.objs.size,s1.heap.objs.size+1],_,_,H1,rfl,I1.kept (t':=s1.toks) kp,nQ a b _ _ _ _ _ Z,⟨gz,gI,⟨_,_,gO⟩,i1,i2⟩,fun c hc=>?_,q⟩
 have lc:s1.heap.objs.size<=c:=by
  simp at hc;rcases hc with rfl|rfl|rfl|rfl|rfl<;>(simp only[Addr] at *;lia)
 exact I1.fpOk lc (I1.hok.fresh lc)
end
def ItE (K:Frag)(a:Addr):It:=
 ⟨fun i H=>Ex2 fun xs x=>SqL K H a xs/\xs[i]?=some x,fun i H v H'=>Ex2 fun t x=>An4 (v=.ref t) (H t=none) (∀xs,SqL K H a xs->xs[i]?=some x) (H'=upd H t (.tup [.int i,x])),fun i H=>∃xs,SqL K H a xs/\xs.length=i⟩
theorem mO (a e it:Addr)(h1:e≠it)(h2:a≠e)(h3:a≠it) :
  Turn P w K (.Tuple elts kk tpos) (ItE K a) [e,it] e (fun i h=>(∃old,IsEnum h e it i old)/\h.IsListIter it a i) where
 mem:=by simp
 obj:=fun i h ⟨⟨old,he⟩,⟨o,q,_,d⟩⟩ b hb=>by
  simp at hb;rcases hb with rfl|rfl
  ·exact⟨_,he,fun v z=>by have z':Data.fields _=Data.cell v:=z;cases z'⟩
  ·exact⟨o,q,fun v z=>by rw[d] at z;cases z⟩
 keep:=fun i h h' ⟨⟨old,he⟩,⟨o,q,d⟩⟩ k=>⟨⟨old,k e (by simp) _ he⟩,o,k it (by simp) _ q,d⟩
 item:=by
  intro X hP hw hK hc i pins s σ H E I hf st hg;subst hP hw hK;obtain⟨⟨old,he⟩,hi⟩:=st;obtain⟨xs,x,hq,hx⟩:=hg;obtain⟨us,rv,p⟩:=I.listAt hq;obtain⟨u,hu,ru⟩:=rv.get hx;have hlt:i<us.toArray.size:=by rw[aJ,<- rv.length];exact(aA.mp hx).1
  have hh:X.A.in1.handled=none:=I.ok.hd hc;refine wpAny_pyNext_enum_itemD (Draws.list hh it a h3 us.toArray) he ⟨hi,p⟩ hlt h1 (by simp[h1,h2.symm]) fun x' h' tk hP hout hSt hT hsz hk=>⟨_,rfl,?_⟩;have ex:=aG ((by simpa using hP:us[i]?=some x').symm.trans hu);subst ex;refine wpAny_letOwnedTupleGo_enum (s:={ s with heap:=h',toks:=tk+1 }) hout fun h3' he3 sb=>?_
  have old:∀{c:Addr} {o:Obj},s.heap.get? c=some o->c≠s.heap.objs.size:=fun z=>av (aS z);obtain⟨⟨oi,qi,di⟩,_⟩:=hSt
  have J:Inv X pins σ (upd H s.heap.objs.size (.tup [.int i,x])) { s with heap:=h3',toks:=tk+1 }:=by
   refine I.turnT (xs:=[.int i,x]) (us:=[.int i tk,x']) [e,it] hf (fun c o hc z=>?_) (by lia) (.cons ⟨tk,rfl⟩ (.cons ru .nil)) (by show 2<=sizeLine;decide) (sb.extBut _ _ (dG (old he)) hT);simp at hc;exact sb.extBut _ _ hc.1 (hk c o hc.1 hc.2 z)
  refine⟨.ref s.heap.objs.size,_,J,rfl,⟨_,x,rfl,I.hok.fresh (by lia),fun ys hy=>by rw[I.list_inj hy hq];exact hx,rfl⟩,⟨⟨_,by simpa using he3⟩,oi,sb.extBut _ _ h1.symm qi,di⟩,fun b hb=>?_⟩
  have ne:b≠s.heap.objs.size:=by
   obtain⟨o,z,_⟩:=hi;simp at hb;rcases hb with rfl|rfl
   ·exact old he
   ·exact old z
  rw[aE ne];exact(hf b hb).1
 done:=by
  intro X hP hw hK hc i pins s σ H E I hf st hg;subst hP hw hK;obtain⟨⟨old,he⟩,hi⟩:=st;obtain⟨xs,hq,hx⟩:=hg;obtain⟨us,rv,p⟩:=I.listAt hq;have en:i=us.toArray.size:=by rw[aJ,<- rv.length];exact hx.symm
  subst en;have hh:X.A.in1.handled=none:=I.ok.hd hc;obtain⟨f0,f1,f2,f3,f4,f5⟩:=hf it (by simp);exact wpAny_pyNext_enum_endD (Draws.list hh it a h3 us.toArray) he ⟨hi,p⟩ fun h' eb=>⟨rfl,I.turned (t':=s.toks) (fun b o hb q=>eb b o hb q) f0 f1 f3 f4 f5⟩
 self:=fun _ _ _ _ _ ⟨⟨_,he⟩,_⟩ h=>wpAny_pyIter_enum he h
section
def w5 (K:Frag)(ta:TA):TI:=fun σ H R=>ta σ H fun vs H1=>∃a,An3 (vs=[.ref a]) (∃xs,SqL K H1 a xs) (R (ItE K a) H1)
theorem qV {l ta}(hg:Gl X "enumerate")(hm:X.mg "enumerate" = none)(hv:bootBuiltins "enumerate" = some (.type "enumerate"))(ha:PA X [l] ta)(hs:starEach [l] X.env=[(false,eval l X.env)]:=by rfl) :
  PI X (.Tuple elts kk tpos) (.Call (.Name "enumerate" p) [l] [] pos) (w5 X.K ta):=by
 intro pins s σ H R I h;refine Call_ (gv I hg hm hv (PyProof.Rows.callWith_type1 (thn (ha pos pins s σ H _ I h) fun us s1 ⟨vs,H1,I1,r1,q1⟩=>?_) hs rfl));obtain⟨a,rfl,⟨xs,hq⟩,q⟩:=q1;obtain⟨u,rfl,ru⟩:=fK r1;cases(show u=Value.ref a from ru);obtain⟨its,rv,p⟩:=I1.listAt hq;have alt:a<s1.heap.objs.size:=let⟨_,e,_⟩:=p;aS e
 refine call_enumerate_list p fun h' he hS _ hk=>wpAny_pyIter_enum (s:={ s1 with heap:=h' }) he ⟨s1.heap.objs.size+1,[s1.heap.objs.size+1,s1.heap.objs.size],_,_,H1,rfl,I1.kept (t':=s1.toks) hk,mO a _ _ (ne_of_gt (lt_succ_self _)) (av (lt_succ_of_lt alt)) (av alt),⟨⟨_,by simpa using he⟩,hS⟩,fun b hb=>?_,q⟩
 have lc:s1.heap.objs.size<=b:=by
  simp at hb;rcases hb with rfl|rfl<;>(simp only[Addr] at *;lia)
 exact I1.fpOk lc (I1.hok.fresh lc)
theorem qf {g:TG}{D:Ends}(Pv:Nat->St->Hp->Prop)(h0:Pv 0 σ H)(hl:∀i σ H,i<=xs.length->Pv i σ H->SqL K H a xs)
  (hs:∀i x t σ H,xs[i]?=some x->Pv i σ H->H t=none->g (.ref t) σ (upd H t (.tup [.int i,x])) fun σ2 H2=>tb { D with nx:=Pv (i+1),ct:=Pv (i+1),bk:=D.nx } σ2 H2) (hd:∀σ H,Pv xs.length σ H->D.nx σ H):xO (fun _ H R=>R (ItE K a) H) g tb D σ H:=by
 refine⟨fun i m σ H=>An3 (m=xs.length - i) (i<=xs.length) (Pv i σ H),⟨xs.length,by simp,zero_le _,h0⟩,?_⟩;rintro i m σ H ⟨rfl,hi,p⟩;have q:=hl i σ H hi p;by_cases hlt:i<xs.length
 ·refine .inr ⟨⟨xs,xs[i],q,by simp[hlt]⟩,Pv (i+1),fun σ' H' p'=>⟨xs.length - (i+1),by lia,rfl,hlt,p'⟩,fun x H' y=>?_⟩;obtain⟨t,z,rfl,ht,hy,rfl⟩:=y;exact hs i z t σ H (hy xs q) p ht
 ·have e:i=xs.length:=by lia
  subst e;exact .inl ⟨⟨xs,q,rfl⟩,hd σ H p⟩
end
end L2
namespace L2
open PySem PySem.Spec PyProof.Rows
section
end
section
end
section
end
section
end
section
end
end L2
namespace L2
open PySem
theorem dQ {tp:Addr->St->Hp->(Hp->Prop)->Prop}{Q:VK}(n:Nat)(hw:∀R:It->Hp->Prop,R J H1->wi σ H R)(Pv:Addr->Nat->Hp->Prop)
  (h0:∀D,H1 D=none->Pv D 0 (upd H1 D o0))
  (hs:∀D i H2,H1 D=none->i<n->Pv D i H2->J.go i H2/\∀v H3,J.yld i H2 v H3->∀R:Hp->Prop,(∀H5,Pv D (i+1) H5->R H5)->Z v H3 fun vs=>tc (vs++rst js σ) H3 fun b H4=>if b=true then tp D (vs++rst js σ) H4 R else R H4)
  (hd:∀D H2,H1 D=none->Pv D n H2->J.stop n H2/\Q (.ref D) H2):fM o0 Z js wi tc tp σ H Q:=by
 refine hw _ fun D fD=>⟨fun i m H2=>An3 (m=n - i) (i<=n) (Pv D i H2),⟨n,rfl,zero_le _,h0 D fD⟩,?_⟩;rintro i m H2 ⟨rfl,hi,p⟩;by_cases lt:i<n
 ·obtain⟨g,st⟩:=hs D i H2 fD lt p;exact .inr ⟨g,fun v H3 y=>st v H3 y _ fun H5 p5=>⟨n - (i+1),by lia,rfl,lt,p5⟩⟩
 ·have e:i=n:=by lia
  subst e;exact .inl (hd D H2 fD p)
theorem hV (h:H a=some (.lst xs))(lt:i<xs.length):(Itl K a).go i H:=⟨xs,xs[i],SqL.of h,List.getElem?_eq_getElem lt⟩
theorem fE (h:H a=some (.lst xs))(y:(Itl K a).yld i H v H'):H'=H/\xs[i]?=some v:=⟨y.1,y.2 xs (SqL.of h)⟩
theorem d9 (h:H a=some (.lst xs)):(Itl K a).stop xs.length H:=⟨xs,SqL.of h,aD _⟩
end L2
namespace L2
open PySem PySem.Spec PyProof.Rows
section
variable {n bk:St->Hp->Prop}{c:TT}{W:Nat->St->Hp->Prop}{m:Nat}{Q:VK}
end
section
variable {a b:Expr}{rest:List Expr}{tb:TE}
end
theorem xA:bootBuiltins "zip" = some (.type "zip"):=by decide +kernel
section
variable {D:Addr}{R:Hp->Prop}{tk:TE}
def KPl (D:Addr)(R:Hp->Prop)(y:V)(H5:Hp):Prop:=∃ys,H5 D=some (.lst ys)/\ys.length<sizeLine/\R (upd H5 D (.lst (ys++[y])))
theorem Aa (h:te σ H (KPl D R)):pL te D σ H R:=h
end
theorem qU {l}(e:X.K=K)(hl:PE X l tl):PI X tg l (uS K tl):=e▸cZ hl
section
variable {Q:VK}{tl:TO}{r:V->Option Int->Option Int->Hp->VK->Prop}{R:Option Int->Hp->Prop}{z:Int}
theorem z_ (h:te σ H fun x H1=>tl σ H1 fun l H2=>th σ H2 fun u H3=>r x l u H3 Q):tSl r te tl th σ H Q:=h
theorem yx (h:R none H):nX σ H R:=h
def KPt (R:Option Int->Hp->Prop)(x:V)(H:Hp):Prop:=∃i,x=.int i/\R (some i) H
theorem vQ (h:te σ H (KPt R)):vp te σ H R:=h
theorem Ao (h:R (some z) H):KPt R (.int z) H:=⟨z,rfl,h⟩
theorem zg (h0:0<=z):lB xs (some z) none=xs.drop z.toNat:=by
 unfold lB;rw[HT.sIx_none,show z=((z.toNat:Nat):Int) by lia,HT.sIx_nat,Int.toNat_natCast,take_of_length_le (by rw[bf];lia)];rcases Nat.le_total z.toNat xs.length with l|l
 ·rw[min_eq_left l]
 ·rw[Nat.min_eq_right l,List.drop_length,List.drop_of_length_le l]
theorem zf (h0:0<=z):lB xs none (some z)=xs.take z.toNat:=by
 unfold lB;rw[HT.sIx_none,show z=((z.toNat:Nat):Int) by lia,HT.sIx_nat,Int.toNat_natCast,drop_zero,Nat.sub_zero];rcases Nat.le_total z.toNat xs.length with l|l
 ·rw[min_eq_left l]
 ·rw[Nat.min_eq_right l,take_length,take_of_length_le l]
theorem qP (h:H a=some (.lst xs))(h0:0<=z)(q:∀p,H p=none->Q (.ref p) (upd H p (.lst (xs.drop z.toNat)))):yF K (.ref a) (some z) none H Q:=⟨a,xs,rfl,SqL.of h,fun p f=>by rw[zg h0];exact q p f⟩
theorem uh (h:H a=some (.lst xs))(h0:0<=z)(q:∀p,H p=none->Q (.ref p) (upd H p (.lst (xs.take z.toNat)))):yF K (.ref a) none (some z) H Q:=⟨a,xs,rfl,SqL.of h,fun p f=>by rw[zf h0];exact q p f⟩
end
def KZL (K:Frag)(R:It->Hp->Prop)(vs:List V)(H1:Hp):Prop:=Ex2 fun a b=>An4 (vs=[.ref a,.ref b]) (∃xs,SqL K H1 a xs) (∃ys,SqL K H1 b ys) (R (ItZ K a b) H1)
section
variable {ta:TA}{R:It->Hp->Prop}
theorem z5 (h:ta σ H (KZL K R)):wX K ta σ H R:=h
end
theorem comp_in {tp:Addr->St->Hp->(Hp->Prop)->Prop}{Q}(A:It->Hp->Prop)(hw:∀R:It->Hp->Prop,(∀J H1,A J H1->R J H1)->wi σ H R)
  (h:∀J H1,A J H1->fM o0 Z js (fun _ H R=>R J H) tc tp σ H1 Q):fM o0 Z js wi tc tp σ H Q:=hw _ h
end L2
namespace L2
open PySem PyProof PyProof.Rows
section
variable {TI TO S:Addr}{R:PySem.Fin->Shared->Prop}
end
section
variable {TI TO:Addr}
end
section
end
section
variable {a b:Expr}{t:TA}
end
section
end
end L2
namespace L2
open PySem PySem.Spec PyProof PyProof.Rows
section
end
end L2
namespace L2
open PySem PyProof.Rows
structure SOrd (M:Model)(A:Around)(E:Value->Shared->Prop)(s:Shared) where
 kd:SortKind
 blt:Keyed->Keyed->Bool
 ok:Keyed->Prop
 run:∀{x y:Keyed} {st:SortSt} {Q:Option Bool->SortSt->Prop},ok x->ok y->kindOf st=kd->Q (some (blt x y)) st->wpS M A E s (lt' x y) Q st
 asym:∀{x y:Keyed},blt x y=true->blt y x=false
 neg:∀{x z:Keyed} (y:Keyed),blt x z=true->blt x y=true\/blt y z=true
section
variable (O:SOrd M A E s)
def SOrd.le (x y:Keyed):Prop:=O.blt y x=false
theorem SOrd.le_trans {O:SOrd M A E s}{x y z:Keyed}(h1:O.le x y)(h2:O.le y z):O.le x z:=by
 cases c:O.blt z x with
 | false=>exact c
 | true=>
  rcases O.neg y c with h|h
  ·have:=h2;unfold SOrd.le at this;rw[h] at this;cases this
  ·have:=h1;unfold SOrd.le at this;rw[h] at this;cases this
theorem SOrd.le_refl {O:SOrd M A E s}(x:Keyed):O.le x x:=by
 cases c:O.blt x x with
 | false=>exact c
 | true=>have:=O.asym c;rw[c] at this;cases this
theorem SOrd.lt_le {O:SOrd M A E s}{x y:Keyed}(h:O.blt x y=true):O.le x y:=O.asym h
theorem SOrd.lt_of {O:SOrd M A E s}{x y z:Keyed}(h1:O.blt x y=true)(h2:O.le y z):O.blt x z=true:=by
 rcases O.neg z h1 with h|h
 ·exact h
 ·have:=h2;unfold SOrd.le at this;rw[h] at this;cases this
theorem SOrd.le_of {O:SOrd M A E s}{x y z:Keyed}(h1:O.le x y)(h2:O.blt y z=true):O.blt x z=true:=by
 rcases O.neg x h2 with h|h
 ·have:=h1;unfold SOrd.le at this;rw[h] at this;cases this
 ·exact h
theorem bd {arr:Array Keyed}{p:Keyed}{Q:Keyed->SortSt->Prop}{st:SortSt}(h:arr[i]?=some p)(q:Q p st):wpS M A E s (elem' arr i) Q st:=by
 rw[elem'_eq,h];exact wpS_pure q
def db (left:Bool)(key:Keyed)(p:Keyed):Bool:=if left=true then O.blt p key else !O.blt key p
def qD (left:Bool)(key:Keyed)(arr:Array Keyed)(j:Nat):StateT SortSt Sem (Option Bool):=elem' arr j >>= fun x=>if left=true then lt' x key else lt' key x >>= fun r=>pure (r.map fun z=>!z)
theorem su {left}{key p:Keyed}{arr:Array Keyed}{Q:Option Bool->SortSt->Prop}{st:SortSt}(hk:kindOf st=O.kd)(ok:O.ok key)(h:arr[j]?=some p)(okp:O.ok p)(q:Q (some (db O left key p)) st):wpS M A E s (qD left key arr j) Q st:=by
 unfold qD;unfold db at q;refine wpS_bind (bd h ?_);by_cases hl:left=true
 ·rw[ak hl] at q ⊢;exact O.run okp ok hk q
 ·rw[ah hl] at q ⊢;exact wpS_bind (O.run ok okp hk (wpS_pure q))
def gal:Bool->Keyed->Array Keyed->Nat->Nat->Nat->StateT SortSt Sem (Option Nat):=sortPriv% PySem.Builtin.gallop
theorem qc {b:Nat->Bool}{Q:Option (Option Nat)×Nat×Nat->SortSt->Prop}{st:SortSt}{f:Nat->Option (Option Nat)×Nat×Nat->StateT SortSt Sem (ForInStep (Option (Option Nat)×Nat×Nat))}
  (mono:∀i j,i<=j->j<n->b j=true->b i=true)
  (f0:∀x lo hi R,lo ≥ hi->R (.done (none,lo,hi)) st->wpS M A E s (f x (none,lo,hi)) R st)
  (f1:∀x lo hi R,lo<hi->hi<=n->(b (lo+(hi - lo) / 2)=true->R (.yield (none,lo+(hi - lo) / 2+1,hi)) st)->(b (lo+(hi - lo) / 2)=false->R (.yield (none,lo,lo+(hi - lo) / 2)) st)->wpS M A E s (f x (none,lo,hi)) R st)
  (h1:lo<=hi) (h2:hi<=n) (hlo:∀i,i<lo->b i=true) (hhi:∀i,hi<=i->i<n->b i=false)
  (q:∀k,k<=n->(∀i,i<k->b i=true)->(∀i,k<=i->i<n->b i=false)->Q (none,k,k) st):wpS M A E s (forIn [0:n] (none,lo,hi) f) Q st:=by
 refine wpS_mono (wpS_forRange (I:=fun x c st'=>st'=st/\∃l r,c=(none,l,r)/\l<=r/\r<=n/\r - l<=n - x/\(∀i,i<l->b i=true)/\∀i,r<=i->i<n->b i=false) (Q:=fun c st'=>st'=st/\∃k,c=(none,k,k)/\k<=n/\(∀i,i<k->b i=true)/\∀i,k<=i->i<n->b i=false) ?_ ?_ ⟨rfl,lo,hi,rfl,h1,h2,by omega,hlo,hhi⟩) ?_
 ·rintro x c st' _ hx ⟨rfl,l,r,rfl,a1,a2,a3,a4,a5⟩;by_cases hc:l ≥ r
  ·have e:l=r:=by omega
   subst e;exact f0 x l l _ hc ⟨rfl,l,rfl,a2,a4,a5⟩
  ·refine f1 x l r _ (by omega) a2 (fun hb=>⟨rfl,_,_,rfl,by omega,a2,by omega,fun i hi=>mono i _ (by omega) (by omega) hb,a5⟩) (fun hb=>⟨rfl,_,_,rfl,by omega,by omega,by omega,a4,fun i h1 h2=>?_⟩);cases c:b i with
   | false=>rfl
   | true=>rw[mono _ i h1 h2 c] at hb;cases hb
 ·rintro c st' ⟨rfl,l,r,rfl,a1,a2,a3,a4,a5⟩;have e:l=r:=by omega
  subst e;exact⟨rfl,l,rfl,a2,a4,a5⟩
 ·rintro c st' ⟨rfl,k,rfl,a1,a2,a3⟩;exact q k a1 a2 a3
theorem iH {left}{key:Keyed}{arr:Array Keyed}{base hint:Nat}{Q:Option Nat->SortSt->Prop}{st:SortSt}{at':Nat->Keyed}(hk:kindOf st=O.kd)(ok:O.ok key)(ha:∀i,i<n->arr[base+i]?=some (at' i)/\O.ok (at' i))(hh:hint<n)
  (mono:∀i j,i<=j->j<n->db O left key (at' j)=true->db O left key (at' i)=true)
  (q:∀k,k<=n->(∀i,i<k->db O left key (at' i)=true)->(∀i,k<=i->i<n->db O left key (at' i)=false)->Q (some k) st):wpS M A E s (gal left key arr base n hint) Q st:=by
 have run:∀(i:Nat) (R:Option Bool->SortSt->Prop),i<n->R (some (db O left key (at' i))) st->wpS M A E s (qD left key arr (base+i)) R st:=fun i R hi r=>su O hk ok (ha i hi).1 (ha i hi).2 r;generalize hb:(fun i=>db O left key (at' i))=b at *;have eb:∀i,db O left key (at' i)=b i:=fun i=>by rw[<- hb]
 simp only[eb] at mono q run
 delta gal
 refine wpS_bind (run hint _ hh ?_);dsimp only;by_cases hb0:b hint=true
 ·rw[ak hb0];refine wpS_bind (wpS_mono (wpS_forRange (I:=fun x c st'=>st'=st/\∃l o,c=(none,l,o)/\l<o/\x+1<=o/\hint+l<n/\b (hint+l)=true) (Q:=fun c st'=>st'=st/\∃l o,c=(none,l,o)/\l<o/\hint+l<n/\b (hint+l)=true/\(n - hint<=o\/b (hint+o)=false)) ?_ ?_ ⟨rfl,0,1,rfl,by omega,by omega,by omega,hb0⟩) ?_)
  ·rintro x c st' _ hx ⟨rfl,l,o,rfl,a1,a2,a3,a4⟩;dsimp only;by_cases hc:o ≥ n - hint
   ·rw[ak hc];exact wpS_pure ⟨rfl,l,o,rfl,a1,a3,a4,.inl hc⟩
   ·rw[ah hc];refine wpS_bind (run (hint+o) _ (by omega) ?_);dsimp only;cases c:b (hint+o) with
    | false=>exact wpS_pure ⟨rfl,l,o,rfl,a1,a3,a4,.inr c⟩
    | true=>exact wpS_pure ⟨rfl,o,2 * o+1,rfl,by omega,by omega,by omega,c⟩
  ·rintro c st' ⟨rfl,l,o,rfl,a1,a2,a3,a4⟩;exact⟨rfl,l,o,rfl,a1,a3,a4,.inl (by omega)⟩
  ·rintro c st' ⟨rfl,l,o,rfl,a1,a3,a4,a5⟩;dsimp only;refine wpS_bind (qc (b:=b) mono ?_ ?_ (by omega) (by omega) (fun i hi=>mono i _ (by omega) a3 a4) ?_ ?_)
   ·intro x lo hi R hge r;dsimp only;rw[ak hge];exact wpS_pure r
   ·intro x lo hi R hlt hn r1 r2;dsimp only;rw[ah (by omega)];refine wpS_bind (run (lo+(hi - lo) / 2) _ (by omega) ?_);dsimp only;cases c:b (lo+(hi - lo) / 2) with
    | false=>exact wpS_pure (r2 c)
    | true=>exact wpS_pure (r1 c)
   ·intro i h1 h2;rcases a5 with h|h
    ·omega
    ·cases c:b i with
     | false=>rfl
     | true=>rw[mono (hint+o) i (by omega) h2 c] at h;cases h
   ·intro k k1 k2 k3;exact wpS_pure (q k k1 k2 k3)
 ·have hb1:b hint=false:=by cases c:b hint with|false=>rfl|true=>exact aY c hb0
  rw[ah hb0];refine wpS_bind (wpS_mono (wpS_forRange (I:=fun x c st'=>st'=st/\∃l o,c=(none,l,o)/\l<o/\x+1<=o/\l<=hint/\b (hint - l)=false) (Q:=fun c st'=>st'=st/\∃l o,c=(none,l,o)/\l<o/\l<=hint/\b (hint - l)=false/\(hint+1<=o\/o<=hint/\b (hint - o)=true)) ?_ ?_ ⟨rfl,0,1,rfl,by omega,by omega,by omega,hb1⟩) ?_)
  ·rintro x c st' _ hx ⟨rfl,l,o,rfl,a1,a2,a3,a4⟩;dsimp only;by_cases hc:o ≥ hint+1
   ·rw[ak hc];exact wpS_pure ⟨rfl,l,o,rfl,a1,a3,a4,.inl hc⟩
   ·rw[ah hc];refine wpS_bind (run (hint - o) _ (by omega) ?_);dsimp only;cases c:b (hint - o) with
    | false=>exact wpS_pure ⟨rfl,o,2 * o+1,rfl,by omega,by omega,by omega,c⟩
    | true=>exact wpS_pure ⟨rfl,l,o,rfl,a1,a3,a4,.inr ⟨by omega,c⟩⟩
  ·rintro c st' ⟨rfl,l,o,rfl,a1,a2,a3,a4⟩;exact⟨rfl,l,o,rfl,a1,a3,a4,.inl (by omega)⟩
  ·rintro c st' ⟨rfl,l,o,rfl,a1,a3,a4,a5⟩;dsimp only;refine wpS_bind (qc (b:=b) mono ?_ ?_ (by omega) (by omega) (fun i hi=>?_) (fun i h1 h2=>?_) ?_)
   ·intro x lo hi R hge r;dsimp only;rw[ak hge];exact wpS_pure r
   ·intro x lo hi R hlt hn r1 r2;dsimp only;rw[ah (by omega)];refine wpS_bind (run (lo+(hi - lo) / 2) _ (by omega) ?_);dsimp only;cases c:b (lo+(hi - lo) / 2) with
    | false=>exact wpS_pure (r2 c)
    | true=>exact wpS_pure (r1 c)
   ·rcases a5 with h|⟨h,h'⟩
    ·omega
    ·exact mono i _ (by omega) (by omega) h'
   ·cases c:b i with
    | false=>rfl
    | true=>rw[mono (hint - l) i (by omega) h2 c] at a4;cases a4
   ·intro k k1 k2 k3;exact wpS_pure (q k k1 k2 k3)
end
def kat (a:Array Keyed)(i:Nat):Keyed:=(a[i]?).getD (.none,.none)
theorem bp {a:Array Keyed}(h:i<a.size):a[i]?=some (kat a i):=by
 unfold kat
 rw[getElem?_pos a i h];rfl
theorem cS {a:Array Keyed}(h:i<a.size):a.toList[i]?=some (kat a i):=by
 rw[getElem?_toList];exact bp h
theorem mF {a:Array Keyed}(h:i<a.size):a.toList.drop i=kat a i::a.toList.drop (i+1):=by
 have hl:i<a.toList.length:=by simpa using h
 rw[List.drop_eq_getElem_cons hl];congr 1;have:=cS h;rw[List.getElem?_eq_getElem hl] at this;exact aG this
theorem gj {a:Array Keyed}{z:Keyed}(h:z∈a.toList.drop i):∃j,i<=j/\j<a.size/\z=kat a j:=by
 obtain⟨n,hn,e⟩:=getElem_of_mem h;rw[bf,length_toList] at hn;refine⟨i+n,by omega,by omega,?_⟩;rw[getElem_drop] at e;have:=cS (a:=a) (i:=i+n) (by omega);rw[List.getElem?_eq_getElem (by rw[length_toList];omega)] at this;rw[<- e];exact aG this
theorem eY {a:Array Keyed}:(a.extract i j).toList=(a.toList.drop i).take (j - i):=by simp
section
variable (O:SOrd M A E s)
def Sr (a:Array Keyed):Prop:=∀i j,i<=j->j<a.size->O.le (kat a i) (kat a j)
theorem Sr.pw {O:SOrd M A E s}{a:Array Keyed}(h:Sr O a)(i:Nat):(a.toList.drop i).Pairwise O.le:=by
 rw[pairwise_iff_getElem];intro p q hp hq hpq;rw[bf,length_toList] at hp hq;rw[getElem_drop,getElem_drop];have e1:=cS (a:=a) (i:=i+p) (by omega);have e2:=cS (a:=a) (i:=i+q) (by omega);rw[List.getElem?_eq_getElem (by rw[length_toList];omega)] at e1 e2;rw[aG e1,aG e2];exact h _ _ (by omega) (by omega)
structure MI (a b out:Array Keyed)(i j:Nat):Prop where
 perm:(out.toList++a.toList.drop i++b.toList.drop j).Perm (a.toList++b.toList)
 so:out.toList.Pairwise O.le
 la:∀x∈out.toList,∀p,i<=p->p<a.size->O.le x (kat a p)
 lb:∀x∈out.toList,∀p,j<=p->p<b.size->O.le x (kat b p)
variable {O}{a b out:Array Keyed}{k:Nat}
theorem MI.segA (m:MI O a b out i j)(sa:Sr O a)(hk:i+k<=a.size)(le:∀p,i<=p->p<i+k->∀q,j<=q->q<b.size->O.le (kat a p) (kat b q)){out':Array Keyed}(e:out'.toList=out.toList++(a.toList.drop i).take k):MI O a b out' (i+k) j:=by
 have hm:∀x∈(a.toList.drop i).take k,∃p,i<=p/\p<i+k/\x=kat a p:=fun x hx=>by
  obtain⟨n,hn,ex⟩:=getElem_of_mem hx;rw[aF,bf,length_toList] at hn;refine⟨i+n,by omega,by omega,?_⟩;rw[getElem_take,getElem_drop] at ex;have:=cS (a:=a) (i:=i+n) (by omega);rw[List.getElem?_eq_getElem (by rw[length_toList];omega)] at this;rw[<- ex];exact aG this
 have sp:a.toList.drop i=(a.toList.drop i).take k++a.toList.drop (i+k):=by rw[<- List.drop_drop];exact(take_append_drop k _).symm
 refine⟨?_,?_,fun x hx p h1 h2=>?_,fun x hx p h1 h2=>?_⟩
 ·rw[e];have:=m.perm;rw[sp,<- az] at this;exact this
 ·rw[e,pairwise_append];refine⟨m.so,(sa.pw i).sublist (take_sublist _ _),fun x hx y hy=>?_⟩;obtain⟨p,h1,h2,rfl⟩:=hm y hy;exact m.la x hx p h1 (by omega)
 ·rw[e] at hx;rcases ba.mp hx with h|h
  ·exact m.la x h p (by omega) h2
  ·obtain⟨r,h3,h4,rfl⟩:=hm x h;exact sa r p (by omega) h2
 ·rw[e] at hx;rcases ba.mp hx with h|h
  ·exact m.lb x h p h1 h2
  ·obtain⟨r,h3,h4,rfl⟩:=hm x h;exact le r h3 h4 p h1 h2
theorem MI.segB (m:MI O a b out i j)(sb:Sr O b)(hk:j+k<=b.size)(le:∀p,j<=p->p<j+k->∀q,i<=q->q<a.size->O.le (kat b p) (kat a q)){out':Array Keyed}(e:out'.toList=out.toList++(b.toList.drop j).take k):MI O a b out' i (j+k):=by
 have hm:∀x∈(b.toList.drop j).take k,∃p,j<=p/\p<j+k/\x=kat b p:=fun x hx=>by
  obtain⟨n,hn,ex⟩:=getElem_of_mem hx;rw[aF,bf,length_toList] at hn;refine⟨j+n,by omega,by omega,?_⟩;rw[getElem_take,getElem_drop] at ex;have:=cS (a:=b) (i:=j+n) (by omega);rw[List.getElem?_eq_getElem (by rw[length_toList];omega)] at this;rw[<- ex];exact aG this
 have sp:b.toList.drop j=(b.toList.drop j).take k++b.toList.drop (j+k):=by rw[<- List.drop_drop];exact(take_append_drop k _).symm
 refine⟨?_,?_,fun x hx p h1 h2=>?_,fun x hx p h1 h2=>?_⟩
 ·rw[e];have:=m.perm;rw[sp,<- az] at this;refine List.Perm.trans (List.Perm.append_right _ ?_) this;rw[az,az];exact List.Perm.append_left _ perm_append_comm
 ·rw[e,pairwise_append];refine⟨m.so,(sb.pw j).sublist (take_sublist _ _),fun x hx y hy=>?_⟩;obtain⟨p,h1,h2,rfl⟩:=hm y hy;exact m.lb x hx p h1 (by omega)
 ·rw[e] at hx;rcases ba.mp hx with h|h
  ·exact m.la x h p h1 h2
  ·obtain⟨r,h3,h4,rfl⟩:=hm x h;exact le r h3 h4 p h1 h2
 ·rw[e] at hx;rcases ba.mp hx with h|h
  ·exact m.lb x h p (by omega) h2
  ·obtain⟨r,h3,h4,rfl⟩:=hm x h;exact sb r p (by omega) h2
theorem lJ {c:Array Keyed}(h:n<c.size):(c.toList.drop n).take 1=[kat c n]:=by rw[mF h];rfl
theorem MI.putA (m:MI O a b out i j)(sa:Sr O a)(hk:i<a.size)(le:∀q,j<=q->q<b.size->O.le (kat a i) (kat b q)):MI O a b (out.push (kat a i)) (i+1) j:=
 m.segA (k:=1) sa hk (fun p h1 h2 q h3 h4=>by have this:p=i:=(by omega);subst this;exact le q h3 h4) (by rw[lJ hk];simp)
theorem MI.putB (m:MI O a b out i j)(sb:Sr O b)(hk:j<b.size)(le:∀q,i<=q->q<a.size->O.le (kat b j) (kat a q)):MI O a b (out.push (kat b j)) i (j+1):=
 m.segB (k:=1) sb hk (fun p h1 h2 q h3 h4=>by have this:p=j:=(by omega);subst this;exact le q h3 h4) (by rw[lJ hk];simp)
theorem MI.extA (m:MI O a b out i j)(sa:Sr O a)(hk:i+k<=a.size)(le:∀p,i<=p->p<i+k->∀q,j<=q->q<b.size->O.le (kat a p) (kat b q)):MI O a b (out++a.extract i (i+k)) (i+k) j:=
 m.segA sa hk le (by rw[toList_append,eY,show i+k - i=k by omega])
theorem MI.extB (m:MI O a b out i j)(sb:Sr O b)(hk:j+k<=b.size)(le:∀p,j<=p->p<j+k->∀q,i<=q->q<a.size->O.le (kat b p) (kat a q)):MI O a b (out++b.extract j (j+k)) i (j+k):=
 m.segB sb hk le (by rw[toList_append,eY,show j+k - j=k by omega])
variable (O) in
def Res (a b r:Array Keyed):Prop:=r.toList.Pairwise O.le/\r.toList.Perm (a.toList++b.toList)
theorem fR {c:Array Keyed}:(c.extract n c.size).toList=c.toList.drop n:=by
 rw[eY];exact take_of_length_le (by rw[bf,length_toList];omega)
theorem MI.fin1 (m:MI O a b out i j)(sa:Sr O a)(sb:Sr O b)(h:a.size<=i\/b.size<=j):Res O a b (out++a.extract i a.size++b.extract j b.size):=by
 unfold Res;rw[toList_append,toList_append,fR,fR];refine⟨?_,m.perm⟩;rw[pairwise_append,pairwise_append];refine⟨⟨m.so,sa.pw i,fun x hx y hy=>?_⟩,sb.pw j,fun x hx y hy=>?_⟩
 ·obtain⟨p,h1,h2,rfl⟩:=gj hy;exact m.la x hx p h1 h2
 ·obtain⟨p,h1,h2,rfl⟩:=gj hy;rcases ba.mp hx with hx|hx
  ·exact m.lb x hx p h1 h2
  ·obtain⟨r,h3,h4,rfl⟩:=gj hx;omega
theorem MI.fin2 (m:MI O a b out i j)(sa:Sr O a)(sb:Sr O b)(h:i+1=a.size)(hl:∀q,q<b.size->O.le (kat b q) (kat a i)):Res O a b (out++b.extract j b.size++a.extract i a.size):=by
 unfold Res;rw[toList_append,toList_append,fR,fR];refine⟨?_,?_⟩
 ·rw[pairwise_append,pairwise_append];refine⟨⟨m.so,sb.pw j,fun x hx y hy=>?_⟩,sa.pw i,fun x hx y hy=>?_⟩
  ·obtain⟨p,h1,h2,rfl⟩:=gj hy;exact m.lb x hx p h1 h2
  ·obtain⟨p,h1,h2,rfl⟩:=gj hy;rcases ba.mp hx with hx|hx
   ·exact m.la x hx p h1 h2
   ·obtain⟨r,h3,h4,rfl⟩:=gj hx;have:p=i:=by omega
    subst this;exact hl r h4
 ·refine List.Perm.trans ?_ m.perm;rw[az,az];exact List.Perm.append_left _ perm_append_comm
end
def mlo:Array Keyed->Array Keyed->StateT SortSt Sem (Array Keyed):=sortPriv% PySem.Builtin.mergeLo
def Gs (st st':SortSt):Prop:=∃g,st'=SortSt.mk' (kindOf st) (arrOf st) (pendingOf st) g (failedOf st)
theorem Gs.refl (st:SortSt):Gs st st:=⟨gallopOf st,rfl⟩
theorem Gs.kind {st st':SortSt}(h:Gs st st'):kindOf st'=kindOf st:=by obtain⟨g,rfl⟩:=h;rfl
theorem Gs.set {st st':SortSt}(h:Gs st st')(g:Nat):Gs st (SortSt.mk' (kindOf st') (arrOf st') (pendingOf st') g (failedOf st')):=by obtain⟨g',rfl⟩:=h;exact⟨g,rfl⟩
section
variable {O:SOrd M A E s}{a b:Array Keyed}
theorem zO {st:SortSt}{key:Keyed}{Q:Option Nat->SortSt->Prop}(hk:kindOf st=O.kd)(oa:∀p,p<a.size->O.ok (kat a p))(ok:O.ok key)(sa:Sr O a)(hi:i<a.size)
  (q:∀k,i+k<=a.size->(∀p,i<=p->p<i+k->O.le (kat a p) key)->(∀p,i+k<=p->p<a.size->O.blt key (kat a p)=true)->Q (some k) st):wpS M A E s (gal false key a i (a.size - i) 0) Q st:=by
 refine iH O (at':=fun p=>kat a (i+p)) hk ok (fun p hp=>⟨bp (by omega),oa _ (by omega)⟩) (by omega) (fun p r h1 h2 h3=>?_) fun k h1 h2 h3=>q k (by omega) (fun p h4 h5=>?_) (fun p h4 h5=>?_)
 ·unfold db at h3 ⊢;rw[ah aj] at h3 ⊢;have h4:O.le (kat a (i+r)) key:=by unfold SOrd.le;simpa using h3
  have h5:O.le (kat a (i+p)) key:=O.le_trans (sa _ _ (by omega) (by omega)) h4;unfold SOrd.le at h5;rw[h5];rfl
 ·have:=h2 (p - i) (by omega);unfold db at this;rw[ah aj,show i+(p - i)=p by omega] at this;unfold SOrd.le;simpa using this
 ·have:=h3 (p - i) (by omega) (by omega);unfold db at this;rw[ah aj,show i+(p - i)=p by omega] at this;simpa using this
theorem xS {st:SortSt}{key:Keyed}{Q:Option Nat->SortSt->Prop}(hk:kindOf st=O.kd)(ob:∀p,p<b.size->O.ok (kat b p))(ok:O.ok key)(sb:Sr O b)(hi:i<b.size)
  (q:∀k,i+k<=b.size->(∀p,i<=p->p<i+k->O.blt (kat b p) key=true)->(∀p,i+k<=p->p<b.size->O.le key (kat b p))->Q (some k) st):wpS M A E s (gal true key b i (b.size - i) 0) Q st:=by
 refine iH O (at':=fun p=>kat b (i+p)) hk ok (fun p hp=>⟨bp (by omega),ob _ (by omega)⟩) (by omega) (fun p r h1 h2 h3=>?_) fun k h1 h2 h3=>q k (by omega) (fun p h4 h5=>?_) (fun p h4 h5=>?_)
 ·unfold db at h3 ⊢;rw[ak rfl] at h3 ⊢;exact O.le_of (sb _ _ (by omega) (by omega)) h3
 ·have:=h2 (p - i) (by omega);unfold db at this;rw[ak rfl,show i+(p - i)=p by omega] at this;exact this
 ·have:=h3 (p - i) (by omega) (by omega);unfold db at this;rw[ak rfl,show i+(p - i)=p by omega] at this;exact this
theorem wJ {Q:Array Keyed->SortSt->Prop}{st:SortSt}(hk:kindOf st=O.kd)(oa:∀p,p<a.size->O.ok (kat a p))(ob:∀p,p<b.size->O.ok (kat b p))(sa:Sr O a)(sb:Sr O b)(h0a:0<a.size)(h0b:0<b.size)
  (hf:O.blt (kat b 0) (kat a 0)=true) (hl:∀p,p<b.size->O.blt (kat b p) (kat a (a.size - 1))=true) (q:∀r st',Gs st st'->Res O a b r->Q r st'):wpS M A E s (mlo a b) Q st:=by
 have fa:∀i,i+1=a.size->∀p,p<b.size->O.le (kat b p) (kat a i):=fun i hi p hp=>O.lt_le (by have:=hl p hp;rwa[show a.size - 1=i by omega] at this)
 delta mlo
 refine wpS_bind (wpS_lift (wpAny_rule ⟨rfl,?_⟩));dsimp only;refine wpS_bind (bd (bp h0b) ?_)
 have m0:MI O a b #[kat b 0] 0 1:=by
  refine⟨?_,List.pairwise_singleton ..,fun x hx p h1 h2=>?_,fun x hx p h1 h2=>?_⟩
  ·rw[drop_zero];have e:b.toList=kat b 0::b.toList.drop 1:=by have:=mF h0b;rwa[drop_zero] at this
   have e2:(a.toList++b.toList).Perm (kat b 0::(a.toList++b.toList.drop 1)):=by
    rw[e];exact List.perm_middle
   exact e2.symm
  ·rw[a_.mp (show x∈[kat b 0] from hx)];exact O.le_trans (O.lt_le hf) (sa 0 p (zero_le _) h2)
  ·rw[a_.mp (show x∈[kat b 0] from hx)];exact sb 0 p (zero_le _) h2
 by_cases c1:1=b.size
 ·rw[ak (by rw[<- c1];rfl)];exact wpS_pure (q _ st (Gs.refl st) (m0.fin1 sa sb (.inr (by omega))))
 rw[ah (by simpa using c1)];by_cases c2:0+1=a.size
 ·rw[ak (by rw[<- c2];rfl)];exact wpS_pure (q _ st (Gs.refl st) (m0.fin2 sa sb c2 (fa 0 c2)))
 rw[ah (by simpa using c2)];refine wpS_bind (wpS_get ?_);refine wpS_bind (wpS_mono (wpS_forRange (I:=fun x c st'=>Gs st st'/\∃out i j g,c=(none,out,i,j,g)/\MI O a b out i j/\i+1<a.size/\j<b.size/\x+1<=i+j) (Q:=fun c st'=>Gs st st'/\∃r rest,c=(some r,rest)/\Res O a b r) ?step ?fin ⟨Gs.refl st,_,_,_,_,rfl,m0,by omega,by omega,by omega⟩) ?post)
 case post=>
  rintro c st' ⟨g,r,rest,rfl,res⟩;exact wpS_pure (q r st' g res)
 case fin=>
  rintro c st' ⟨_,out,i,j,g,rfl,_,h1,h2,h3⟩
  exfalso
  omega
 case step=>
  rintro x c st1 _ hx ⟨gs1,out,i,j,g,rfl,m1,i1,j1,xs⟩;dsimp only;have hk1:kindOf st1=O.kd:=gs1.kind.trans hk
  refine wpS_bind (wpS_mono (wpS_forRange (I:=fun y c st'=>st'=st1/\∃out' i' j' ac bc,c=(none,out',i',j',ac,bc)/\MI O a b out' i' j'/\i'+1<a.size/\j'<b.size/\y+(i+j)<=i'+j') (Q:=fun c st'=>st'=st1/\((∃r rest,c=(some r,rest)/\Res O a b r)\/∃out' i' j' ac bc,c=(none,out',i',j',ac,bc)/\MI O a b out' i' j'/\i'+1<a.size/\j'<b.size/\i+j<i'+j')) ?istep ?ifin ⟨rfl,out,i,j,0,0,rfl,m1,i1,j1,by omega⟩) ?ipost)
  case ifin=>
   rintro c st' ⟨rfl,out',i',j',ac,bc,rfl,m2,i2,j2,ys⟩;exact⟨rfl,.inr ⟨out',i',j',ac,bc,rfl,m2,i2,j2,by omega⟩⟩
  case istep=>
   rintro y c st' _ hy ⟨rfl,out',i',j',ac,bc,rfl,m2,i2,j2,ys⟩;dsimp only;refine wpS_bind (bd (bp j2) (wpS_bind (bd (bp (show i'<a.size by omega)) (wpS_bind (O.run (ob _ j2) (oa _ (by omega)) hk1 ?_)))));dsimp only;by_cases hb:O.blt (kat b j') (kat a i')=true
   ·rw[ak hb];refine wpS_bind (bd (bp j2) ?_);have m3:=m2.putB sb j2 (fun p h1 h2=>O.lt_le (O.lt_of hb (sa _ _ h1 h2)));by_cases e1:j'+1=b.size
    ·rw[ak (by rw[e1];simp)];exact wpS_pure ⟨rfl,.inl ⟨_,_,rfl,m3.fin1 sa sb (.inr (by omega))⟩⟩
    ·rw[ah (by simpa using e1)];split
     ·exact wpS_pure ⟨rfl,.inr ⟨_,_,_,_,_,rfl,m3,i2,by omega,by omega⟩⟩
     ·exact wpS_pure ⟨rfl,_,_,_,_,_,rfl,m3,i2,by omega,by omega⟩
   ·rw[ah hb]
    have hb':O.le (kat a i') (kat b j'):=by
     unfold SOrd.le;cases c:O.blt (kat b j') (kat a i') with
     | false=>rfl
     | true=>exact aY c hb
    refine wpS_bind (bd (bp (show i'<a.size by omega)) ?_);have m3:=m2.putA sa (by omega) (fun p h1 h2=>O.le_trans hb' (sb _ _ h1 h2));by_cases e1:i'+1+1=a.size
    ·rw[ak (by rw[e1];simp)];exact wpS_pure ⟨rfl,.inl ⟨_,_,rfl,m3.fin2 sa sb e1 (fa _ e1)⟩⟩
    ·rw[ah (by simpa using e1)];split
     ·exact wpS_pure ⟨rfl,.inr ⟨_,_,_,_,_,rfl,m3,by omega,j2,by omega⟩⟩
     ·exact wpS_pure ⟨rfl,_,_,_,_,_,rfl,m3,by omega,j2,by omega⟩
  case ipost=>
  rintro c st' ⟨rfl,⟨r,rest,rfl,res⟩|⟨out',i',j',ac,bc,rfl,m2,i2,j2,ys⟩⟩
  ·exact wpS_pure ⟨gs1,r,_,rfl,res⟩
  dsimp only;refine wpS_bind (wpS_lift (wpAny_rule ⟨rfl,?_⟩))
  refine wpS_bind (wpS_mono (wpS_forRange (I:=fun y c st'=>Gs st st'/\∃out1 i3 j3 mg ac bc,c=(none,out1,i3,j3,mg,ac,bc)/\MI O a b out1 i3 j3/\i3+1<a.size/\j3<b.size/\i'+j'<=i3+j3) (Q:=fun c st'=>Gs st st'/\((∃r rest,c=(some r,rest)/\Res O a b r)\/∃out1 i3 j3 mg ac bc,c=(none,out1,i3,j3,mg,ac,bc)/\MI O a b out1 i3 j3/\i3+1<a.size/\j3<b.size/\i'+j'<=i3+j3)) ?gstep ?gfin ⟨gs1,out',i',j',_,_,_,rfl,m2,i2,j2,by omega⟩) ?gpost)
  case gfin=>exact fun c st' h=>⟨h.1,.inr h.2⟩
  case gpost=>
   rintro c st' ⟨gs2,⟨r,rest,rfl,res⟩|⟨out1,i3,j3,mg,ac,bc,rfl,m3,i3',j3',ys'⟩⟩
   ·exact wpS_pure ⟨gs2,r,_,rfl,res⟩
   ·dsimp only;refine wpS_bind (wpS_modify (wpS_pure ⟨gs2.set _,_,_,_,_,rfl,m3,i3',j3',by omega⟩))
  case gstep=>
   rintro y c st2 _ hy ⟨gs2,out1,i3,j3,mg,ac,bc,rfl,m3,i3',j3',ys'⟩;dsimp only;by_cases hmg:mg > 1
   ·rw[ak hmg];refine wpS_bind (wpS_modify ?_);have gs3:=gs2.set (st':=st2);refine wpS_bind (bd (bp j3') ?_);refine wpS_bind (zO (O:=O) ((gs3 _).kind.trans hk) oa (ob _ j3') sa (by omega) fun k k1 k2 k3=>?_);dsimp only;by_cases hkk:k > 0
    ·rw[ak hkk];have m4':=m3.extA (k:=k) sa k1 (fun p h1 h2 r h3 h4=>O.le_trans (k2 p h1 h2) (sb _ _ h3 h4));by_cases e5:i3+k+1=a.size
     ·rw[ak (by rw[e5];simp)];exact wpS_pure ⟨gs3 _,.inl ⟨_,_,rfl,m4'.fin2 sa sb e5 (fa _ e5)⟩⟩
     ·rw[ah (by simpa using e5)];by_cases e6:i3+k=a.size
      ·rw[ak (by rw[e6];simp)];exact wpS_pure ⟨gs3 _,.inl ⟨_,_,rfl,m4'.fin1 sa sb (.inl (by omega))⟩⟩
      ·rw[ah (by simpa using e6)];refine wpS_bind (bd (bp j3') ?_);have m5:=m4'.putB sb j3' (fun p h1 h2=>O.lt_le (k3 p (by omega) h2));by_cases e1:j3+1=b.size
       ·rw[ak (by rw[e1];simp)];exact wpS_pure ⟨gs3 _,.inl ⟨_,_,rfl,m5.fin1 sa sb (.inr (by omega))⟩⟩
       ·rw[ah (by simpa using e1)];refine wpS_bind (bd (bp (show i3+k<a.size by omega)) ?_);refine wpS_bind (xS (O:=O) ((gs3 _).kind.trans hk) ob (oa _ (by omega)) sb (by omega) fun r r1 r2 r3=>?_);dsimp only;by_cases hr:r > 0
        ·rw[ak hr];have m6:=m5.extB (k:=r) sb r1 (fun p h1 h2 z h3 h4=>O.lt_le (O.lt_of (r2 p h1 h2) (sa _ _ h3 h4)));by_cases e2:j3+1+r=b.size
         ·rw[ak (by rw[e2];simp)];exact wpS_pure ⟨gs3 _,.inl ⟨_,_,rfl,m6.fin1 sa sb (.inr (by omega))⟩⟩
         ·rw[ah (by simpa using e2)];refine wpS_bind (bd (bp (show i3+k<a.size by omega)) ?_);have m7:=m6.putA sa (by omega) (fun p h1 h2=>r3 p (by omega) h2);by_cases e3:i3+k+1+1=a.size
          ·rw[ak (by rw[e3];simp)];exact wpS_pure ⟨gs3 _,.inl ⟨_,_,rfl,m7.fin2 sa sb e3 (fa _ e3)⟩⟩
          ·rw[ah (by simpa using e3)];by_cases e4:(decide (k<7)&&decide (r<7))=true
           ·rw[ak e4];exact wpS_pure ⟨gs3 _,.inr ⟨_,_,_,_,_,_,rfl,m7,by omega,by omega,by omega⟩⟩
           ·rw[ah e4];exact wpS_pure ⟨gs3 _,_,_,_,_,_,_,rfl,m7,by omega,by omega,by omega⟩
        ·rw[ah hr];have m6:=m5;refine wpS_bind (bd (bp (show i3+k<a.size by omega)) ?_);have m7:=m6.putA sa (by omega) (fun p h1 h2=>r3 p (by omega) h2);by_cases e3:i3+k+1+1=a.size
         ·rw[ak (by rw[e3];simp)];exact wpS_pure ⟨gs3 _,.inl ⟨_,_,rfl,m7.fin2 sa sb e3 (fa _ e3)⟩⟩
         ·rw[ah (by simpa using e3)];by_cases e4:(decide (k<7)&&decide (r<7))=true
          ·rw[ak e4];exact wpS_pure ⟨gs3 _,.inr ⟨_,_,_,_,_,_,rfl,m7,by omega,by omega,by omega⟩⟩
          ·rw[ah e4];exact wpS_pure ⟨gs3 _,_,_,_,_,_,_,rfl,m7,by omega,by omega,by omega⟩
    ·rw[ah hkk];have m4':=m3;refine wpS_bind (bd (bp j3') ?_);have m5:=m4'.putB sb j3' (fun p h1 h2=>O.lt_le (k3 p (by omega) h2));by_cases e1:j3+1=b.size
     ·rw[ak (by rw[e1];simp)];exact wpS_pure ⟨gs3 _,.inl ⟨_,_,rfl,m5.fin1 sa sb (.inr (by omega))⟩⟩
     ·rw[ah (by simpa using e1)];refine wpS_bind (bd (bp (show i3<a.size by omega)) ?_);refine wpS_bind (xS (O:=O) ((gs3 _).kind.trans hk) ob (oa _ (by omega)) sb (by omega) fun r r1 r2 r3=>?_);dsimp only;by_cases hr:r > 0
      ·rw[ak hr];have m6:=m5.extB (k:=r) sb r1 (fun p h1 h2 z h3 h4=>O.lt_le (O.lt_of (r2 p h1 h2) (sa _ _ h3 h4)));by_cases e2:j3+1+r=b.size
       ·rw[ak (by rw[e2];simp)];exact wpS_pure ⟨gs3 _,.inl ⟨_,_,rfl,m6.fin1 sa sb (.inr (by omega))⟩⟩
       ·rw[ah (by simpa using e2)];refine wpS_bind (bd (bp (show i3<a.size by omega)) ?_);have m7:=m6.putA sa (by omega) (fun p h1 h2=>r3 p (by omega) h2);by_cases e3:i3+1+1=a.size
        ·rw[ak (by rw[e3];simp)];exact wpS_pure ⟨gs3 _,.inl ⟨_,_,rfl,m7.fin2 sa sb e3 (fa _ e3)⟩⟩
        ·rw[ah (by simpa using e3)];by_cases e4:(decide (k<7)&&decide (r<7))=true
         ·rw[ak e4];exact wpS_pure ⟨gs3 _,.inr ⟨_,_,_,_,_,_,rfl,m7,by omega,by omega,by omega⟩⟩
         ·rw[ah e4];exact wpS_pure ⟨gs3 _,_,_,_,_,_,_,rfl,m7,by omega,by omega,by omega⟩
      ·rw[ah hr];have m6:=m5;refine wpS_bind (bd (bp (show i3<a.size by omega)) ?_);have m7:=m6.putA sa (by omega) (fun p h1 h2=>r3 p (by omega) h2);by_cases e3:i3+1+1=a.size
       ·rw[ak (by rw[e3];simp)];exact wpS_pure ⟨gs3 _,.inl ⟨_,_,rfl,m7.fin2 sa sb e3 (fa _ e3)⟩⟩
       ·rw[ah (by simpa using e3)];by_cases e4:(decide (k<7)&&decide (r<7))=true
        ·rw[ak e4];exact wpS_pure ⟨gs3 _,.inr ⟨_,_,_,_,_,_,rfl,m7,by omega,by omega,by omega⟩⟩
        ·rw[ah e4];exact wpS_pure ⟨gs3 _,_,_,_,_,_,_,rfl,m7,by omega,by omega,by omega⟩
   ·rw[ah hmg];refine wpS_bind (wpS_modify ?_);have gs3:=gs2.set (st':=st2);refine wpS_bind (bd (bp j3') ?_);refine wpS_bind (zO (O:=O) ((gs3 _).kind.trans hk) oa (ob _ j3') sa (by omega) fun k k1 k2 k3=>?_);dsimp only;by_cases hkk:k > 0
    ·rw[ak hkk];have m4':=m3.extA (k:=k) sa k1 (fun p h1 h2 r h3 h4=>O.le_trans (k2 p h1 h2) (sb _ _ h3 h4));by_cases e5:i3+k+1=a.size
     ·rw[ak (by rw[e5];simp)];exact wpS_pure ⟨gs3 _,.inl ⟨_,_,rfl,m4'.fin2 sa sb e5 (fa _ e5)⟩⟩
     ·rw[ah (by simpa using e5)];by_cases e6:i3+k=a.size
      ·rw[ak (by rw[e6];simp)];exact wpS_pure ⟨gs3 _,.inl ⟨_,_,rfl,m4'.fin1 sa sb (.inl (by omega))⟩⟩
      ·rw[ah (by simpa using e6)];refine wpS_bind (bd (bp j3') ?_);have m5:=m4'.putB sb j3' (fun p h1 h2=>O.lt_le (k3 p (by omega) h2));by_cases e1:j3+1=b.size
       ·rw[ak (by rw[e1];simp)];exact wpS_pure ⟨gs3 _,.inl ⟨_,_,rfl,m5.fin1 sa sb (.inr (by omega))⟩⟩
       ·rw[ah (by simpa using e1)];refine wpS_bind (bd (bp (show i3+k<a.size by omega)) ?_);refine wpS_bind (xS (O:=O) ((gs3 _).kind.trans hk) ob (oa _ (by omega)) sb (by omega) fun r r1 r2 r3=>?_);dsimp only;by_cases hr:r > 0
        ·rw[ak hr];have m6:=m5.extB (k:=r) sb r1 (fun p h1 h2 z h3 h4=>O.lt_le (O.lt_of (r2 p h1 h2) (sa _ _ h3 h4)));by_cases e2:j3+1+r=b.size
         ·rw[ak (by rw[e2];simp)];exact wpS_pure ⟨gs3 _,.inl ⟨_,_,rfl,m6.fin1 sa sb (.inr (by omega))⟩⟩
         ·rw[ah (by simpa using e2)];refine wpS_bind (bd (bp (show i3+k<a.size by omega)) ?_);have m7:=m6.putA sa (by omega) (fun p h1 h2=>r3 p (by omega) h2);by_cases e3:i3+k+1+1=a.size
          ·rw[ak (by rw[e3];simp)];exact wpS_pure ⟨gs3 _,.inl ⟨_,_,rfl,m7.fin2 sa sb e3 (fa _ e3)⟩⟩
          ·rw[ah (by simpa using e3)];by_cases e4:(decide (k<7)&&decide (r<7))=true
           ·rw[ak e4];exact wpS_pure ⟨gs3 _,.inr ⟨_,_,_,_,_,_,rfl,m7,by omega,by omega,by omega⟩⟩
           ·rw[ah e4];exact wpS_pure ⟨gs3 _,_,_,_,_,_,_,rfl,m7,by omega,by omega,by omega⟩
        ·rw[ah hr];have m6:=m5;refine wpS_bind (bd (bp (show i3+k<a.size by omega)) ?_);have m7:=m6.putA sa (by omega) (fun p h1 h2=>r3 p (by omega) h2);by_cases e3:i3+k+1+1=a.size
         ·rw[ak (by rw[e3];simp)];exact wpS_pure ⟨gs3 _,.inl ⟨_,_,rfl,m7.fin2 sa sb e3 (fa _ e3)⟩⟩
         ·rw[ah (by simpa using e3)];by_cases e4:(decide (k<7)&&decide (r<7))=true
          ·rw[ak e4];exact wpS_pure ⟨gs3 _,.inr ⟨_,_,_,_,_,_,rfl,m7,by omega,by omega,by omega⟩⟩
          ·rw[ah e4];exact wpS_pure ⟨gs3 _,_,_,_,_,_,_,rfl,m7,by omega,by omega,by omega⟩
    ·rw[ah hkk];have m4':=m3;refine wpS_bind (bd (bp j3') ?_);have m5:=m4'.putB sb j3' (fun p h1 h2=>O.lt_le (k3 p (by omega) h2));by_cases e1:j3+1=b.size
     ·rw[ak (by rw[e1];simp)];exact wpS_pure ⟨gs3 _,.inl ⟨_,_,rfl,m5.fin1 sa sb (.inr (by omega))⟩⟩
     ·rw[ah (by simpa using e1)];refine wpS_bind (bd (bp (show i3<a.size by omega)) ?_);refine wpS_bind (xS (O:=O) ((gs3 _).kind.trans hk) ob (oa _ (by omega)) sb (by omega) fun r r1 r2 r3=>?_);dsimp only;by_cases hr:r > 0
      ·rw[ak hr];have m6:=m5.extB (k:=r) sb r1 (fun p h1 h2 z h3 h4=>O.lt_le (O.lt_of (r2 p h1 h2) (sa _ _ h3 h4)));by_cases e2:j3+1+r=b.size
       ·rw[ak (by rw[e2];simp)];exact wpS_pure ⟨gs3 _,.inl ⟨_,_,rfl,m6.fin1 sa sb (.inr (by omega))⟩⟩
       ·rw[ah (by simpa using e2)];refine wpS_bind (bd (bp (show i3<a.size by omega)) ?_);have m7:=m6.putA sa (by omega) (fun p h1 h2=>r3 p (by omega) h2);by_cases e3:i3+1+1=a.size
        ·rw[ak (by rw[e3];simp)];exact wpS_pure ⟨gs3 _,.inl ⟨_,_,rfl,m7.fin2 sa sb e3 (fa _ e3)⟩⟩
        ·rw[ah (by simpa using e3)];by_cases e4:(decide (k<7)&&decide (r<7))=true
         ·rw[ak e4];exact wpS_pure ⟨gs3 _,.inr ⟨_,_,_,_,_,_,rfl,m7,by omega,by omega,by omega⟩⟩
         ·rw[ah e4];exact wpS_pure ⟨gs3 _,_,_,_,_,_,_,rfl,m7,by omega,by omega,by omega⟩
      ·rw[ah hr];have m6:=m5;refine wpS_bind (bd (bp (show i3<a.size by omega)) ?_);have m7:=m6.putA sa (by omega) (fun p h1 h2=>r3 p (by omega) h2);by_cases e3:i3+1+1=a.size
       ·rw[ak (by rw[e3];simp)];exact wpS_pure ⟨gs3 _,.inl ⟨_,_,rfl,m7.fin2 sa sb e3 (fa _ e3)⟩⟩
       ·rw[ah (by simpa using e3)];by_cases e4:(decide (k<7)&&decide (r<7))=true
        ·rw[ak e4];exact wpS_pure ⟨gs3 _,.inr ⟨_,_,_,_,_,_,rfl,m7,by omega,by omega,by omega⟩⟩
        ·rw[ah e4];exact wpS_pure ⟨gs3 _,_,_,_,_,_,_,rfl,m7,by omega,by omega,by omega⟩
end
def mhi:Array Keyed->Array Keyed->StateT SortSt Sem (Array Keyed):=sortPriv% PySem.Builtin.mergeHi
theorem lK {a:Array Keyed}(h:i<a.size):a.toList.take (i+1)=a.toList.take i++[kat a i]:=by
 rw[take_add_one,cS h];rfl
theorem dM {a:Array Keyed}{z:Keyed}(hi:i<=a.size)(h:z∈a.toList.take i):∃j,j<i/\z=kat a j:=by
 obtain⟨n,hn,e⟩:=getElem_of_mem h;rw[aF,length_toList] at hn;refine⟨n,by omega,?_⟩;rw[getElem_take] at e;have:=cS (a:=a) (i:=n) (by omega);rw[List.getElem?_eq_getElem (by rw[length_toList];omega)] at this;rw[<- e];exact aG this
section
variable (O:SOrd M A E s)
theorem Sr.tk {O:SOrd M A E s}{a:Array Keyed}(h:Sr O a)(i:Nat):(a.toList.take i).Pairwise O.le:=by
 have:=h.pw 0;rw[drop_zero] at this;exact this.sublist (take_sublist _ _)
structure MH (a b out:Array Keyed)(i j:Nat):Prop where
 perm:(a.toList.take i++b.toList.take j++out.toList.reverse).Perm (a.toList++b.toList)
 so:out.toList.reverse.Pairwise O.le
 la:∀x∈out.toList,∀p,p<i->O.le (kat a p) x
 lb:∀x∈out.toList,∀p,p<j->O.le (kat b p) x
variable {O}{a b out:Array Keyed}{k:Nat}
theorem oq {c:Array Keyed}(hi:i<=c.size){x:Keyed}(hx:x∈(c.toList.take i).drop k):∃p,k<=p/\p<i/\x=kat c p:=by
 obtain⟨n,hn,ex⟩:=getElem_of_mem hx;rw[bf,aF,length_toList] at hn;refine⟨k+n,by omega,by omega,?_⟩;rw[getElem_drop,getElem_take] at ex;have:=cS (a:=c) (i:=k+n) (by omega);rw[List.getElem?_eq_getElem (by rw[length_toList];omega)] at this;rw[<- ex];exact aG this
theorem jB {c:Array Keyed}(h:k<=i):c.toList.take i=c.toList.take k++(c.toList.take i).drop k:=by
 have:=(take_append_drop k (c.toList.take i)).symm
 rwa[List.take_take,min_eq_left h] at this
theorem MH.segA (m:MH O a b out i j)(sa:Sr O a)(hi:i<=a.size)(hj:j<=b.size)(hk:k<=i)(le:∀p,k<=p->p<i->∀q,q<j->O.le (kat b q) (kat a p)){out':Array Keyed}(e:out'.toList.reverse=(a.toList.take i).drop k++out.toList.reverse):MH O a b out' k j:=by
 have hm:=fun {x}=>oq (c:=a) (k:=k) hi (x:=x)
 have hx':∀x∈out'.toList,x∈(a.toList.take i).drop k\/x∈out.toList:=fun x hx=>by
  have:x∈out'.toList.reverse:=mem_reverse.mpr hx;rw[e] at this;exact(ba.mp this).imp id fun z=>mem_reverse.mp z
 refine⟨?_,?_,fun x hx p h1=>?_,fun x hx p h1=>?_⟩
 ·rw[e];have:=m.perm;rw[jB (c:=a) hk] at this;refine List.Perm.trans ?_ this;rw[az,az,az];refine List.Perm.append_left _ ?_;rw[<- az,<- az];exact List.Perm.append_right _ perm_append_comm
 ·rw[e,pairwise_append];refine⟨(sa.tk i).sublist (drop_sublist _ _),m.so,fun x hx y hy=>?_⟩;obtain⟨p,h1,h2,rfl⟩:=hm hx;exact m.la y (mem_reverse.mp hy) p h2
 ·rcases hx' x hx with h|h
  ·obtain⟨r,h3,h4,rfl⟩:=hm h;exact sa p r (by omega) (by omega)
  ·exact m.la x h p (by omega)
 ·rcases hx' x hx with h|h
  ·obtain⟨r,h3,h4,rfl⟩:=hm h;exact le r h3 h4 p h1
  ·exact m.lb x h p h1
theorem MH.segB (m:MH O a b out i j)(sb:Sr O b)(hi:i<=a.size)(hj:j<=b.size)(hk:k<=j)(le:∀p,k<=p->p<j->∀q,q<i->O.le (kat a q) (kat b p)){out':Array Keyed}(e:out'.toList.reverse=(b.toList.take j).drop k++out.toList.reverse):MH O a b out' i k:=by
 have hm:=fun {x}=>oq (c:=b) (k:=k) hj (x:=x)
 have hx':∀x∈out'.toList,x∈(b.toList.take j).drop k\/x∈out.toList:=fun x hx=>by
  have:x∈out'.toList.reverse:=mem_reverse.mpr hx;rw[e] at this;exact(ba.mp this).imp id fun z=>mem_reverse.mp z
 refine⟨?_,?_,fun x hx p h1=>?_,fun x hx p h1=>?_⟩
 ·rw[e];have:=m.perm;rw[jB (c:=b) hk] at this;refine List.Perm.trans ?_ this;rw[az,az,az]
 ·rw[e,pairwise_append];refine⟨(sb.tk j).sublist (drop_sublist _ _),m.so,fun x hx y hy=>?_⟩;obtain⟨p,h1,h2,rfl⟩:=hm hx;exact m.lb y (mem_reverse.mp hy) p h2
 ·rcases hx' x hx with h|h
  ·obtain⟨r,h3,h4,rfl⟩:=hm h;exact le r h3 h4 p h1
  ·exact m.la x h p h1
 ·rcases hx' x hx with h|h
  ·obtain⟨r,h3,h4,rfl⟩:=hm h;exact sb p r (by omega) (by omega)
  ·exact m.lb x h p (by omega)
theorem om {c:Array Keyed}(h:n<c.size):(c.toList.take (n+1)).drop n=[kat c n]:=by
 rw[lK h,List.drop_append_of_le_length (by rw[aF,length_toList];omega),List.drop_eq_nil_of_le (by rw[aF];omega)];rfl
theorem MH.putA (m:MH O a b out (i+1) j)(sa:Sr O a)(hi:i<a.size)(hj:j<=b.size)(le:∀q,q<j->O.le (kat b q) (kat a i)):MH O a b (out.push (kat a i)) i j:=
 m.segA (k:=i) sa hi hj (le_succ _) (fun p h1 h2 q h3=>by have this:p=i:=(by omega);subst this;exact le q h3) (by rw[om hi];simp)
theorem MH.putB (m:MH O a b out i (j+1))(sb:Sr O b)(hi:i<=a.size)(hj:j<b.size)(le:∀q,q<i->O.le (kat a q) (kat b j)):MH O a b (out.push (kat b j)) i j:=
 m.segB (k:=j) sb hi hj (le_succ _) (fun p h1 h2 q h3=>by have this:p=j:=(by omega);subst this;exact le q h3) (by rw[om hj];simp)
theorem kB {c:Array Keyed}:(c.extract k i).toList=(c.toList.take i).drop k:=by
 rw[eY,List.drop_take]
theorem MH.extA (m:MH O a b out i j)(sa:Sr O a)(hi:i<=a.size)(hj:j<=b.size)(hk:k<=i)(le:∀p,k<=p->p<i->∀q,q<j->O.le (kat b q) (kat a p)):MH O a b (out++(a.extract k i).reverse) k j:=
 m.segA sa hi hj hk le (by rw[toList_append,toList_reverse,kB,List.reverse_append,List.reverse_reverse])
theorem MH.extB (m:MH O a b out i j)(sb:Sr O b)(hi:i<=a.size)(hj:j<=b.size)(hk:k<=j)(le:∀p,k<=p->p<j->∀q,q<i->O.le (kat a q) (kat b p)):MH O a b (out++(b.extract k j).reverse) i k:=
 m.segB sb hi hj hk le (by rw[toList_append,toList_reverse,kB,List.reverse_append,List.reverse_reverse])
theorem gD {c:Array Keyed}:(c.extract 0 n).toList=c.toList.take n:=by rw[kB,drop_zero]
theorem MH.fin1 (m:MH O a b out i j)(sa:Sr O a)(sb:Sr O b)(hi:i<=a.size)(hj:j<=b.size)(h:i=0\/j=0):Res O a b (a.extract 0 i++b.extract 0 j++out.reverse):=by
 unfold Res;rw[toList_append,toList_append,gD,gD,toList_reverse];refine⟨?_,m.perm⟩;rw[pairwise_append,pairwise_append];refine⟨⟨sa.tk i,sb.tk j,fun x hx y hy=>?_⟩,m.so,fun x hx y hy=>?_⟩
 ·obtain⟨p,h1,rfl⟩:=dM hi hx;obtain⟨r,h2,rfl⟩:=dM hj hy;omega
 ·rcases ba.mp hx with hx|hx
  ·obtain⟨p,h1,rfl⟩:=dM hi hx;exact m.la y (mem_reverse.mp hy) p h1
  ·obtain⟨p,h1,rfl⟩:=dM hj hx;exact m.lb y (mem_reverse.mp hy) p h1
theorem MH.fin2 (m:MH O a b out i j)(sa:Sr O a)(sb:Sr O b)(hi:i<=a.size)(hj:j<=b.size)(h:j=1)(hf:∀q,q<a.size->O.le (kat b 0) (kat a q)):Res O a b (b.extract 0 j++a.extract 0 i++out.reverse):=by
 unfold Res;rw[toList_append,toList_append,gD,gD,toList_reverse];refine⟨?_,?_⟩
 ·rw[pairwise_append,pairwise_append];refine⟨⟨sb.tk j,sa.tk i,fun x hx y hy=>?_⟩,m.so,fun x hx y hy=>?_⟩
  ·obtain⟨p,h1,rfl⟩:=dM hj hx;obtain⟨r,h2,rfl⟩:=dM hi hy;have:p=0:=by omega
   subst this;exact hf r (by omega)
  ·rcases ba.mp hx with hx|hx
   ·obtain⟨p,h1,rfl⟩:=dM hj hx;exact m.lb y (mem_reverse.mp hy) p h1
   ·obtain⟨p,h1,rfl⟩:=dM hi hx;exact m.la y (mem_reverse.mp hy) p h1
 ·refine List.Perm.trans ?_ m.perm;exact List.Perm.append_right _ perm_append_comm
theorem xg {st:SortSt}{key:Keyed}{Q:Option Nat->SortSt->Prop}(hk:kindOf st=O.kd)(oa:∀p,p<a.size->O.ok (kat a p))(ok:O.ok key)(sa:Sr O a)(hn:0<n)(hna:n<=a.size)
  (q:∀k,k<=n->(∀p,p<k->O.le (kat a p) key)->(∀p,k<=p->p<n->O.blt key (kat a p)=true)->Q (some k) st):wpS M A E s (gal false key a 0 n (n - 1)) Q st:=by
 refine iH O (at':=fun p=>kat a p) hk ok (fun p hp=>⟨by rw[zero_add];exact bp (by omega),oa _ (by omega)⟩) (by omega) (fun p r h1 h2 h3=>?_) fun k h1 h2 h3=>q k h1 (fun p h4=>?_) (fun p h4 h5=>?_)
 ·unfold db at h3 ⊢;rw[ah aj] at h3 ⊢;have h4:O.le (kat a r) key:=by unfold SOrd.le;simpa using h3
  have h5:O.le (kat a p) key:=O.le_trans (sa _ _ h1 (by omega)) h4;unfold SOrd.le at h5;rw[h5];rfl
 ·have:=h2 p h4;unfold db at this;rw[ah aj] at this;unfold SOrd.le;simpa using this
 ·have:=h3 p h4 h5;unfold db at this;rw[ah aj] at this;simpa using this
theorem rS {st:SortSt}{key:Keyed}{Q:Option Nat->SortSt->Prop}(hk:kindOf st=O.kd)(ob:∀p,p<b.size->O.ok (kat b p))(ok:O.ok key)(sb:Sr O b)(hn:0<n)(hnb:n<=b.size)
  (q:∀k,k<=n->(∀p,p<k->O.blt (kat b p) key=true)->(∀p,k<=p->p<n->O.le key (kat b p))->Q (some k) st):wpS M A E s (gal true key b 0 n (n - 1)) Q st:=by
 refine iH O (at':=fun p=>kat b p) hk ok (fun p hp=>⟨by rw[zero_add];exact bp (by omega),ob _ (by omega)⟩) (by omega) (fun p r h1 h2 h3=>?_) fun k h1 h2 h3=>q k h1 (fun p h4=>?_) (fun p h4 h5=>?_)
 ·unfold db at h3 ⊢;rw[ak rfl] at h3 ⊢;exact O.le_of (sb _ _ h1 (by omega)) h3
 ·have:=h2 p h4;unfold db at this;rw[ak rfl] at this;exact this
 ·have:=h3 p h4 h5;unfold db at this;rw[ak rfl] at this;exact this
theorem wK {Q:Array Keyed->SortSt->Prop}{st:SortSt}(hk:kindOf st=O.kd)(oa:∀p,p<a.size->O.ok (kat a p))(ob:∀p,p<b.size->O.ok (kat b p))(sa:Sr O a)(sb:Sr O b)(h0a:0<a.size)(h0b:0<b.size)
  (hf:O.blt (kat b 0) (kat a 0)=true) (hl:∀p,p<b.size->O.blt (kat b p) (kat a (a.size - 1))=true) (q:∀r st',Gs st st'->Res O a b r->Q r st'):wpS M A E s (mhi a b) Q st:=by
 have fb:∀p,p<a.size->O.le (kat b 0) (kat a p):=fun p hp=>O.le_trans (O.lt_le hf) (sa 0 p (zero_le _) hp)
 delta mhi
 refine wpS_bind (wpS_lift (wpAny_rule ⟨rfl,?_⟩));dsimp only;refine wpS_bind (bd (bp (show a.size - 1<a.size by omega)) ?_)
 have m0:MH O a b #[kat a (a.size - 1)] (a.size - 1) b.size:=by
  refine⟨?_,List.pairwise_singleton ..,fun x hx p h1=>?_,fun x hx p h1=>?_⟩
  ·have e:=lK (a:=a) (i:=a.size - 1) (by omega);rw[show a.size - 1+1=a.size by omega,take_of_length_le (by rw[length_toList];omega)] at e;rw[take_of_length_le (l:=b.toList) (by rw[length_toList];omega)]
   have e2:(a.toList++b.toList).Perm (a.toList.take (a.size - 1)++b.toList++[kat a (a.size - 1)]):=by
    conv=>lhs;rw[e]
    rw[az,az];exact List.Perm.append_left _ perm_append_comm
   exact e2.symm
  ·rw[a_.mp (show x∈[kat a (a.size - 1)] from hx)];exact sa p _ (by omega) (by omega)
  ·rw[a_.mp (show x∈[kat a (a.size - 1)] from hx)];exact O.lt_le (hl p h1)
 by_cases c1:a.size - 1=0
 ·rw[ak (by rw[c1];rfl)];exact wpS_pure (q _ st (Gs.refl st) (m0.fin1 sa sb (by omega) (by omega) (.inl c1)))
 rw[ah (by simpa using c1)];by_cases c2:b.size=1
 ·rw[ak (by rw[c2];rfl)];exact wpS_pure (q _ st (Gs.refl st) (m0.fin2 sa sb (by omega) (by omega) c2 fb))
 rw[ah (by simpa using c2)];refine wpS_bind (wpS_get ?_);refine wpS_bind (wpS_mono (wpS_forRange (I:=fun x c st'=>Gs st st'/\∃out i j g,c=(none,i,j,out,g)/\MH O a b out i j/\0<i/\1<j/\i<=a.size/\j<=b.size/\x+1+i+j<=a.size+b.size) (Q:=fun c st'=>Gs st st'/\∃r rest,c=(some r,rest)/\Res O a b r) ?step ?fin ⟨Gs.refl st,_,_,_,_,rfl,m0,by omega,by omega,by omega,by omega,by omega⟩) ?post)
 case post=>
  rintro c st' ⟨g,r,rest,rfl,res⟩;exact wpS_pure (q r st' g res)
 case fin=>
  rintro c st' ⟨_,out,i,j,g,rfl,_,h1,h2,h3,h4,h5⟩
  exfalso
  omega
 case step=>
  rintro x c st1 _ hx ⟨gs1,out,i,j,g,rfl,m1,i1,j1,ia,jb,xs⟩;dsimp only;have hk1:kindOf st1=O.kd:=gs1.kind.trans hk
  refine wpS_bind (wpS_mono (wpS_forRange (I:=fun y c st'=>st'=st1/\∃out' i' j' ac bc,c=(none,i',j',out',ac,bc)/\MH O a b out' i' j'/\0<i'/\1<j'/\i'<=a.size/\j'<=b.size/\y+i'+j'<=i+j) (Q:=fun c st'=>st'=st1/\((∃r rest,c=(some r,rest)/\Res O a b r)\/∃out' i' j' ac bc,c=(none,i',j',out',ac,bc)/\MH O a b out' i' j'/\0<i'/\1<j'/\i'<=a.size/\j'<=b.size/\i'+j'<i+j)) ?istep ?ifin ⟨rfl,out,i,j,0,0,rfl,m1,i1,j1,ia,jb,by omega⟩) ?ipost)
  case ifin=>
   rintro c st' ⟨rfl,out',i',j',ac,bc,rfl,m2,i2,j2,ia',jb',ys⟩;exact⟨rfl,.inr ⟨out',i',j',ac,bc,rfl,m2,i2,j2,ia',jb',by omega⟩⟩
  case istep=>
   rintro y c st' _ hy ⟨rfl,out',i',j',ac,bc,rfl,m2,i2,j2,ia',jb',ys⟩;dsimp only;obtain⟨i',rfl⟩:∃n,i'=n+1:=⟨i' - 1,by omega⟩;obtain⟨j',rfl⟩:∃n,j'=n+1:=⟨j' - 1,by omega⟩;simp only[Nat.add_sub_cancel];refine wpS_bind (bd (bp (show j'<b.size by omega)) (wpS_bind (bd (bp (show i'<a.size by omega)) (wpS_bind (O.run (ob _ (by omega)) (oa _ (by omega)) hk1 ?_)))));dsimp only
   by_cases hb:O.blt (kat b j') (kat a i')=true
   ·rw[ak hb];refine wpS_bind (bd (bp (show i'<a.size by omega)) ?_);have m3:=m2.putA sa (by omega) (by omega) (fun p h1=>O.le_trans (sb p j' (by omega) (by omega)) (O.lt_le hb));by_cases e1:i'=0
    ·rw[ak (by rw[e1];simp)];exact wpS_pure ⟨rfl,.inl ⟨_,_,rfl,m3.fin1 sa sb (by omega) (by omega) (.inl e1)⟩⟩
    ·rw[ah (by simpa using e1)];split
     ·exact wpS_pure ⟨rfl,.inr ⟨_,_,_,_,_,rfl,m3,by omega,j2,by omega,by omega,by omega⟩⟩
     ·exact wpS_pure ⟨rfl,_,_,_,_,_,rfl,m3,by omega,j2,by omega,by omega,by omega⟩
   ·rw[ah hb]
    have hb':O.le (kat a i') (kat b j'):=by
     unfold SOrd.le;cases c:O.blt (kat b j') (kat a i') with
     | false=>rfl
     | true=>exact aY c hb
    refine wpS_bind (bd (bp (show j'<b.size by omega)) ?_);have m3:=m2.putB sb (by omega) (by omega) (fun p h1=>O.le_trans (sa p i' (by omega) (by omega)) hb');by_cases e1:j'=1
    ·rw[ak (by rw[e1];simp)];exact wpS_pure ⟨rfl,.inl ⟨_,_,rfl,m3.fin2 sa sb (by omega) (by omega) e1 fb⟩⟩
    ·rw[ah (by simpa using e1)];split
     ·exact wpS_pure ⟨rfl,.inr ⟨_,_,_,_,_,rfl,m3,i2,by omega,by omega,by omega,by omega⟩⟩
     ·exact wpS_pure ⟨rfl,_,_,_,_,_,rfl,m3,i2,by omega,by omega,by omega,by omega⟩
  case ipost=>
  rintro c st' ⟨rfl,⟨r,rest,rfl,res⟩|⟨out',i',j',ac,bc,rfl,m2,i2,j2,ia',jb',ys⟩⟩
  ·exact wpS_pure ⟨gs1,r,_,rfl,res⟩
  dsimp only;refine wpS_bind (wpS_lift (wpAny_rule ⟨rfl,?_⟩))
  refine wpS_bind (wpS_mono (wpS_forRange (I:=fun y c st'=>Gs st st'/\∃out1 i3 j3 mg ac bc,c=(none,i3,j3,out1,mg,ac,bc)/\MH O a b out1 i3 j3/\0<i3/\1<j3/\i3<=a.size/\j3<=b.size/\i3+j3<=i'+j') (Q:=fun c st'=>Gs st st'/\((∃r rest,c=(some r,rest)/\Res O a b r)\/∃out1 i3 j3 mg ac bc,c=(none,i3,j3,out1,mg,ac,bc)/\MH O a b out1 i3 j3/\0<i3/\1<j3/\i3<=a.size/\j3<=b.size/\i3+j3<=i'+j')) ?gstep ?gfin ⟨gs1,out',i',j',_,_,_,rfl,m2,i2,j2,ia',jb',by omega⟩) ?gpost)
  case gfin=>exact fun c st' h=>⟨h.1,.inr h.2⟩
  case gpost=>
   rintro c st' ⟨gs2,⟨r,rest,rfl,res⟩|⟨out1,i3,j3,mg,ac,bc,rfl,m3,i3',j3',ia3,jb3,ys'⟩⟩
   ·exact wpS_pure ⟨gs2,r,_,rfl,res⟩
   ·dsimp only;refine wpS_bind (wpS_modify (wpS_pure ⟨gs2.set _,_,_,_,_,rfl,m3,i3',j3',ia3,jb3,by omega⟩))
  case gstep=>
   rintro y c st2 _ hy ⟨gs2,out1,i3,j3,mg,ac,bc,rfl,m3,i3',j3',ia3,jb3,ys'⟩;dsimp only;obtain⟨j3,rfl⟩:∃n,j3=n+1:=⟨j3 - 1,by omega⟩;simp only[Nat.add_sub_cancel];by_cases hmg:mg > 1
   ·rw[ak hmg];refine wpS_bind (wpS_modify ?_);have gs3:=gs2.set (st':=st2);refine wpS_bind (bd (bp (show j3<b.size by omega)) ?_);refine wpS_bind (xg (O:=O) ((gs3 _).kind.trans hk) oa (ob _ (by omega)) sa i3' ia3 fun k k1 k2 k3=>?_);dsimp only;by_cases hkk:i3 - k > 0
    ·rw[ak hkk];have m4':=m3.extA (k:=k) sa (by omega) (by omega) k1 (fun p h1 h2 z h3=>O.le_trans (sb z j3 (by omega) (by omega)) (O.lt_le (k3 p h1 h2)));by_cases e5:k=0
     ·rw[ak (by rw[e5];rfl)];exact wpS_pure ⟨gs3 _,.inl ⟨_,_,rfl,m4'.fin1 sa sb (by omega) (by omega) (.inl e5)⟩⟩
     ·rw[ah (by simpa using e5)];refine wpS_bind (bd (bp (show j3<b.size by omega)) ?_);have m5:=m4'.putB sb (by omega) (by omega) (fun p h1=>k2 p (by omega));by_cases e1:j3=1
      ·rw[ak (by rw[e1];rfl)];exact wpS_pure ⟨gs3 _,.inl ⟨_,_,rfl,m5.fin2 sa sb (by omega) (by omega) e1 fb⟩⟩
      ·rw[ah (by simpa using e1)];refine wpS_bind (bd (bp (show k - 1<a.size by omega)) ?_);refine wpS_bind (rS (O:=O) ((gs3 _).kind.trans hk) ob (oa _ (by omega)) sb (by omega) (by omega) fun r r1 r2 r3=>?_);dsimp only;by_cases hr:j3 - r > 0
       ·rw[ak hr];have m6:=m5.extB (k:=r) sb (by omega) (by omega) r1 (fun p h1 h2 z h3=>O.le_trans (sa z (k - 1) (by omega) (by omega)) (r3 p h1 h2));by_cases e2:r=1
        ·rw[ak (by rw[e2];rfl)];exact wpS_pure ⟨gs3 _,.inl ⟨_,_,rfl,m6.fin2 sa sb (by omega) (by omega) e2 fb⟩⟩
        ·rw[ah (by simpa using e2)];by_cases e7:r=0
         ·rw[ak (by rw[e7];rfl)];exact wpS_pure ⟨gs3 _,.inl ⟨_,_,rfl,m6.fin1 sa sb (by omega) (by omega) (.inr e7)⟩⟩
         ·rw[ah (by simpa using e7)];refine wpS_bind (bd (bp (show k - 1<a.size by omega)) ?_);have m7:MH O a b _ (k - 1) r:=MH.putA (i:=k - 1) (by rw[show k - 1+1=k by omega];exact m6) sa (by omega) (by omega) (fun p h1=>O.lt_le (r2 p (by omega)));by_cases e3:k - 1=0
          ·rw[ak (by rw[e3];rfl)];exact wpS_pure ⟨gs3 _,.inl ⟨_,_,rfl,m7.fin1 sa sb (by omega) (by omega) (.inl e3)⟩⟩
          ·rw[ah (by simpa using e3)];by_cases e4:(decide (i3 - k<7)&&decide (j3 - r<7))=true
           ·rw[ak e4];exact wpS_pure ⟨gs3 _,.inr ⟨_,_,_,_,_,_,rfl,m7,by omega,by omega,by omega,by omega,by omega⟩⟩
           ·rw[ah e4];exact wpS_pure ⟨gs3 _,_,_,_,_,_,_,rfl,m7,by omega,by omega,by omega,by omega,by omega⟩
       ·rw[ah hr];have er:r=j3:=by omega
        have m6:=m5;refine wpS_bind (bd (bp (show k - 1<a.size by omega)) ?_);have m7:MH O a b _ (k - 1) j3:=MH.putA (i:=k - 1) (by rw[show k - 1+1=k by omega];exact m6) sa (by omega) (by omega) (fun p h1=>O.lt_le (r2 p (by omega)));by_cases e3:k - 1=0
        ·rw[ak (by rw[e3];rfl)];exact wpS_pure ⟨gs3 _,.inl ⟨_,_,rfl,m7.fin1 sa sb (by omega) (by omega) (.inl e3)⟩⟩
        ·rw[ah (by simpa using e3)];by_cases e4:(decide (i3 - k<7)&&decide (j3 - r<7))=true
         ·rw[ak e4];exact wpS_pure ⟨gs3 _,.inr ⟨_,_,_,_,_,_,rfl,m7,by omega,by omega,by omega,by omega,by omega⟩⟩
         ·rw[ah e4];exact wpS_pure ⟨gs3 _,_,_,_,_,_,_,rfl,m7,by omega,by omega,by omega,by omega,by omega⟩
    ·rw[ah hkk];have ek:k=i3:=by omega
     have m4':=m3;refine wpS_bind (bd (bp (show j3<b.size by omega)) ?_);have m5:=m4'.putB sb (by omega) (by omega) (fun p h1=>k2 p (by omega));by_cases e1:j3=1
     ·rw[ak (by rw[e1];rfl)];exact wpS_pure ⟨gs3 _,.inl ⟨_,_,rfl,m5.fin2 sa sb (by omega) (by omega) e1 fb⟩⟩
     ·rw[ah (by simpa using e1)];refine wpS_bind (bd (bp (show i3 - 1<a.size by omega)) ?_);refine wpS_bind (rS (O:=O) ((gs3 _).kind.trans hk) ob (oa _ (by omega)) sb (by omega) (by omega) fun r r1 r2 r3=>?_);dsimp only;by_cases hr:j3 - r > 0
      ·rw[ak hr];have m6:=m5.extB (k:=r) sb (by omega) (by omega) r1 (fun p h1 h2 z h3=>O.le_trans (sa z (i3 - 1) (by omega) (by omega)) (r3 p h1 h2));by_cases e2:r=1
       ·rw[ak (by rw[e2];rfl)];exact wpS_pure ⟨gs3 _,.inl ⟨_,_,rfl,m6.fin2 sa sb (by omega) (by omega) e2 fb⟩⟩
       ·rw[ah (by simpa using e2)];by_cases e7:r=0
        ·rw[ak (by rw[e7];rfl)];exact wpS_pure ⟨gs3 _,.inl ⟨_,_,rfl,m6.fin1 sa sb (by omega) (by omega) (.inr e7)⟩⟩
        ·rw[ah (by simpa using e7)];refine wpS_bind (bd (bp (show i3 - 1<a.size by omega)) ?_);have m7:MH O a b _ (i3 - 1) r:=MH.putA (i:=i3 - 1) (by rw[show i3 - 1+1=i3 by omega];exact m6) sa (by omega) (by omega) (fun p h1=>O.lt_le (r2 p (by omega)));by_cases e3:i3 - 1=0
         ·rw[ak (by rw[e3];rfl)];exact wpS_pure ⟨gs3 _,.inl ⟨_,_,rfl,m7.fin1 sa sb (by omega) (by omega) (.inl e3)⟩⟩
         ·rw[ah (by simpa using e3)];by_cases e4:(decide (i3 - k<7)&&decide (j3 - r<7))=true
          ·rw[ak e4];exact wpS_pure ⟨gs3 _,.inr ⟨_,_,_,_,_,_,rfl,m7,by omega,by omega,by omega,by omega,by omega⟩⟩
          ·rw[ah e4];exact wpS_pure ⟨gs3 _,_,_,_,_,_,_,rfl,m7,by omega,by omega,by omega,by omega,by omega⟩
      ·rw[ah hr];have er:r=j3:=by omega
       have m6:=m5;refine wpS_bind (bd (bp (show i3 - 1<a.size by omega)) ?_);have m7:MH O a b _ (i3 - 1) j3:=MH.putA (i:=i3 - 1) (by rw[show i3 - 1+1=i3 by omega];exact m6) sa (by omega) (by omega) (fun p h1=>O.lt_le (r2 p (by omega)));by_cases e3:i3 - 1=0
       ·rw[ak (by rw[e3];rfl)];exact wpS_pure ⟨gs3 _,.inl ⟨_,_,rfl,m7.fin1 sa sb (by omega) (by omega) (.inl e3)⟩⟩
       ·rw[ah (by simpa using e3)];by_cases e4:(decide (i3 - k<7)&&decide (j3 - r<7))=true
        ·rw[ak e4];exact wpS_pure ⟨gs3 _,.inr ⟨_,_,_,_,_,_,rfl,m7,by omega,by omega,by omega,by omega,by omega⟩⟩
        ·rw[ah e4];exact wpS_pure ⟨gs3 _,_,_,_,_,_,_,rfl,m7,by omega,by omega,by omega,by omega,by omega⟩
   ·rw[ah hmg];refine wpS_bind (wpS_modify ?_);have gs3:=gs2.set (st':=st2);refine wpS_bind (bd (bp (show j3<b.size by omega)) ?_);refine wpS_bind (xg (O:=O) ((gs3 _).kind.trans hk) oa (ob _ (by omega)) sa i3' ia3 fun k k1 k2 k3=>?_);dsimp only;by_cases hkk:i3 - k > 0
    ·rw[ak hkk];have m4':=m3.extA (k:=k) sa (by omega) (by omega) k1 (fun p h1 h2 z h3=>O.le_trans (sb z j3 (by omega) (by omega)) (O.lt_le (k3 p h1 h2)));by_cases e5:k=0
     ·rw[ak (by rw[e5];rfl)];exact wpS_pure ⟨gs3 _,.inl ⟨_,_,rfl,m4'.fin1 sa sb (by omega) (by omega) (.inl e5)⟩⟩
     ·rw[ah (by simpa using e5)];refine wpS_bind (bd (bp (show j3<b.size by omega)) ?_);have m5:=m4'.putB sb (by omega) (by omega) (fun p h1=>k2 p (by omega));by_cases e1:j3=1
      ·rw[ak (by rw[e1];rfl)];exact wpS_pure ⟨gs3 _,.inl ⟨_,_,rfl,m5.fin2 sa sb (by omega) (by omega) e1 fb⟩⟩
      ·rw[ah (by simpa using e1)];refine wpS_bind (bd (bp (show k - 1<a.size by omega)) ?_);refine wpS_bind (rS (O:=O) ((gs3 _).kind.trans hk) ob (oa _ (by omega)) sb (by omega) (by omega) fun r r1 r2 r3=>?_);dsimp only;by_cases hr:j3 - r > 0
       ·rw[ak hr];have m6:=m5.extB (k:=r) sb (by omega) (by omega) r1 (fun p h1 h2 z h3=>O.le_trans (sa z (k - 1) (by omega) (by omega)) (r3 p h1 h2));by_cases e2:r=1
        ·rw[ak (by rw[e2];rfl)];exact wpS_pure ⟨gs3 _,.inl ⟨_,_,rfl,m6.fin2 sa sb (by omega) (by omega) e2 fb⟩⟩
        ·rw[ah (by simpa using e2)];by_cases e7:r=0
         ·rw[ak (by rw[e7];rfl)];exact wpS_pure ⟨gs3 _,.inl ⟨_,_,rfl,m6.fin1 sa sb (by omega) (by omega) (.inr e7)⟩⟩
         ·rw[ah (by simpa using e7)];refine wpS_bind (bd (bp (show k - 1<a.size by omega)) ?_);have m7:MH O a b _ (k - 1) r:=MH.putA (i:=k - 1) (by rw[show k - 1+1=k by omega];exact m6) sa (by omega) (by omega) (fun p h1=>O.lt_le (r2 p (by omega)));by_cases e3:k - 1=0
          ·rw[ak (by rw[e3];rfl)];exact wpS_pure ⟨gs3 _,.inl ⟨_,_,rfl,m7.fin1 sa sb (by omega) (by omega) (.inl e3)⟩⟩
          ·rw[ah (by simpa using e3)];by_cases e4:(decide (i3 - k<7)&&decide (j3 - r<7))=true
           ·rw[ak e4];exact wpS_pure ⟨gs3 _,.inr ⟨_,_,_,_,_,_,rfl,m7,by omega,by omega,by omega,by omega,by omega⟩⟩
           ·rw[ah e4];exact wpS_pure ⟨gs3 _,_,_,_,_,_,_,rfl,m7,by omega,by omega,by omega,by omega,by omega⟩
       ·rw[ah hr];have er:r=j3:=by omega
        have m6:=m5;refine wpS_bind (bd (bp (show k - 1<a.size by omega)) ?_);have m7:MH O a b _ (k - 1) j3:=MH.putA (i:=k - 1) (by rw[show k - 1+1=k by omega];exact m6) sa (by omega) (by omega) (fun p h1=>O.lt_le (r2 p (by omega)));by_cases e3:k - 1=0
        ·rw[ak (by rw[e3];rfl)];exact wpS_pure ⟨gs3 _,.inl ⟨_,_,rfl,m7.fin1 sa sb (by omega) (by omega) (.inl e3)⟩⟩
        ·rw[ah (by simpa using e3)];by_cases e4:(decide (i3 - k<7)&&decide (j3 - r<7))=true
         ·rw[ak e4];exact wpS_pure ⟨gs3 _,.inr ⟨_,_,_,_,_,_,rfl,m7,by omega,by omega,by omega,by omega,by omega⟩⟩
         ·rw[ah e4];exact wpS_pure ⟨gs3 _,_,_,_,_,_,_,rfl,m7,by omega,by omega,by omega,by omega,by omega⟩
    ·rw[ah hkk];have ek:k=i3:=by omega
     have m4':=m3;refine wpS_bind (bd (bp (show j3<b.size by omega)) ?_);have m5:=m4'.putB sb (by omega) (by omega) (fun p h1=>k2 p (by omega));by_cases e1:j3=1
     ·rw[ak (by rw[e1];rfl)];exact wpS_pure ⟨gs3 _,.inl ⟨_,_,rfl,m5.fin2 sa sb (by omega) (by omega) e1 fb⟩⟩
     ·rw[ah (by simpa using e1)];refine wpS_bind (bd (bp (show i3 - 1<a.size by omega)) ?_);refine wpS_bind (rS (O:=O) ((gs3 _).kind.trans hk) ob (oa _ (by omega)) sb (by omega) (by omega) fun r r1 r2 r3=>?_);dsimp only;by_cases hr:j3 - r > 0
      ·rw[ak hr];have m6:=m5.extB (k:=r) sb (by omega) (by omega) r1 (fun p h1 h2 z h3=>O.le_trans (sa z (i3 - 1) (by omega) (by omega)) (r3 p h1 h2));by_cases e2:r=1
       ·rw[ak (by rw[e2];rfl)];exact wpS_pure ⟨gs3 _,.inl ⟨_,_,rfl,m6.fin2 sa sb (by omega) (by omega) e2 fb⟩⟩
       ·rw[ah (by simpa using e2)];by_cases e7:r=0
        ·rw[ak (by rw[e7];rfl)];exact wpS_pure ⟨gs3 _,.inl ⟨_,_,rfl,m6.fin1 sa sb (by omega) (by omega) (.inr e7)⟩⟩
        ·rw[ah (by simpa using e7)];refine wpS_bind (bd (bp (show i3 - 1<a.size by omega)) ?_);have m7:MH O a b _ (i3 - 1) r:=MH.putA (i:=i3 - 1) (by rw[show i3 - 1+1=i3 by omega];exact m6) sa (by omega) (by omega) (fun p h1=>O.lt_le (r2 p (by omega)));by_cases e3:i3 - 1=0
         ·rw[ak (by rw[e3];rfl)];exact wpS_pure ⟨gs3 _,.inl ⟨_,_,rfl,m7.fin1 sa sb (by omega) (by omega) (.inl e3)⟩⟩
         ·rw[ah (by simpa using e3)];by_cases e4:(decide (i3 - k<7)&&decide (j3 - r<7))=true
          ·rw[ak e4];exact wpS_pure ⟨gs3 _,.inr ⟨_,_,_,_,_,_,rfl,m7,by omega,by omega,by omega,by omega,by omega⟩⟩
          ·rw[ah e4];exact wpS_pure ⟨gs3 _,_,_,_,_,_,_,rfl,m7,by omega,by omega,by omega,by omega,by omega⟩
      ·rw[ah hr];have er:r=j3:=by omega
       have m6:=m5;refine wpS_bind (bd (bp (show i3 - 1<a.size by omega)) ?_);have m7:MH O a b _ (i3 - 1) j3:=MH.putA (i:=i3 - 1) (by rw[show i3 - 1+1=i3 by omega];exact m6) sa (by omega) (by omega) (fun p h1=>O.lt_le (r2 p (by omega)));by_cases e3:i3 - 1=0
       ·rw[ak (by rw[e3];rfl)];exact wpS_pure ⟨gs3 _,.inl ⟨_,_,rfl,m7.fin1 sa sb (by omega) (by omega) (.inl e3)⟩⟩
       ·rw[ah (by simpa using e3)];by_cases e4:(decide (i3 - k<7)&&decide (j3 - r<7))=true
        ·rw[ak e4];exact wpS_pure ⟨gs3 _,.inr ⟨_,_,_,_,_,_,rfl,m7,by omega,by omega,by omega,by omega,by omega⟩⟩
        ·rw[ah e4];exact wpS_pure ⟨gs3 _,_,_,_,_,_,_,rfl,m7,by omega,by omega,by omega,by omega,by omega⟩
end
def kl (l:List Keyed)(i:Nat):Keyed:=(l[i]?).getD (.none,.none)
theorem fZ {a:Array Keyed}:kat a i=kl a.toList i:=by unfold kat kl;rw[getElem?_toList]
theorem i9 {l r:List Keyed}:kl (l++r) (l.length+i)=kl r i:=by unfold kl;rw[bJ (Nat.le_add_right _ _),Nat.add_sub_cancel_left]
theorem pJ {l r:List Keyed}(h:i<l.length):kl (l++r) i=kl l i:=by unfold kl;rw[cy h]
theorem g_ {l:List Keyed}(h:i<l.length):kl l i=l[i]:=by unfold kl;rw[List.getElem?_eq_getElem h];rfl
theorem tm {l:List Keyed}(h:i<l.length):kl l i∈l:=by rw[g_ h];exact getElem_mem h
theorem fW {l:List Keyed}{z:Keyed}(h:z∈l):∃i,i<l.length/\z=kl l i:=by
 obtain⟨i,hi,e⟩:=getElem_of_mem h;exact⟨i,hi,by rw[g_ hi,e]⟩
theorem g7 {l:List Keyed}(h:i<n):kl (l.take n) i=kl l i:=by unfold kl;rw[getElem?_take_of_lt h]
theorem i_ {l:List Keyed}:kl (l.drop n) i=kl l (n+i):=by unfold kl;rw[List.getElem?_drop]
theorem lU (c:Nat):∀(l:List Keyed) (n:Nat) (a:Array Keyed),c+n+l.length<=a.size->((l.zipIdx n).foldl (fun a x=>a.setIfInBounds (c+x.snd) x.fst) a).toList=a.toList.take (c+n)++l++a.toList.drop (c+n+l.length)
 | [],n,a,_=>by
  show a.toList=_;rw[cH];exact(take_append_drop (c+n) a.toList).symm
 | x::l,n,a,h=>by
  rw[aR] at h;show ((l.zipIdx (n+1)).foldl (fun a x=>a.setIfInBounds (c+x.snd) x.fst) (a.setIfInBounds (c+n) x)).toList=_;have hs:(a.setIfInBounds (c+n) x).size=a.size:=by simp
  rw[lU c l (n+1) _ (by rw[hs];omega),Array.toList_setIfInBounds];have hl:c+n<a.toList.length:=by rw[length_toList];omega
  have e1:(a.toList.set (c+n) x).take (c+(n+1))=a.toList.take (c+n)++[x]:=by
   rw[<- Nat.add_assoc,take_add_one,List.take_set_of_le (by omega),getElem?_set_self hl];rfl
  have e2:(a.toList.set (c+n) x).drop (c+(n+1)+l.length)=a.toList.drop (c+n+(l.length+1)):=by
   rw[List.drop_set_of_lt (by omega)];congr 1;omega
  rw[e1,e2,az,az,az];rfl
theorem tR {σ:Type}{x:σ}{Q:PUnit->σ->Prop}{st:σ}(h:Q ⟨⟩ x):wpS M A E s (set x:StateT σ Sem PUnit) Q st:=by
 unfold wpS;rw[StateT.run_set];exact ae ⟨rfl,h⟩
section
variable {O:SOrd M A E s}
theorem io {l:List Keyed}(h:l.Pairwise O.le){p q:Nat}(hpq:p<=q)(hq:q<l.length):O.le (kl l p) (kl l q):=by
 rw[g_ hq,g_ (by omega)];by_cases e:p=q
 ·subst e;exact O.le_refl _
 ·exact pairwise_iff_getElem.mp h p q (by omega) hq (by omega)
theorem v5 {a:Array Keyed}(h:a.toList.Pairwise O.le):Sr O a:=fun i j h1 h2=>by
 rw[fZ,fZ];exact io h h1 (by rw[length_toList];exact h2)
theorem wL {na pw sb nb pw2:Nat}{Q:Bool->SortSt->Prop}{st:SortSt}{P X Y S:List Keyed}(hk:kindOf st=O.kd)(hfl:failedOf st=none)(h1:(pendingOf st)[i]?=some (P.length,X.length,pw))(h2:(pendingOf st)[i+1]?=some (P.length+X.length,Y.length,pw2))
  (ha:(arrOf st).toList=P++X++Y++S) (ok:∀z∈(arrOf st).toList,O.ok z) (hX:0<X.length) (hY:0<Y.length) (sX:X.Pairwise O.le) (sY:Y.Pairwise O.le)
  (q:∀(a':Array Keyed) (g:Nat) (Z:List Keyed),a'.toList=P++Z++S->Z.Pairwise O.le->Z.Perm (X++Y)->Q true (SortSt.mk' (kindOf st) a' (((pendingOf st).setIfInBounds i (P.length,X.length+Y.length,pw)).eraseIdxIfInBounds (i+1)) g (failedOf st))):wpS M A E s (mergeAt' i) Q st:=by
 have hsz:(arrOf st).size=P.length+X.length+Y.length+S.length:=by rw[<- length_toList,ha];simp only[aB]
 have kX:∀p,p<X.length->kat (arrOf st) (P.length+p)=kl X p:=fun p hp=>by
  rw[fZ,ha,az,az,i9,pJ hp]
 have kY:∀p,p<Y.length->kat (arrOf st) (P.length+X.length+p)=kl Y p:=fun p hp=>by
  rw[fZ,ha,az,show P.length+X.length=(P++X).length by rw[aB],i9,pJ hp]
 have okk:∀p,p<(arrOf st).size->O.ok (kat (arrOf st) p):=fun p hp=>ok _ (by rw[fZ];exact tm (by rw[length_toList];exact hp));have b0:kat (arrOf st) (P.length+X.length)=kl Y 0:=by have:=kY 0 hY;rwa[add_zero] at this
 delta mergeAt'
 refine wpS_bind (wpS_get ?_);dsimp only;rw[h1,h2];dsimp only;refine wpS_bind (tR ?_);refine wpS_bind (bd (bp (show P.length+X.length<(arrOf st).size by omega)) ?_);rw[b0];have ok0:O.ok (kl Y 0):=by rw[<- b0];exact okk _ (by omega)
 refine wpS_bind (iH O (left:=false) (at':=fun p=>kl X p) hk ok0 (fun p hp=>⟨by rw[<- kX p hp];exact bp (show P.length+p<(arrOf st).size by omega),by rw[<- kX p hp];exact okk _ (by omega)⟩) hX (fun p r a1 a2 a3=>?_) fun k k1 k2 k3=>?_)
 ·unfold db at a3 ⊢;rw[ah aj] at a3 ⊢;have a4:O.le (kl X r) (kl Y 0):=by unfold SOrd.le;simpa using a3
  have a5:=O.le_trans (io sX a1 a2) a4;unfold SOrd.le at a5;rw[a5];rfl
 have F1:∀p,p<k->O.le (kl X p) (kl Y 0):=fun p hp=>by
  have:=k2 p hp;unfold db at this;rw[ah aj] at this;unfold SOrd.le;simpa using this
 have F2:∀p,k<=p->p<X.length->O.blt (kl Y 0) (kl X p)=true:=fun p hp hp2=>by
  have:=k3 p hp hp2;unfold db at this;rw[ah aj] at this;simpa using this
 dsimp only;by_cases c1:X.length - k=0
 ·rw[ak (by rw[c1];rfl)];refine wpS_pure (q _ _ (X++Y) (by rw[ha];simp only[az]) ?_ (.refl _));rw[pairwise_append];refine⟨sX,sY,fun x hx y hy=>?_⟩;obtain⟨p,hp,rfl⟩:=fW hx;obtain⟨r,hr,rfl⟩:=fW hy;exact O.le_trans (F1 p (by omega)) (io sY (zero_le _) hr)
 rw[ah (by simpa using c1)];have el:P.length+k+(X.length - k) - 1=P.length+(X.length - 1):=by omega
 rw[el];refine wpS_bind (bd (bp (show P.length+(X.length - 1)<(arrOf st).size by omega)) ?_);rw[kX (X.length - 1) (by omega)];have okl:O.ok (kl X (X.length - 1)):=by rw[<- kX _ (by omega)];exact okk _ (by omega)
 refine wpS_bind (iH O (left:=true) (at':=fun p=>kl Y p) hk okl (fun p hp=>⟨by rw[<- kY p hp];exact bp (show P.length+X.length+p<(arrOf st).size by omega),by rw[<- kY p hp];exact okk _ (by omega)⟩) (by omega) (fun p r a1 a2 a3=>?_) fun n n1 n2 n3=>?_)
 ·unfold db at a3 ⊢;rw[ak rfl] at a3 ⊢;exact O.le_of (io sY a1 a2) a3
 have G1:∀p,p<n->O.blt (kl Y p) (kl X (X.length - 1))=true:=fun p hp=>by
  have:=n2 p hp;unfold db at this
  rwa[ak rfl] at this
 have G2:∀p,n<=p->p<Y.length->O.le (kl X (X.length - 1)) (kl Y p):=fun p hp hp2=>by
  have:=n3 p hp hp2;unfold db at this
  rwa[ak rfl] at this
 dsimp only;by_cases c2:n=0
 ·exfalso
  have g:=G2 0 (by omega) hY;have f:=F2 (X.length - 1) (by omega) (by omega);unfold SOrd.le at g;rw[f] at g;cases g
 rw[ah (by simpa using c2)]
 have ex:((arrOf st).extract (P.length+k) (P.length+X.length)).toList=X.drop k:=by
  rw[eY,ha,az,az,List.drop_length_add_append,List.drop_append_of_le_length (by omega),show P.length+X.length - (P.length+k)=(X.drop k).length by rw[bf];omega,List.take_left]
 have ey:((arrOf st).extract (P.length+X.length) (P.length+X.length+n)).toList=Y.take n:=by
  rw[eY,ha,az,show P.length+X.length=(P++X).length by rw[aB],List.drop_left,show (P++X).length+n - (P++X).length=n by omega,List.take_append_of_le_length n1]
 generalize (arrOf st).extract (P.length+k) (P.length+X.length)=x at *;generalize (arrOf st).extract (P.length+X.length) (P.length+X.length+n)=y at *;have xs:x.size=X.length - k:=by rw[<- length_toList,ex,bf]
 have ys:y.size=n:=by rw[<- length_toList,ey,aF];omega
 have kx:∀p,p<x.size->kat x p=kl X (k+p):=fun p hp=>by rw[fZ,ex,i_]
 have ky:∀p,p<y.size->kat y p=kl Y p:=fun p hp=>by rw[fZ,ey,g7 (by omega)]
 have okx:∀p,p<x.size->O.ok (kat x p):=fun p hp=>by rw[kx p hp,<- kX _ (by omega)];exact okk _ (by omega)
 have oky:∀p,p<y.size->O.ok (kat y p):=fun p hp=>by rw[ky p hp,<- kY _ (by omega)];exact okk _ (by omega)
 have sx:Sr O x:=v5 (by rw[ex];exact sX.sublist (drop_sublist _ _));have sy:Sr O y:=v5 (by rw[ey];exact sY.sublist (take_sublist _ _))
 have hf:O.blt (kat y 0) (kat x 0)=true:=by
  rw[ky 0 (by omega),kx 0 (by omega)];exact F2 _ (by omega) (by omega)
 have hl:∀p,p<y.size->O.blt (kat y p) (kat x (x.size - 1))=true:=fun p hp=>by
  rw[ky p hp,kx _ (by omega),show k+(x.size - 1)=X.length - 1 by omega];exact G1 p (by omega)
 have fin:∀(r:Array Keyed) (g:Nat),Res O x y r->Q true (SortSt.mk' (kindOf st) (r.toList.zipIdx.foldl (fun a x=>a.setIfInBounds (P.length+k+x.snd) x.fst) (arrOf st)) (((pendingOf st).setIfInBounds i (P.length,X.length+Y.length,pw)).eraseIdxIfInBounds (i+1)) g (failedOf st)):=fun r g res=>by
  obtain⟨so,pm⟩:=res;rw[ex,ey] at pm;have rl:=pm.length_eq;rw[aB,bf,aF] at rl;have inR:∀z∈r.toList,z∈X.drop k\/z∈Y.take n:=fun z hz=>ba.mp (pm.mem_iff.mp hz);refine q _ g (X.take k++r.toList++Y.drop n) ?_ ?_ ?_
  ·rw[lU (P.length+k) r.toList 0 (arrOf st) (by omega),ha]
   have t1:(P++X++Y++S).take (P.length+k+0)=P++X.take k:=by
    rw[add_zero,az,az,List.take_length_add_append,List.take_append_of_le_length (by omega)]
   have t2:(P++X++Y++S).drop (P.length+k+0+r.toList.length)=Y.drop n++S:=by
    rw[show P.length+k+0+r.toList.length=(P++X).length+n by rw[aB];omega,az (P++X),List.drop_length_add_append,List.drop_append_of_le_length (by omega)]
   rw[t1,t2];simp only[az]
  ·rw[pairwise_append,pairwise_append];refine⟨⟨sX.sublist (take_sublist _ _),so,fun u hu v hv=>?_⟩,sY.sublist (drop_sublist _ _),fun u hu v hv=>?_⟩
   ·obtain⟨p,hp,rfl⟩:=fW hu;rw[aF] at hp;rw[g7 (by omega)];rcases inR v hv with hv|hv
    ·obtain⟨w,hw,rfl⟩:=fW hv;rw[bf] at hw;rw[i_];exact io sX (by omega) (by omega)
    ·obtain⟨w,hw,rfl⟩:=fW hv;rw[aF] at hw;rw[g7 (by omega)];exact O.le_trans (F1 p (by omega)) (io sY (zero_le _) (by omega))
   ·obtain⟨w,hw,rfl⟩:=fW hv;rw[bf] at hw;rw[i_];have g2:=G2 (n+w) (by omega) (by omega);rcases ba.mp hu with hu|hu
    ·obtain⟨p,hp,rfl⟩:=fW hu;rw[aF] at hp;rw[g7 (by omega)];exact O.le_trans (io sX (show p<=X.length - 1 by omega) (by omega)) g2
    ·rcases inR u hu with hu|hu
     ·obtain⟨p,hp,rfl⟩:=fW hu;rw[bf] at hp;rw[i_];exact O.le_trans (io sX (show k+p<=X.length - 1 by omega) (by omega)) g2
     ·obtain⟨p,hp,rfl⟩:=fW hu;rw[aF] at hp;rw[g7 (by omega)];exact io sY (by omega) (by omega)
  ·have e1:X++Y=X.take k++(X.drop k++Y.take n)++Y.drop n:=by
    conv=>lhs;rw[<- take_append_drop k X,<- take_append_drop n Y]
    simp only[az]
   rw[e1];exact(pm.append_left _).append_right _
 by_cases c3:X.length - k<=n
 ·rw[ak c3];refine wpS_bind (wJ (O:=O) hk okx oky sx sy (by omega) (by omega) hf hl fun r st' gs res=>?_);obtain⟨g,rfl⟩:=gs;refine wpS_bind (wpS_modify (wpS_bind (wpS_get (wpS_pure ?_))));show Q (failedOf st).isNone _;have:=fin r g res;rw[hfl] at this ⊢;exact this
 ·rw[ah c3];refine wpS_bind (wK (O:=O) hk okx oky sx sy (by omega) (by omega) hf hl fun r st' gs res=>?_);obtain⟨g,rfl⟩:=gs;refine wpS_bind (wpS_modify (wpS_bind (wpS_get (wpS_pure ?_))));show Q (failedOf st).isNone _;have:=fin r g res;rw[hfl] at this ⊢;exact this
end
theorem cu {a:Array Keyed}{p:Nat}(hj:j<=a.size):kat (mirror a i j ((j - i) / 2)) p=if i<=p/\p<j then kat a (i+j - 1 - p) else kat a p:=by
 unfold kat
 rw[getElem?_mirror_all hj];split<;>rfl
theorem pN {a:Array Keyed}{src d p:Nat}(hs:src<a.size)(hd:d<=src):kat (bubble a src d) p=if p=src - d then kat a src else if src - d<p/\p<=src then kat a (p - 1) else kat a p:=by
 unfold kat
 rw[getElem?_bubble hs d hd];split
 ·rfl
 ·split<;>rfl
structure Sb (lo:Nat)(st st':SortSt):Prop where
 eq:st'=setArr st (arrOf st')
 perm:(arrOf st').toList.Perm (arrOf st).toList
 same:∀p,p<lo->kat (arrOf st') p=kat (arrOf st) p
theorem Sb.refl (lo:Nat)(st:SortSt):Sb lo st st:=⟨rfl,.refl _,fun _ _=>rfl⟩
theorem Sb.size {st st':SortSt}(h:Sb lo st st'):(arrOf st').size=(arrOf st).size:=by rw[<- length_toList,<- length_toList];exact h.perm.length_eq
theorem Sb.kind {st st':SortSt}(h:Sb lo st st'):kindOf st'=kindOf st:=by rw[h.eq]
theorem Sb.to {st st':SortSt}{a:Array Keyed}(h:Sb lo st st')(p:a.toList.Perm (arrOf st').toList)(k:∀p,p<lo->kat a p=kat (arrOf st') p):Sb lo st (setArr st' a):=
 ⟨by have:=h.eq;rw[this],p.trans h.perm,fun r hr=>(k r hr).trans (h.same r hr)⟩
section
variable (O:SOrd M A E s)
def Upw (a:Array Keyed)(lo n:Nat):Prop:=∀p q,p<=q->q<n->O.le (kat a (lo+p)) (kat a (lo+q))
def Dwn (a:Array Keyed)(lo n:Nat):Prop:=∀p q,p<=q->q<n->O.le (kat a (lo+q)) (kat a (lo+p))
variable {O}
theorem tj {st:SortSt}{Q:Option Bool->SortSt->Prop}(hk:kindOf st=O.kd)(ok:∀z∈(arrOf st).toList,O.ok z)(hi:i<(arrOf st).size)(hj:j<(arrOf st).size)(q:Q (some (O.blt (kat (arrOf st) i) (kat (arrOf st) j))) st):wpS M A E s (ltAt' i j) Q st:=by
 have okk:∀p,p<(arrOf st).size->O.ok (kat (arrOf st) p):=fun p hp=>ok _ (by rw[fZ];exact tm (by rw[length_toList];exact hp));rw[ltAt'_eq];refine wpS_bind (wpS_get (wpS_bind (bd (bp hi) (wpS_bind (bd (bp hj) ?_)))));exact O.run (okk _ hi) (okk _ hj) hk q
theorem Upw.one {a:Array Keyed}:Upw O a lo 1:=fun p q h1 h2=>by
 have:p=q:=by omega
 subst this;exact O.le_refl _
theorem Upw.more {a:Array Keyed}(h:Upw O a lo n)(hn:0<n)(l:O.le (kat a (lo+n - 1)) (kat a (lo+n))):Upw O a lo (n+1):=fun p q h1 h2=>by
 by_cases e:q=n
 ·subst e;by_cases e2:p=q
  ·subst e2;exact O.le_refl _
  ·have:=h p (q - 1) (by omega) (by omega);rw[show lo+(q - 1)=lo+q - 1 by omega] at this;exact O.le_trans this l
 ·exact h p q h1 (by omega)
theorem Dwn.more {a:Array Keyed}(h:Dwn O a lo n)(hn:0<n)(l:O.le (kat a (lo+n)) (kat a (lo+n - 1))):Dwn O a lo (n+1):=fun p q h1 h2=>by
 by_cases e:q=n
 ·subst e;by_cases e2:p=q
  ·subst e2;exact O.le_refl _
  ·have:=h p (q - 1) (by omega) (by omega);rw[show lo+(q - 1)=lo+q - 1 by omega] at this;exact O.le_trans l this
 ·exact h p q h1 (by omega)
def xL (O:SOrd M A E s)(a a':Array Keyed):Prop:=∀p,O.le (kat a' p) (kat a p)/\O.le (kat a p) (kat a' p)
theorem Dwn.alike {a a':Array Keyed}(h:Dwn O a lo n)(e:xL O a a'):Dwn O a' lo n:=fun p q h1 h2=>O.le_trans (e _).1 (O.le_trans (h p q h1 h2) (e _).2)
theorem eM {a:Array Keyed}(hj:j<=a.size)(h:∀p q,i<=p->p<j->i<=q->q<j->O.le (kat a p) (kat a q)):xL O a (mirror a i j ((j - i) / 2)):=fun p=>by
 rw[cu hj];split
 ·exact⟨h _ _ (by omega) (by omega) (by omega) (by omega),h _ _ (by omega) (by omega) (by omega) (by omega)⟩
 ·exact⟨O.le_refl _,O.le_refl _⟩
theorem dq (a:Array Keyed)(i j d:Nat):(mirror a i j d).toList.Perm a.toList:=Array.perm_iff_toList_perm.mp (mirror_perm a i j d)
theorem sr (a:Array Keyed)(i d:Nat):(bubble a i d).toList.Perm a.toList:=Array.perm_iff_toList_perm.mp (bubble_perm a i d)
theorem ka {n0:Nat}{st:SortSt}{Q:Option (Option Nat)×Nat->SortSt->Prop}{f:Nat->Option (Option Nat)×Nat->StateT SortSt Sem (ForInStep (Option (Option Nat)×Nat))}(h1:0<n0)(h2:n0<=nr)(u:Upw O (arrOf st) lo n0)
  (hf:∀x n R,0<n->n<nr->(O.blt (kat (arrOf st) (lo+n)) (kat (arrOf st) (lo+n - 1))=true->R (.done (none,n)) st)->(O.blt (kat (arrOf st) (lo+n)) (kat (arrOf st) (lo+n - 1))=false->R (.yield (none,n+1)) st)->wpS M A E s (f x (none,n)) R st)
  (q:∀n,n0<=n->n<=nr->Upw O (arrOf st) lo n->(n=nr\/O.blt (kat (arrOf st) (lo+n)) (kat (arrOf st) (lo+n - 1))=true)->Q (none,n) st):wpS M A E s (forIn [n0:nr] (none,n0) f) Q st:=by
 refine wpS_mono (wpS_forRange (I:=fun x c st'=>st'=st/\c=(none,x)/\Upw O (arrOf st) lo x) (Q:=fun c st'=>st'=st/\∃n,c=(none,n)/\n0<=n/\n<=nr/\Upw O (arrOf st) lo n/\(n=nr\/O.blt (kat (arrOf st) (lo+n)) (kat (arrOf st) (lo+n - 1))=true)) ?_ ?_ ⟨rfl,rfl,u⟩) ?_
 ·rintro x c st' hx hx2 ⟨rfl,rfl,ux⟩;exact hf x x _ (by omega) hx2 (fun hb=>⟨rfl,x,rfl,hx,by omega,ux,.inr hb⟩) (fun hb=>⟨rfl,rfl,ux.more (by omega) hb⟩)
 ·rintro c st' ⟨rfl,rfl,ux⟩;exact⟨rfl,_,rfl,by omega,by omega,ux,.inl (by omega)⟩
 ·rintro c st' ⟨rfl,n,rfl,a1,a2,a3,a4⟩;exact q n a1 a2 a3 a4
theorem u5 {Q:Option Nat->SortSt->Prop}{st:SortSt}(hk:kindOf st=O.kd)(ok:∀z∈(arrOf st).toList,O.ok z)(hs:lo+nr=(arrOf st).size)(h0:0<nr)
  (q:∀n st',Sb lo st st'->0<n->n<=nr->Upw O (arrOf st') lo n->Q (some n) st'):wpS M A E s (countRun' lo nr) Q st:=by
 have okS:∀{st'},Sb lo st st'->∀z∈(arrOf st').toList,O.ok z:=fun {st'} h z hz=>ok z (h.perm.mem_iff.mp hz)
 have cmp:∀{st'} (i j:Nat) (R:Option Bool->SortSt->Prop),Sb lo st st'->i<(arrOf st).size->j<(arrOf st).size->R (some (O.blt (kat (arrOf st') i) (kat (arrOf st') j))) st'->wpS M A E s (ltAt' i j) R st':=fun {st'} i j R h hi hj r=>tj (h.kind.trans hk) (okS h) (by rw[h.size];exact hi) (by rw[h.size];exact hj) r
 delta countRun'
 refine wpS_bind (ka (O:=O) (lo:=lo) (by omega) h0 Upw.one (fun x n R n0 hn r1 r2=>?_) fun n n1 n2 un hn=>?_)
 ·dsimp only;refine wpS_bind (cmp _ _ _ (Sb.refl lo st) (by omega) (by omega) ?_);dsimp only;by_cases hb:O.blt (kat (arrOf st) (lo+n)) (kat (arrOf st) (lo+n - 1))=true
  ·rw[ak hb];exact wpS_pure (r1 hb)
  ·rw[ah hb];exact wpS_pure (r2 (by simpa using hb))
 dsimp only;by_cases c1:n=nr
 ·rw[ak (by rw[c1];simp)];exact wpS_pure (q n st (Sb.refl lo st) (by omega) n2 un)
 rw[ah (by simpa using c1)];have hlt:=hn.resolve_left c1;by_cases c2:n > 1
 ·rw[ak c2];refine wpS_bind (cmp _ _ _ (Sb.refl lo st) (by omega) (by omega) ?_);dsimp only;by_cases c3:O.blt (kat (arrOf st) lo) (kat (arrOf st) (lo+n - 1))=true
  ·rw[ak c3];exact wpS_pure (q n st (Sb.refl lo st) (by omega) n2 un)
  rw[ah c3];have c3':O.le (kat (arrOf st) (lo+n - 1)) (kat (arrOf st) lo):=by unfold SOrd.le;simpa using c3
  refine wpS_bind (wpS_modify ?_)
  have all:∀p q,lo<=p->p<lo+n->lo<=q->q<lo+n->O.le (kat (arrOf st) p) (kat (arrOf st) q):=fun p q h1 h2 h3 h4=>by
   have a1:=un (p - lo) (n - 1) (by omega) (by omega);have a2:=un 0 (q - lo) (by omega) (by omega);rw[show lo+(p - lo)=p by omega,show lo+(n - 1)=lo+n - 1 by omega] at a1;rw[show lo+(q - lo)=q by omega,add_zero] at a2;exact O.le_trans a1 (O.le_trans c3' a2)
  have sb1:Sb lo st (setArr st (mirror (arrOf st) lo (lo+n) ((lo+n - lo) / 2))):=(Sb.refl lo st).to (dq _ _ _ _) (fun p hp=>by rw[cu (by omega),ah (by omega)])
  have D1:Dwn O (mirror (arrOf st) lo (lo+n) ((lo+n - lo) / 2)) lo (n+1):=by
   have al:=eM (O:=O) (a:=arrOf st) (i:=lo) (j:=lo+n) (by omega) all;refine Dwn.alike ?_ al;refine Dwn.more (fun p q h1 h2=>all _ _ (by omega) (by omega) (by omega) (by omega)) (by omega) (O.lt_le hlt)
  show wpS M A E s _ Q (setArr st (mirror (arrOf st) lo (lo+n) ((lo+n - lo) / 2)));generalize hst:setArr st (mirror (arrOf st) lo (lo+n) ((lo+n - lo) / 2))=st1 at *;have D1':Dwn O (arrOf st1) lo (n+1):=by rw[<- hst];exact D1
  clear hst D1 all;refine wpS_bind (wpS_lift (wpAny_rule ⟨rfl,?_⟩))
  refine wpS_bind (wpS_mono (wpS_forRange (I:=fun x c st'=>Sb lo st st'/\∃e,c=(none,x,e)/\e+1<=x/\Dwn O (arrOf st') lo x/\∀p,x<=p+e+1->p<x->O.le (kat (arrOf st') (lo+p)) (kat (arrOf st') (lo+x - 1))) (Q:=fun c st'=>Sb lo st st'/\∃x e,c=(none,x,e)/\n+1<=x/\x<=nr/\e+1<=x/\Dwn O (arrOf st') lo x/\∀p,x<=p+e+1->p<x->O.le (kat (arrOf st') (lo+p)) (kat (arrOf st') (lo+x - 1))) ?dstep ?dfin ⟨sb1,0,rfl,by omega,D1',fun p h1 h2=>by rw[show lo+p=lo+(n+1) - 1 by omega];exact O.le_refl _⟩) ?dpost)
  case dfin=>
   rintro c st' ⟨sb,e,rfl,a1,a2,a3⟩;exact⟨sb,_,e,rfl,by omega,by omega,a1,a2,a3⟩
  case dstep=>
   rintro x c st2 hx hx2 ⟨sb2,e,rfl,a1,a2,a3⟩;dsimp only;refine wpS_bind (cmp _ _ _ sb2 (by omega) (by omega) ?_);dsimp only;by_cases hb:O.blt (kat (arrOf st2) (lo+x)) (kat (arrOf st2) (lo+x - 1))=true
   ·rw[ak hb];by_cases he:e > 0
    ·rw[ak he];refine wpS_bind (wpS_modify (wpS_pure ?_));have hsz:lo+x<=(arrOf st2).size:=by rw[sb2.size];omega
     have blk:∀p q,lo+x - (e+1)<=p->p<lo+x->lo+x - (e+1)<=q->q<lo+x->O.le (kat (arrOf st2) p) (kat (arrOf st2) q):=fun p q h1 h2 h3 h4=>by
      have b1:=a3 (p - lo) (by omega) (by omega);have b2:=a2 (q - lo) (x - 1) (by omega) (by omega);rw[show lo+(p - lo)=p by omega] at b1;rw[show lo+(q - lo)=q by omega,show lo+(x - 1)=lo+x - 1 by omega] at b2;exact O.le_trans b1 b2
     have al:=eM (O:=O) (a:=arrOf st2) hsz blk;have sb5:Sb lo st (setArr st2 (mirror (arrOf st2) (lo+x - (e+1)) (lo+x) ((lo+x - (lo+x - (e+1))) / 2))):=sb2.to (dq _ _ _ _) (fun p hp=>by rw[cu hsz,ah (by omega)]);refine⟨sb5,0,rfl,by omega,?_,fun p h1 h2=>by rw[show lo+p=lo+(x+1) - 1 by omega];exact O.le_refl _⟩;exact Dwn.alike (a2.more (by omega) (O.lt_le hb)) al
    ·rw[ah he];exact wpS_pure ⟨sb2,0,rfl,by omega,a2.more (by omega) (O.lt_le hb),fun p h1 h2=>by rw[show lo+p=lo+(x+1) - 1 by omega];exact O.le_refl _⟩
   ·rw[ah hb];have hb':O.le (kat (arrOf st2) (lo+x - 1)) (kat (arrOf st2) (lo+x)):=by unfold SOrd.le;simpa using hb
    refine wpS_bind (cmp _ _ _ sb2 (by omega) (by omega) ?_);dsimp only;by_cases hc:O.blt (kat (arrOf st2) (lo+x - 1)) (kat (arrOf st2) (lo+x))=true
    ·rw[ak hc];exact wpS_pure ⟨sb2,x,e,rfl,hx,by omega,a1,a2,a3⟩
    ·rw[ah hc];have hc':O.le (kat (arrOf st2) (lo+x)) (kat (arrOf st2) (lo+x - 1)):=by unfold SOrd.le;simpa using hc
     refine wpS_pure ⟨sb2,e+1,rfl,by omega,a2.more (by omega) hc',fun p h1 h2=>?_⟩;rw[show lo+(x+1) - 1=lo+x by omega];by_cases ep:p=x
     ·subst ep;exact O.le_refl _
     ·exact O.le_trans (a3 p (by omega) (by omega)) hb'
  case dpost=>
   rintro c st2 ⟨sb2,x,e,rfl,hx,hx2,a1,a2,a3⟩;dsimp only;by_cases he:e > 0
   ·rw[ak he];refine wpS_bind (wpS_modify ?_);have hsz:lo+x<=(arrOf st2).size:=by rw[sb2.size];omega
    have blk:∀p q,lo+x - (e+1)<=p->p<lo+x->lo+x - (e+1)<=q->q<lo+x->O.le (kat (arrOf st2) p) (kat (arrOf st2) q):=fun p q h1 h2 h3 h4=>by
     have b1:=a3 (p - lo) (by omega) (by omega);have b2:=a2 (q - lo) (x - 1) (by omega) (by omega);rw[show lo+(p - lo)=p by omega] at b1;rw[show lo+(q - lo)=q by omega,show lo+(x - 1)=lo+x - 1 by omega] at b2;exact O.le_trans b1 b2
    have al:=eM (O:=O) (a:=arrOf st2) hsz blk;have sb4:Sb lo st (setArr st2 (mirror (arrOf st2) (lo+x - (e+1)) (lo+x) ((lo+x - (lo+x - (e+1))) / 2))):=sb2.to (dq _ _ _ _) (fun p hp=>by rw[cu hsz,ah (by omega)]);have D4:=Dwn.alike a2 al;show wpS M A E s _ Q (setArr st2 (mirror (arrOf st2) (lo+x - (e+1)) (lo+x) ((lo+x - (lo+x - (e+1))) / 2)))
    generalize hst4:setArr st2 (mirror (arrOf st2) (lo+x - (e+1)) (lo+x) ((lo+x - (lo+x - (e+1))) / 2))=st4 at *;have D4':Dwn O (arrOf st4) lo x:=by rw[<- hst4];exact D4
    clear hst4 D4 al blk;refine wpS_bind (wpS_modify ?_);have sb3:Sb lo st (setArr st4 (mirror (arrOf st4) lo (lo+x) ((lo+x - lo) / 2))):=sb4.to (dq _ _ _ _) (fun p hp=>by rw[cu (by rw[sb4.size];omega),ah (by omega)])
    have U3:Upw O (mirror (arrOf st4) lo (lo+x) ((lo+x - lo) / 2)) lo x:=fun p q h1 h2=>by
     rw[cu (by rw[sb4.size];omega),cu (by rw[sb4.size];omega),ak (by omega),ak (by omega),show lo+(lo+x) - 1 - (lo+p)=lo+(x - 1 - p) by omega,show lo+(lo+x) - 1 - (lo+q)=lo+(x - 1 - q) by omega];exact D4' _ _ (by omega) (by omega)
    show wpS M A E s _ Q (setArr st4 (mirror (arrOf st4) lo (lo+x) ((lo+x - lo) / 2)));generalize hst3:setArr st4 (mirror (arrOf st4) lo (lo+x) ((lo+x - lo) / 2))=st3 at *;have U3':Upw O (arrOf st3) lo x:=by rw[<- hst3];exact U3
    clear hst3 U3;refine wpS_bind (ka (O:=O) (lo:=lo) (by omega) (by omega) U3' (fun y n R n0 hn r1 r2=>?_) fun n n1 n2 un hn=>?_)
    ·dsimp only;refine wpS_bind (cmp _ _ _ sb3 (by omega) (by omega) ?_);dsimp only;by_cases hb:O.blt (kat (arrOf st3) (lo+n)) (kat (arrOf st3) (lo+n - 1))=true
     ·rw[ak hb];exact wpS_pure (r1 hb)
     ·rw[ah hb];exact wpS_pure (r2 (by simpa using hb))
    ·dsimp only;exact wpS_pure (q n st3 sb3 (by omega) n2 un)
   ·rw[ah he];refine wpS_bind (wpS_modify ?_);have sb3:Sb lo st (setArr st2 (mirror (arrOf st2) lo (lo+x) ((lo+x - lo) / 2))):=sb2.to (dq _ _ _ _) (fun p hp=>by rw[cu (by rw[sb2.size];omega),ah (by omega)])
    have U3:Upw O (mirror (arrOf st2) lo (lo+x) ((lo+x - lo) / 2)) lo x:=fun p q h1 h2=>by
     rw[cu (by rw[sb2.size];omega),cu (by rw[sb2.size];omega),ak (by omega),ak (by omega),show lo+(lo+x) - 1 - (lo+p)=lo+(x - 1 - p) by omega,show lo+(lo+x) - 1 - (lo+q)=lo+(x - 1 - q) by omega];exact a2 _ _ (by omega) (by omega)
    show wpS M A E s _ Q (setArr st2 (mirror (arrOf st2) lo (lo+x) ((lo+x - lo) / 2)));generalize hst3:setArr st2 (mirror (arrOf st2) lo (lo+x) ((lo+x - lo) / 2))=st3 at *;have U3':Upw O (arrOf st3) lo x:=by rw[<- hst3];exact U3
    clear hst3 U3;refine wpS_bind (ka (O:=O) (lo:=lo) (by omega) (by omega) U3' (fun y n R n0 hn r1 r2=>?_) fun n n1 n2 un hn=>?_)
    ·dsimp only;refine wpS_bind (cmp _ _ _ sb3 (by omega) (by omega) ?_);dsimp only;by_cases hb:O.blt (kat (arrOf st3) (lo+n)) (kat (arrOf st3) (lo+n - 1))=true
     ·rw[ak hb];exact wpS_pure (r1 hb)
     ·rw[ah hb];exact wpS_pure (r2 (by simpa using hb))
    ·dsimp only;exact wpS_pure (q n st3 sb3 (by omega) n2 un)
 ·rw[ah c2];have en:n=1:=by omega
  have sb1:=Sb.refl lo st
  have D1':Dwn O (arrOf st) lo (n+1):=by
   refine Dwn.more (fun p q h1 h2=>?_) (by omega) (O.lt_le hlt);have:p=q:=by omega
   subst this;exact O.le_refl _
  refine wpS_bind (wpS_lift (wpAny_rule ⟨rfl,?_⟩))
  refine wpS_bind (wpS_mono (wpS_forRange (I:=fun x c st'=>Sb lo st st'/\∃e,c=(none,x,e)/\e+1<=x/\Dwn O (arrOf st') lo x/\∀p,x<=p+e+1->p<x->O.le (kat (arrOf st') (lo+p)) (kat (arrOf st') (lo+x - 1))) (Q:=fun c st'=>Sb lo st st'/\∃x e,c=(none,x,e)/\n+1<=x/\x<=nr/\e+1<=x/\Dwn O (arrOf st') lo x/\∀p,x<=p+e+1->p<x->O.le (kat (arrOf st') (lo+p)) (kat (arrOf st') (lo+x - 1))) ?dstep ?dfin ⟨sb1,0,rfl,by omega,D1',fun p h1 h2=>by rw[show lo+p=lo+(n+1) - 1 by omega];exact O.le_refl _⟩) ?dpost)
  case dfin=>
   rintro c st' ⟨sb,e,rfl,a1,a2,a3⟩;exact⟨sb,_,e,rfl,by omega,by omega,a1,a2,a3⟩
  case dstep=>
   rintro x c st2 hx hx2 ⟨sb2,e,rfl,a1,a2,a3⟩;dsimp only;refine wpS_bind (cmp _ _ _ sb2 (by omega) (by omega) ?_);dsimp only;by_cases hb:O.blt (kat (arrOf st2) (lo+x)) (kat (arrOf st2) (lo+x - 1))=true
   ·rw[ak hb];by_cases he:e > 0
    ·rw[ak he];refine wpS_bind (wpS_modify (wpS_pure ?_));have hsz:lo+x<=(arrOf st2).size:=by rw[sb2.size];omega
     have blk:∀p q,lo+x - (e+1)<=p->p<lo+x->lo+x - (e+1)<=q->q<lo+x->O.le (kat (arrOf st2) p) (kat (arrOf st2) q):=fun p q h1 h2 h3 h4=>by
      have b1:=a3 (p - lo) (by omega) (by omega);have b2:=a2 (q - lo) (x - 1) (by omega) (by omega);rw[show lo+(p - lo)=p by omega] at b1;rw[show lo+(q - lo)=q by omega,show lo+(x - 1)=lo+x - 1 by omega] at b2;exact O.le_trans b1 b2
     have al:=eM (O:=O) (a:=arrOf st2) hsz blk;have sb5:Sb lo st (setArr st2 (mirror (arrOf st2) (lo+x - (e+1)) (lo+x) ((lo+x - (lo+x - (e+1))) / 2))):=sb2.to (dq _ _ _ _) (fun p hp=>by rw[cu hsz,ah (by omega)]);refine⟨sb5,0,rfl,by omega,?_,fun p h1 h2=>by rw[show lo+p=lo+(x+1) - 1 by omega];exact O.le_refl _⟩;exact Dwn.alike (a2.more (by omega) (O.lt_le hb)) al
    ·rw[ah he];exact wpS_pure ⟨sb2,0,rfl,by omega,a2.more (by omega) (O.lt_le hb),fun p h1 h2=>by rw[show lo+p=lo+(x+1) - 1 by omega];exact O.le_refl _⟩
   ·rw[ah hb];have hb':O.le (kat (arrOf st2) (lo+x - 1)) (kat (arrOf st2) (lo+x)):=by unfold SOrd.le;simpa using hb
    refine wpS_bind (cmp _ _ _ sb2 (by omega) (by omega) ?_);dsimp only;by_cases hc:O.blt (kat (arrOf st2) (lo+x - 1)) (kat (arrOf st2) (lo+x))=true
    ·rw[ak hc];exact wpS_pure ⟨sb2,x,e,rfl,hx,by omega,a1,a2,a3⟩
    ·rw[ah hc];have hc':O.le (kat (arrOf st2) (lo+x)) (kat (arrOf st2) (lo+x - 1)):=by unfold SOrd.le;simpa using hc
     refine wpS_pure ⟨sb2,e+1,rfl,by omega,a2.more (by omega) hc',fun p h1 h2=>?_⟩;rw[show lo+(x+1) - 1=lo+x by omega];by_cases ep:p=x
     ·subst ep;exact O.le_refl _
     ·exact O.le_trans (a3 p (by omega) (by omega)) hb'
  case dpost=>
   rintro c st2 ⟨sb2,x,e,rfl,hx,hx2,a1,a2,a3⟩;dsimp only;by_cases he:e > 0
   ·rw[ak he];refine wpS_bind (wpS_modify ?_);have hsz:lo+x<=(arrOf st2).size:=by rw[sb2.size];omega
    have blk:∀p q,lo+x - (e+1)<=p->p<lo+x->lo+x - (e+1)<=q->q<lo+x->O.le (kat (arrOf st2) p) (kat (arrOf st2) q):=fun p q h1 h2 h3 h4=>by
     have b1:=a3 (p - lo) (by omega) (by omega);have b2:=a2 (q - lo) (x - 1) (by omega) (by omega);rw[show lo+(p - lo)=p by omega] at b1;rw[show lo+(q - lo)=q by omega,show lo+(x - 1)=lo+x - 1 by omega] at b2;exact O.le_trans b1 b2
    have al:=eM (O:=O) (a:=arrOf st2) hsz blk;have sb4:Sb lo st (setArr st2 (mirror (arrOf st2) (lo+x - (e+1)) (lo+x) ((lo+x - (lo+x - (e+1))) / 2))):=sb2.to (dq _ _ _ _) (fun p hp=>by rw[cu hsz,ah (by omega)]);have D4:=Dwn.alike a2 al;show wpS M A E s _ Q (setArr st2 (mirror (arrOf st2) (lo+x - (e+1)) (lo+x) ((lo+x - (lo+x - (e+1))) / 2)))
    generalize hst4:setArr st2 (mirror (arrOf st2) (lo+x - (e+1)) (lo+x) ((lo+x - (lo+x - (e+1))) / 2))=st4 at *;have D4':Dwn O (arrOf st4) lo x:=by rw[<- hst4];exact D4
    clear hst4 D4 al blk;refine wpS_bind (wpS_modify ?_);have sb3:Sb lo st (setArr st4 (mirror (arrOf st4) lo (lo+x) ((lo+x - lo) / 2))):=sb4.to (dq _ _ _ _) (fun p hp=>by rw[cu (by rw[sb4.size];omega),ah (by omega)])
    have U3:Upw O (mirror (arrOf st4) lo (lo+x) ((lo+x - lo) / 2)) lo x:=fun p q h1 h2=>by
     rw[cu (by rw[sb4.size];omega),cu (by rw[sb4.size];omega),ak (by omega),ak (by omega),show lo+(lo+x) - 1 - (lo+p)=lo+(x - 1 - p) by omega,show lo+(lo+x) - 1 - (lo+q)=lo+(x - 1 - q) by omega];exact D4' _ _ (by omega) (by omega)
    show wpS M A E s _ Q (setArr st4 (mirror (arrOf st4) lo (lo+x) ((lo+x - lo) / 2)));generalize hst3:setArr st4 (mirror (arrOf st4) lo (lo+x) ((lo+x - lo) / 2))=st3 at *;have U3':Upw O (arrOf st3) lo x:=by rw[<- hst3];exact U3
    clear hst3 U3;refine wpS_bind (ka (O:=O) (lo:=lo) (by omega) (by omega) U3' (fun y n R n0 hn r1 r2=>?_) fun n n1 n2 un hn=>?_)
    ·dsimp only;refine wpS_bind (cmp _ _ _ sb3 (by omega) (by omega) ?_);dsimp only;by_cases hb:O.blt (kat (arrOf st3) (lo+n)) (kat (arrOf st3) (lo+n - 1))=true
     ·rw[ak hb];exact wpS_pure (r1 hb)
     ·rw[ah hb];exact wpS_pure (r2 (by simpa using hb))
    ·dsimp only;exact wpS_pure (q n st3 sb3 (by omega) n2 un)
   ·rw[ah he];refine wpS_bind (wpS_modify ?_);have sb3:Sb lo st (setArr st2 (mirror (arrOf st2) lo (lo+x) ((lo+x - lo) / 2))):=sb2.to (dq _ _ _ _) (fun p hp=>by rw[cu (by rw[sb2.size];omega),ah (by omega)])
    have U3:Upw O (mirror (arrOf st2) lo (lo+x) ((lo+x - lo) / 2)) lo x:=fun p q h1 h2=>by
     rw[cu (by rw[sb2.size];omega),cu (by rw[sb2.size];omega),ak (by omega),ak (by omega),show lo+(lo+x) - 1 - (lo+p)=lo+(x - 1 - p) by omega,show lo+(lo+x) - 1 - (lo+q)=lo+(x - 1 - q) by omega];exact a2 _ _ (by omega) (by omega)
    show wpS M A E s _ Q (setArr st2 (mirror (arrOf st2) lo (lo+x) ((lo+x - lo) / 2)));generalize hst3:setArr st2 (mirror (arrOf st2) lo (lo+x) ((lo+x - lo) / 2))=st3 at *;have U3':Upw O (arrOf st3) lo x:=by rw[<- hst3];exact U3
    clear hst3 U3;refine wpS_bind (ka (O:=O) (lo:=lo) (by omega) (by omega) U3' (fun y n R n0 hn r1 r2=>?_) fun n n1 n2 un hn=>?_)
    ·dsimp only;refine wpS_bind (cmp _ _ _ sb3 (by omega) (by omega) ?_);dsimp only;by_cases hb:O.blt (kat (arrOf st3) (lo+n)) (kat (arrOf st3) (lo+n - 1))=true
     ·rw[ak hb];exact wpS_pure (r1 hb)
     ·rw[ah hb];exact wpS_pure (r2 (by simpa using hb))
    ·dsimp only;exact wpS_pure (q n st3 sb3 (by omega) n2 un)
end
section
variable {O:SOrd M A E s}
theorem y0 {ρ:Type}{mid:Nat->Nat->Nat}{b:Nat->Bool}{Q:Option ρ×Nat×Nat->SortSt->Prop}{st:SortSt}{f:Nat->Option ρ×Nat×Nat->StateT SortSt Sem (ForInStep (Option ρ×Nat×Nat))}
  (md:∀l h,l<h->l<=mid l h/\mid l h<h) (mono:∀i j,i<=j->j<n->b j=true->b i=true)
  (f0:∀x lo hi R,lo ≥ hi->R (.done (none,lo,hi)) st->wpS M A E s (f x (none,lo,hi)) R st)
  (f1:∀x lo hi R,lo<hi->hi<=n->(b (mid lo hi)=true->R (.yield (none,mid lo hi+1,hi)) st)->(b (mid lo hi)=false->R (.yield (none,lo,mid lo hi)) st)->wpS M A E s (f x (none,lo,hi)) R st)
  (h1:lo<=hi) (h2:hi<=n) (hlo:∀i,i<lo->b i=true) (hhi:∀i,hi<=i->i<n->b i=false)
  (q:∀k,k<=n->(∀i,i<k->b i=true)->(∀i,k<=i->i<n->b i=false)->Q (none,k,k) st):wpS M A E s (forIn [0:n] (none,lo,hi) f) Q st:=by
 refine wpS_mono (wpS_forRange (I:=fun x c st'=>st'=st/\∃l r,c=(none,l,r)/\l<=r/\r<=n/\r - l<=n - x/\(∀i,i<l->b i=true)/\∀i,r<=i->i<n->b i=false) (Q:=fun c st'=>st'=st/\∃k,c=(none,k,k)/\k<=n/\(∀i,i<k->b i=true)/\∀i,k<=i->i<n->b i=false) ?_ ?_ ⟨rfl,lo,hi,rfl,h1,h2,by omega,hlo,hhi⟩) ?_
 ·rintro x c st' _ hx ⟨rfl,l,r,rfl,a1,a2,a3,a4,a5⟩;by_cases hc:l ≥ r
  ·have e:l=r:=by omega
   subst e;exact f0 x l l _ hc ⟨rfl,l,rfl,a2,a4,a5⟩
  ·have mm:=md l r (by omega);refine f1 x l r _ (by omega) a2 (fun hb=>⟨rfl,_,_,rfl,by omega,a2,by omega,fun i hi=>mono i _ (by omega) (by omega) hb,a5⟩) (fun hb=>⟨rfl,_,_,rfl,by omega,by omega,by omega,a4,fun i h1 h2=>?_⟩);cases c:b i with
   | false=>rfl
   | true=>rw[mono _ i h1 h2 c] at hb;cases hb
 ·rintro c st' ⟨rfl,l,r,rfl,a1,a2,a3,a4,a5⟩;have e:l=r:=by omega
  subst e;exact⟨rfl,l,rfl,a2,a4,a5⟩
 ·rintro c st' ⟨rfl,k,rfl,a1,a2,a3⟩;exact q k a1 a2 a3
theorem Upw.put {a:Array Keyed}{k l:Nat}(h:Upw O a lo k)(hs:lo+k<a.size)(hl:l<=k)(h1:∀p,p<l->O.le (kat a (lo+p)) (kat a (lo+k)))(h2:∀p,l<=p->p<k->O.le (kat a (lo+k)) (kat a (lo+p))):Upw O (bubble a (lo+k) (lo+k - (lo+l))) lo (k+1):=by
 have e:∀p,p<=k->kat (bubble a (lo+k) (lo+k - (lo+l))) (lo+p)=if p=l then kat a (lo+k) else if l<p then kat a (lo+(p - 1)) else kat a (lo+p):=fun p hp=>by
  rw[pN hs (by omega),show lo+k - (lo+k - (lo+l))=lo+l by omega];by_cases e1:p=l
  ·rw[ak (by omega),ak e1]
  ·rw[ah (by omega),ah e1];by_cases e2:l<p
   ·rw[ak (by omega),ak e2,show lo+p - 1=lo+(p - 1) by omega]
   ·rw[ah (by omega),ah e2]
 intro p q hpq hq;rw[e p (by omega),e q (by omega)];by_cases p1:p=l
 ·rw[ak p1];by_cases q1:q=l
  ·rw[ak q1];exact O.le_refl _
  ·rw[ah q1,ak (by omega)];exact h2 _ (by omega) (by omega)
 ·rw[ah p1];by_cases p2:l<p
  ·rw[ak p2,ah (by omega),ak (by omega)];exact h _ _ (by omega) (by omega)
  ·rw[ah p2];by_cases q1:q=l
   ·rw[ak q1];exact h1 p (by omega)
   ·rw[ah q1];by_cases q2:l<q
    ·rw[ak q2];exact h _ _ (by omega) (by omega)
    ·rw[ah q2];exact h _ _ hpq (by omega)
theorem u9 {m:Nat}{Q:Bool->SortSt->Prop}{st:SortSt}(hk:kindOf st=O.kd)(ok:∀z∈(arrOf st).toList,O.ok z)(hs:lo+n<=(arrOf st).size)(hm:m<=n)(u:Upw O (arrOf st) lo m)(h0:0<n)
  (q:∀st',Sb lo st st'->Upw O (arrOf st') lo n->Q true st'):wpS M A E s (binarySort' lo n m) Q st:=by
 have okS:∀{st'},Sb lo st st'->∀z∈(arrOf st').toList,O.ok z:=fun {st'} h z hz=>ok z (h.perm.mem_iff.mp hz)
 delta binarySort'
 refine wpS_bind (wpS_mono (wpS_forRange (I:=fun k c st'=>c=(none,())/\Sb lo st st'/\Upw O (arrOf st') lo k) (Q:=fun c st'=>c=(none,())/\Sb lo st st'/\Upw O (arrOf st') lo n) ?step ?fin ?init) ?post)
 case init=>
  refine⟨rfl,Sb.refl lo st,fun p r h1 h2=>?_⟩;by_cases e:m=0
  ·have:p=r:=by omega
   subst this;exact O.le_refl _
  ·exact u p r h1 (by omega)
 case fin=>
  rintro c st' ⟨rfl,sb,uu⟩;exact⟨rfl,sb,fun p r h1 h2=>uu p r h1 (by omega)⟩
 case post=>
  rintro c st' ⟨rfl,sb,uu⟩;exact wpS_pure (q st' sb uu)
 case step=>
  rintro k c st1 hk1 hk2 ⟨rfl,sb1,u1⟩;dsimp only;have hsz:lo+k<(arrOf st1).size:=by rw[sb1.size];omega
  have rise:∀p q,p<=q->q<k->(!O.blt (kat (arrOf st1) (lo+k)) (kat (arrOf st1) (lo+q)))=true->(!O.blt (kat (arrOf st1) (lo+k)) (kat (arrOf st1) (lo+p)))=true:=fun p q h1 h2 h3=>by
   have h4:O.le (kat (arrOf st1) (lo+q)) (kat (arrOf st1) (lo+k)):=by unfold SOrd.le;simpa using h3
   have h5:=O.le_trans (u1 p q h1 h2) h4;unfold SOrd.le at h5;rw[h5];rfl
  refine wpS_bind (y0 (ρ:=Bool) (n:=k) (mid:=fun l h=>(l+h) / 2) (b:=fun p=>!O.blt (kat (arrOf st1) (lo+k)) (kat (arrOf st1) (lo+p))) (st:=st1) (fun l h z=>by omega) rise (fun x l h T z t=>?_) (fun x l h T z1 z2 t1 t2=>?_) (zero_le k) (aD k) (fun p z=>aY z (Nat.not_lt_zero p)) (fun p z1 z2=>aY z1 (by omega)) fun c c1 c2 c3=>?_)
  ·dsimp only;rw[ak z];exact wpS_pure t
  ·dsimp only at t1 t2 ⊢;rw[ah (by omega)];refine wpS_bind (tj (O:=O) (sb1.kind.trans hk) (okS sb1) (by omega) (by omega) ?_);dsimp only;cases less:O.blt (kat (arrOf st1) (lo+k)) (kat (arrOf st1) (lo+(l+h) / 2)) with
   | true=>exact wpS_pure (t2 (by rw[less];rfl))
   | false=>exact wpS_pure (t1 (by rw[less];rfl))
  ·dsimp only;refine wpS_bind (wpS_modify (wpS_pure ?_));have sb5:Sb lo st (setArr st1 (bubble (arrOf st1) (lo+k) (lo+k - (lo+c)))):=sb1.to (sr _ _ _) (fun p hp=>by rw[pN hsz (by omega),ah (by omega),ah (by omega)]);refine⟨rfl,sb5,u1.put hsz c1 (fun p z=>?_) fun p z1 z2=>?_⟩
   ·have:=c2 p z;unfold SOrd.le;simpa using this
   ·have:=c3 p z1 z2;exact O.lt_le (by simpa using this)
end
def cA:Nat->List (List Keyed)->List (Nat×Nat)
 | _,[]=>[]
 | c,r::rs=>(c,r.length)::cA (c+r.length) rs
theorem cj:∀(c:Nat) (rs:List (List Keyed)),(cA c rs).length=rs.length
 | _,[]=>rfl
 | c,r::rs=>by show (cA _ rs).length+1=_;rw[cj];rfl
theorem cz:∀(c:Nat) (rs qs:List (List Keyed)),cA c (rs++qs)=cA c rs++cA (c+rs.flatten.length) qs
 | c,[],qs=>by show cA c qs=cA (c+0) qs;rw[add_zero]
 | c,r::rs,qs=>by
  show (c,r.length)::cA (c+r.length) (rs++qs)=(c,r.length)::(cA (c+r.length) rs++_);rw[cz,flatten_cons,aB,Nat.add_assoc]
theorem mP (c:Nat)(As Bs:List (List Keyed))(X Y Z:List Keyed)(h:Z.length=X.length+Y.length) :
  ((cA c (As++X::Y::Bs)).set As.length (c+As.flatten.length,X.length+Y.length)).eraseIdx (As.length+1)=cA c (As++Z::Bs):=by
 rw[cz,cz];have e:As.length=(cA c As).length:=(cj c As).symm;show ((cA c As++(c+As.flatten.length,X.length)::(c+As.flatten.length+X.length,Y.length)::cA (c+As.flatten.length+X.length+Y.length) Bs).set As.length _).eraseIdx (As.length+1)=cA c As++(c+As.flatten.length,Z.length)::cA (c+As.flatten.length+Z.length) Bs
 rw[List.set_append_right _ _ (by omega),show As.length - (cA c As).length=0 by omega,List.set_cons_zero,List.eraseIdx_append_of_length_le (by omega),show As.length+1 - (cA c As).length=1 by omega,h,<- Nat.add_assoc];rfl
theorem wU {c:Prop}[Decidable c]{a b n:Nat}(h1:a+1<n)(h2:b+1<n):(if c then a else b)+1<n:=by split<;>assumption
def shp (p:Array (Nat×Nat×Nat)):List (Nat×Nat):=p.toList.map fun x=>(x.1,x.2.1)
theorem sJ {p:Array (Nat×Nat×Nat)}{v:Nat×Nat}(h:(shp p)[i]?=some v):∃w,p[i]?=some (v.1,v.2,w):=by
 unfold shp at h;rw[aQ,getElem?_toList] at h;obtain⟨x,hx,rfl⟩:=dF.mp h;exact⟨x.2.2,hx⟩
theorem fX {α β:Type}(f:α->β):∀(l:List α) (j:Nat),(l.eraseIdx j).map f=(l.map f).eraseIdx j
 | [],_=>rfl
 | _::_,0=>rfl
 | x::l,j+1=>by rw[List.eraseIdx_cons_succ,bX,fX f l j];rfl
theorem oj {p:Array (Nat×Nat×Nat)}{w:Nat}(h:i+1<p.size):shp ((p.setIfInBounds i (c,n,w)).eraseIdxIfInBounds (i+1))=((shp p).set i (c,n)).eraseIdx (i+1):=by
 unfold shp;rw[Array.eraseIdxIfInBounds,dif_pos (by simpa using h),Array.toList_eraseIdx,Array.toList_setIfInBounds,fX,List.map_set]
theorem fO {p:Array (Nat×Nat×Nat)}{w:Nat}:shp (p.push (c,n,w))=shp p++[(c,n)]:=by
 unfold shp;rw[Array.toList_push,dU];rfl
theorem oh {p:Array (Nat×Nat×Nat)}{w:Nat}:shp (p.modify i fun x=>(x.1,x.2.1,w))=shp p:=by
 unfold shp
 apply List.ext_getElem?
 intro j;rw[aQ,aQ,getElem?_toList,getElem?_toList,Array.getElem?_modify];split
 ·cases p[j]?<;>rfl
 ·rfl
theorem qK {p:Array (Nat×Nat×Nat)}:(shp p).length=p.size:=by unfold shp;rw[au,length_toList]
section
variable (O:SOrd M A E s)
theorem tS {α σ:Type}{c:Prop}[Decidable c]{t e:StateT σ Sem α}{Q:α->σ->Prop}{st:σ}(h1:c->wpS M A E s t Q st)(h2:¬c->wpS M A E s e Q st):wpS M A E s (if c then t else e) Q st:=by
 by_cases h:c
 ·rw[ak h];exact h1 h
 ·rw[ah h];exact h2 h
structure RI (st0 st:SortSt)(rs:List (List Keyed))(rest:List Keyed):Prop where
 kind:kindOf st=O.kd
 fail:failedOf st=none
 arr:(arrOf st).toList=rs.flatten++rest
 perm:(arrOf st).toList.Perm (arrOf st0).toList
 so:∀r∈rs,r.Pairwise O.le/\0<r.length
 pend:shp (pendingOf st)=cA 0 rs
variable {O}
theorem RI.psize {st0 st:SortSt}{rs:List (List Keyed)}{rest:List Keyed}(h:RI O st0 st rs rest):(pendingOf st).size=rs.length:=by rw[<- qK,h.pend,cj]
theorem RI.size {st0 st:SortSt}{rs:List (List Keyed)}{rest:List Keyed}(h:RI O st0 st rs rest):(arrOf st0).size=rs.flatten.length+rest.length:=by
 rw[<- length_toList,<- h.perm.length_eq,h.arr,aB]
theorem RI.merge {st0 st:SortSt}{rs:List (List Keyed)}{rest:List Keyed}(h:RI O st0 st rs rest)(ok:∀z∈(arrOf st0).toList,O.ok z)(hi:i+1<rs.length){Q:Bool->SortSt->Prop}
  (q:∀st' rs',RI O st0 st' rs' rest->rs'.length+1=rs.length->rs'.flatten.length=rs.flatten.length->Q true st'):wpS M A E s (mergeAt' i) Q st:=by
 obtain⟨As,X,Y,Bs,rfl,rfl⟩:∃As X Y Bs,rs=As++X::Y::Bs/\As.length=i:=by
  refine⟨rs.take i,rs[i],rs[i+1],rs.drop (i+2),?_,by rw[aF];omega⟩;rw[<- List.drop_eq_getElem_cons hi,<- List.drop_eq_getElem_cons (show i<rs.length by omega),take_append_drop]
 have sX:=h.so X (by simp);have sY:=h.so Y (by simp)
 have g1:(shp (pendingOf st))[As.length]?=some (As.flatten.length,X.length):=by
  rw[h.pend,cz,bJ (by rw[cj];omega),cj,Nat.sub_self,zero_add];rfl
 have g2:(shp (pendingOf st))[As.length+1]?=some (As.flatten.length+X.length,Y.length):=by
  rw[h.pend,cz,bJ (by rw[cj];omega),cj,show As.length+1 - As.length=1 by omega,zero_add];rfl
 obtain⟨w1,p1⟩:=sJ g1;obtain⟨w2,p2⟩:=sJ g2;refine wL (O:=O) (nb:=Y.length) (sb:=0) (na:=0) (P:=As.flatten) (X:=X) (Y:=Y) (S:=Bs.flatten++rest) h.kind h.fail p1 p2 ?_ (fun z hz=>ok z (h.perm.mem_iff.mp hz)) sX.2 sY.2 sX.1 sY.1 fun a' g Z e1 e2 e3=>?_
 ·rw[h.arr];simp only[flatten_append,flatten_cons,az]
 ·have zl:Z.length=X.length+Y.length:=by rw[e3.length_eq,aB]
  refine q _ (As++Z::Bs) ⟨h.kind,h.fail,?_,?_,fun r hr=>?_,?_⟩ ?_ ?_
  ·show a'.toList=_;rw[e1];simp only[flatten_append,flatten_cons,az]
  ·show a'.toList.Perm _;refine List.Perm.trans ?_ h.perm;rw[e1,h.arr];simp only[flatten_append,flatten_cons,az];refine List.Perm.append_left _ ?_;rw[<- az X];exact e3.append_right _
  ·rcases ba.mp hr with hr|hr
   ·exact h.so r (by simp[hr])
   ·rcases aV.mp hr with rfl|hr
    ·exact⟨e2,by omega⟩
    ·exact h.so r (by simp[hr])
  ·show shp (((pendingOf st).setIfInBounds As.length (As.flatten.length,X.length+Y.length,w1)).eraseIdxIfInBounds (As.length+1))=_;rw[oj (by rw[h.psize];simp),h.pend];have:=mP 0 As Bs X Y Z zl;rw[zero_add] at this;exact this
  ·simp only[aB,aR];omega
  ·simp only[flatten_append,flatten_cons,aB];omega
theorem RI.sb {st0 st st':SortSt}{rs:List (List Keyed)}{rest:List Keyed}(h:RI O st0 st rs rest)(b:Sb rs.flatten.length st st'):∃rest',rest'.length=rest.length/\RI O st0 st' rs rest':=by
 have e:(arrOf st').toList.take rs.flatten.length=rs.flatten:=by
  apply List.ext_getElem?
  intro j;by_cases hj:j<rs.flatten.length
  ·have hs:j<(arrOf st').size:=by rw[b.size,<- length_toList,h.arr,aB];omega
   have hs2:j<(arrOf st).size:=by rw[<- b.size];exact hs
   have e1:=cS hs;have e2:=cS hs2;rw[getElem?_take_of_lt hj,e1,b.same j hj,<- e2,h.arr,cy hj]
  ·rw[List.getElem?_eq_none (by rw[aF];omega),List.getElem?_eq_none (by omega)]
 have e2:(arrOf st').toList=rs.flatten++(arrOf st').toList.drop rs.flatten.length:=by
  conv=>lhs;rw[<- take_append_drop rs.flatten.length (arrOf st').toList,e]
 refine⟨(arrOf st').toList.drop rs.flatten.length,?_,?_⟩
 ·have l1:=b.perm.length_eq;rw[h.arr,aB] at l1;rw[bf,l1];omega
 ·have be:=b.eq;refine⟨b.kind.trans h.kind,?_,e2,b.perm.trans h.perm,h.so,?_⟩
  ·rw[be];exact h.fail
  ·rw[be];exact h.pend
theorem RI.push {st0 st:SortSt}{rs:List (List Keyed)}{rest:List Keyed}(h:RI O st0 st rs rest)(hn:0<n)(hl:n<=rest.length)(u:(rest.take n).Pairwise O.le):RI O st0 (setPending st ((pendingOf st).push (rs.flatten.length,n,0))) (rs++[rest.take n]) (rest.drop n):=by
 have l1:(rest.take n).length=n:=by rw[aF];omega
 refine⟨h.kind,h.fail,?_,h.perm,fun r hr=>?_,?_⟩
 ·show (arrOf st).toList=_;rw[h.arr,flatten_append,flatten_singleton,az,take_append_drop]
 ·rcases ba.mp hr with hr|hr
  ·exact h.so r hr
  ·rw[a_.mp hr];exact⟨u,by omega⟩
 ·show shp ((pendingOf st).push (rs.flatten.length,n,0))=_;rw[fO,h.pend,cz,zero_add];show _=cA 0 rs++[(rs.flatten.length,(rest.take n).length)];rw[l1]
theorem Upw.take {st0 st:SortSt}{rs:List (List Keyed)}{rest:List Keyed}(h:RI O st0 st rs rest)(hl:n<=rest.length)(u:Upw O (arrOf st) rs.flatten.length n):(rest.take n).Pairwise O.le:=by
 rw[pairwise_iff_getElem];intro p r hp hr hpr;rw[aF] at hp hr;have e:∀p,p<n->kat (arrOf st) (rs.flatten.length+p)=kl rest p:=fun p hp=>by rw[fZ,h.arr,i9]
 have:=u p r (by omega) (by omega);rw[e p (by omega),e r (by omega),g_ (by omega),g_ (by omega)] at this;rw[getElem_take,getElem_take];exact this
theorem lL {Q:Unit->SortSt->Prop}{st:SortSt}(hk:kindOf st=O.kd)(hf:failedOf st=none)(hp:pendingOf st = #[])(ok:∀z∈(arrOf st).toList,O.ok z)
  (q:∀st',(arrOf st').toList.Perm (arrOf st).toList->failedOf st'=none->(arrOf st').toList.Pairwise O.le->Q () st'):wpS M A E s sortRuns' Q st:=by
 delta sortRuns'
 refine wpS_bind (wpS_get ?_);dsimp only;have ri0:RI O st st [] (arrOf st).toList:=⟨hk,hf,rfl,.refl _,(fun r h=>by cases h),by rw[hp];rfl⟩
 refine wpS_bind (wpS_mono (wpS_forRange (I:=fun x c st'=>∃rs rest,c=(none,rs.flatten.length)/\RI O st st' rs rest/\(x<=rs.flatten.length\/rest=[])) (Q:=fun c st'=>∃lo rs,c=(none,lo)/\RI O st st' rs []) ?step ?fin ⟨[],(arrOf st).toList,rfl,ri0,.inl (zero_le _)⟩) ?post)
 case fin=>
  rintro c st' ⟨rs,rest,rfl,ri,hx⟩;refine⟨_,rs,rfl,?_⟩;rcases hx with hx|rfl
  ·have:=ri.size;have hx':(arrOf st).size<=rs.flatten.length:=Nat.le_trans (Nat.le_max_right _ _) hx;have:rest=[]:=List.eq_nil_of_length_eq_zero (by omega);rw[this] at ri;exact ri
  ·exact ri
 case step=>
  rintro x c st1 _ hx ⟨rs,rest,rfl,ri,hxr⟩;dsimp only;have hsz:(arrOf st).size=rs.flatten.length+rest.length:=ri.size;by_cases c1:rs.flatten.length ≥ (arrOf st).size
  ·rw[ak c1];have:rest=[]:=List.eq_nil_of_length_eq_zero (by omega);rw[this] at ri;exact wpS_pure ⟨_,rs,rfl,ri⟩
  rw[ah c1];have okS:∀z∈(arrOf st1).toList,O.ok z:=fun z hz=>ok z (ri.perm.mem_iff.mp hz);have hs1:(arrOf st1).size=(arrOf st).size:=by rw[<- length_toList,<- length_toList];exact ri.perm.length_eq
  refine wpS_bind (u5 (O:=O) ri.kind okS (by rw[hs1];show rs.flatten.length+((arrOf st).size - rs.flatten.length)=_;omega) (by show 0<(arrOf st).size - _;omega) fun n st2 sb2 n0 n1 u2=>?_);replace n1:n<=(arrOf st).size - rs.flatten.length:=n1;dsimp only;obtain⟨rest2,l2,ri2⟩:=ri.sb sb2;refine tS (fun c2=>?_) (fun c2=>?_)
  ·replace c2:n<minRun' (arrOf st).size (arrOf st).size 0:=c2;refine wpS_bind (wpS_lift (wpAny_rule ⟨rfl,?_⟩));have okS2:∀z∈(arrOf st2).toList,O.ok z:=fun z hz=>ok z (ri2.perm.mem_iff.mp hz);have hs2:(arrOf st2).size=(arrOf st).size:=by rw[sb2.size,hs1]
   have fo:min ((arrOf st).size - rs.flatten.length) (minRun' (arrOf st).size (arrOf st).size 0)<=(arrOf st).size - rs.flatten.length/\n<=min ((arrOf st).size - rs.flatten.length) (minRun' (arrOf st).size (arrOf st).size 0):=by omega
   refine wpS_bind (u9 (O:=O) (lo:=rs.flatten.length) (n:=min ((arrOf st).size - rs.flatten.length) (minRun' (arrOf st).size (arrOf st).size 0)) ri2.kind okS2 (by rw[hs2];have:=fo.1;omega) fo.2 u2 (by have:=fo.2;omega) fun st3 sb3 u3=>?_);rw[ah (by simp)];obtain⟨rest3,l3,ri3⟩:=ri2.sb sb3;have tk:=Upw.take ri3 (by have:=fo.1;omega) u3
   have m0:0<min ((arrOf st).size - rs.flatten.length) (minRun' (arrOf st).size (arrOf st).size 0):=by have:=fo.2;omega
   have ml:min ((arrOf st).size - rs.flatten.length) (minRun' (arrOf st).size (arrOf st).size 0)<=rest3.length:=by have:=fo.1;omega
   refine wpS_bind (wpS_get ?_);cases hb:(pendingOf st3).back? with
   | none=>
    dsimp only;refine wpS_bind (wpS_modify (wpS_pure ?_));have ri5:=ri3.push m0 ml tk
    have fl:(rs++[rest3.take (min ((arrOf st).size - rs.flatten.length) (minRun' (arrOf st).size (arrOf st).size 0))]).flatten.length=rs.flatten.length+(min ((arrOf st).size - rs.flatten.length) (minRun' (arrOf st).size (arrOf st).size 0)):=by rw[flatten_append,flatten_singleton,aB,aF,min_eq_left ml]
    refine⟨rs++[rest3.take (min ((arrOf st).size - rs.flatten.length) (minRun' (arrOf st).size (arrOf st).size 0))],rest3.drop (min ((arrOf st).size - rs.flatten.length) (minRun' (arrOf st).size (arrOf st).size 0)),?_,ri5,?_⟩
    ·rw[fl];all_goals rfl
    ·rw[fl];rcases hxr with h|h
     ·exact .inl (by omega)
     ·rw[h,bC] at hsz;omega
   | some v=>
    obtain⟨s1,n1',w1⟩:=v;dsimp only;refine wpS_bind (wpS_mono (wpS_forRange (I:=fun y c st'=>c=(none,())/\∃rs',RI O st st' rs' rest3/\rs'.flatten.length=rs.flatten.length) (Q:=fun c st'=>c=(none,())/\∃rs',RI O st st' rs' rest3/\rs'.flatten.length=rs.flatten.length) ?_ (fun c st' h=>h) ⟨rfl,rs,ri3,rfl⟩) ?_)
    ·rintro y c st4 _ hy ⟨rfl,rs4,ri4,e4⟩;refine wpS_bind (wpS_get ?_);by_cases c5:rs4.length > 1
     ·have ps:=ri4.psize;rw[ak (show (pendingOf st4).size > 1 by rw[ps];exact c5)];have hg:(pendingOf st4).size - 2<(pendingOf st4).size:=by omega
      rw[show (pendingOf st4)[(pendingOf st4).size - 2]?=some (pendingOf st4)[(pendingOf st4).size - 2] from getElem?_pos (pendingOf st4) ((pendingOf st4).size - 2) hg];generalize (pendingOf st4)[(pendingOf st4).size - 2]=v;obtain⟨v1,v2,v3⟩:=v;dsimp only;split
      ·exact wpS_pure ⟨rfl,rs4,ri4,e4⟩
      ·refine wpS_bind (ri4.merge ok (by rw[ps];omega) fun st5 rs5 ri5 f1 f2=>?_);rw[ah (by simp)];exact wpS_pure ⟨rfl,rs5,ri5,by omega⟩
     ·rw[ah (show ¬(pendingOf st4).size > 1 by rw[ri4.psize];exact c5)];exact wpS_pure ⟨rfl,rs4,ri4,e4⟩
    ·rintro c st4 ⟨rfl,rs4,ri4,e4⟩;dsimp only;refine wpS_bind (wpS_modify (wpS_bind (wpS_modify (wpS_pure ?_))));have ri5:=ri4.push m0 ml tk;rw[e4] at ri5
     have fl:(rs4++[rest3.take (min ((arrOf st).size - rs.flatten.length) (minRun' (arrOf st).size (arrOf st).size 0))]).flatten.length=rs.flatten.length+(min ((arrOf st).size - rs.flatten.length) (minRun' (arrOf st).size (arrOf st).size 0)):=by rw[flatten_append,flatten_singleton,aB,aF,min_eq_left ml,e4]
     refine⟨rs4++[rest3.take (min ((arrOf st).size - rs.flatten.length) (minRun' (arrOf st).size (arrOf st).size 0))],rest3.drop (min ((arrOf st).size - rs.flatten.length) (minRun' (arrOf st).size (arrOf st).size 0)),?_,⟨ri5.kind,ri5.fail,ri5.arr,ri5.perm,ri5.so,?_⟩,?_⟩
     ·rw[fl];all_goals rfl
     ·have:=ri5.pend;rw[<- this];show shp (push _ _)=shp (push _ _);rw[fO,fO];congr 1;exact oh
     ·rw[fl];rcases hxr with h|h
      ·exact .inl (by omega)
      ·rw[h,bC] at hsz;omega
  ·have tk:=Upw.take ri2 (by omega) u2;have m0:0<n:=n0;have ml:n<=rest2.length:=by omega
   refine wpS_bind (wpS_get ?_);cases hb:(pendingOf st2).back? with
   | none=>
    dsimp only;refine wpS_bind (wpS_modify (wpS_pure ?_));have ri5:=ri2.push m0 ml tk;have fl:(rs++[rest2.take (n)]).flatten.length=rs.flatten.length+(n):=by rw[flatten_append,flatten_singleton,aB,aF,min_eq_left ml]
    refine⟨rs++[rest2.take (n)],rest2.drop (n),?_,ri5,?_⟩
    ·rw[fl];all_goals rfl
    ·rw[fl];rcases hxr with h|h
     ·exact .inl (by omega)
     ·rw[h,bC] at hsz;omega
   | some v=>
    obtain⟨s1,n1',w1⟩:=v;dsimp only;refine wpS_bind (wpS_mono (wpS_forRange (I:=fun y c st'=>c=(none,())/\∃rs',RI O st st' rs' rest2/\rs'.flatten.length=rs.flatten.length) (Q:=fun c st'=>c=(none,())/\∃rs',RI O st st' rs' rest2/\rs'.flatten.length=rs.flatten.length) ?_ (fun c st' h=>h) ⟨rfl,rs,ri2,rfl⟩) ?_)
    ·rintro y c st4 _ hy ⟨rfl,rs4,ri4,e4⟩;refine wpS_bind (wpS_get ?_);by_cases c5:rs4.length > 1
     ·have ps:=ri4.psize;rw[ak (show (pendingOf st4).size > 1 by rw[ps];exact c5)];have hg:(pendingOf st4).size - 2<(pendingOf st4).size:=by omega
      rw[show (pendingOf st4)[(pendingOf st4).size - 2]?=some (pendingOf st4)[(pendingOf st4).size - 2] from getElem?_pos (pendingOf st4) ((pendingOf st4).size - 2) hg];generalize (pendingOf st4)[(pendingOf st4).size - 2]=v;obtain⟨v1,v2,v3⟩:=v;dsimp only;split
      ·exact wpS_pure ⟨rfl,rs4,ri4,e4⟩
      ·refine wpS_bind (ri4.merge ok (by rw[ps];omega) fun st5 rs5 ri5 f1 f2=>?_);rw[ah (by simp)];exact wpS_pure ⟨rfl,rs5,ri5,by omega⟩
     ·rw[ah (show ¬(pendingOf st4).size > 1 by rw[ri4.psize];exact c5)];exact wpS_pure ⟨rfl,rs4,ri4,e4⟩
    ·rintro c st4 ⟨rfl,rs4,ri4,e4⟩;dsimp only;refine wpS_bind (wpS_modify (wpS_bind (wpS_modify (wpS_pure ?_))));have ri5:=ri4.push m0 ml tk;rw[e4] at ri5;have fl:(rs4++[rest2.take (n)]).flatten.length=rs.flatten.length+(n):=by rw[flatten_append,flatten_singleton,aB,aF,min_eq_left ml,e4]
     refine⟨rs4++[rest2.take (n)],rest2.drop (n),?_,⟨ri5.kind,ri5.fail,ri5.arr,ri5.perm,ri5.so,?_⟩,?_⟩
     ·rw[fl];all_goals rfl
     ·have:=ri5.pend;rw[<- this];show shp (push _ _)=shp (push _ _);rw[fO,fO];congr 1;exact oh
     ·rw[fl];rcases hxr with h|h
      ·exact .inl (by omega)
      ·rw[h,bC] at hsz;omega
 case post=>
  rintro c st1 ⟨lo,rs,rfl,ri⟩;dsimp only
  have few:rs.length<=(arrOf st).size:=by
   rw[ri.size]
   have:∀l:List (List Keyed),(∀r∈l,0<r.length)->l.length<=l.flatten.length:=by
    intro l
    induction l with
    | nil=>intro _;exact aD _
    | cons r l ih=>
     intro h;have h1:=h r (bt ..);have h2:=ih fun y hy=>h y (aX _ hy);rw[flatten_cons,aB,aR];omega
   have:=this rs fun r hr=>(ri.so r hr).2;omega
  refine wpS_bind (wpS_mono (wpS_forRange (I:=fun x c st'=>c=(none,())/\∃rs',RI O st st' rs' []/\(rs'.length<=1\/rs'.length+x<=(arrOf st).size)) (Q:=fun c st'=>c=(none,())/\∃rs',RI O st st' rs' []/\rs'.length<=1) ?fstep ?ffin ⟨rfl,rs,ri,.inr (by omega)⟩) ?fpost)
  case ffin=>
   rintro c st' ⟨rfl,rs',ri',h⟩;refine⟨rfl,rs',ri',?_⟩;rcases h with h|h
   ·exact h
   ·have h':rs'.length+max 0 (arrOf st).size<=(arrOf st).size:=h;omega
  case fpost=>
   rintro c st' ⟨rfl,rs',ri',h⟩;dsimp only;refine wpS_pure (q st' ri'.perm ri'.fail ?_);rw[ri'.arr,cH]
   match rs',h,ri' with
   | [],_,_=>exact List.Pairwise.nil
   | [r],_,ri'=>rw[flatten_singleton];exact(ri'.so r (a_.mpr rfl)).1
  case fstep=>
   rintro x c st2 _ hx ⟨rfl,rs',ri',h⟩;refine wpS_bind (wpS_get ?_);by_cases c1:rs'.length<=1
   ·rw[ak (show (pendingOf st2).size<=1 by rw[ri'.psize];exact c1)];exact wpS_pure ⟨rfl,rs',ri',c1⟩
   ·rw[ah (show ¬(pendingOf st2).size<=1 by rw[ri'.psize];exact c1)];have ps:=ri'.psize;refine wpS_bind (ri'.merge ok ?_ fun st3 rs3 ri3 e1 e2=>?_)
    ·refine wU ?_ ?_
     ·show (pendingOf st2).size - 2 - 1+1<rs'.length;rw[ps];omega
     ·show (pendingOf st2).size - 2+1<rs'.length;rw[ps];omega
    ·rw[ah (by simp)];exact wpS_pure ⟨rfl,rs3,ri3,.inr (by have:=h.resolve_left c1;omega)⟩
end
end L2
namespace L2
open PySem PyProof PyProof.Rows
section
def pW:SOrd (model prog w) A E s where
 kd:=oneType'
 blt x y:=decide (numOf x.1<numOf y.1)
 ok x:=∃n t,x.1=.int n t
 run:=fun {x y st Q} hx hy hk h=>by
  obtain⟨n,t,ex⟩:=hx;obtain⟨m,u,ey⟩:=hy;have e:decide (numOf x.1<numOf y.1)=decide (n<m):=by rw[ex,ey];rfl
  rw[e] at h;rw[lt'_eq];refine wpS_bind (wpS_get ?_);rw[hk,keyLt'_oneType,ex,ey];exact wpS_bind (wpS_lift (wpAny_attempt (oneLt_int ⟨rfl,wpS_pure h⟩)))
 asym:=fun {x y} h=>by
  have:=aU h;exact aM (by omega)
 neg:=fun {x z} y h=>by
  have:=aU h;by_cases c:numOf x.1<numOf y.1
  ·exact .inl (aq c)
  ·exact .inr (aq (by omega))
theorem og {xs:Array Keyed}(h:xs.toList.Pairwise (pW (prog:=prog) (w:=w) (A:=A) (E:=E) (s:=s)).le){k:Nat}(hk:k<=xs.size):SortedTo xs k:=fun i j hij hj=>by
 have e:=io h hij (by rw[length_toList];omega);have e2:¬numOf (kl xs.toList j).1<numOf (kl xs.toList i).1:=of_decide_eq_false e
 have kk:∀i,i<xs.size->K xs i=numOf (kl xs.toList i).1:=fun i hi=>by
  rw[K_eq hi,g_ (by rw[length_toList];exact hi)];rfl
 rw[kk i (by omega),kk j (by omega)];omega
theorem rH {vs:List Value}{P:Fin->Shared->Prop}(ho:s.heap.get? a=some (seqObj "list" vs.toArray n))(hI:IntsAre vs ns)(hz:vs.length<=100000)
  (h:∀(out:Array Value) (ns':List Int),IntsAre out.toList ns'->ns'.Perm ns->ns'.Pairwise (· <= ·)->P (.done (.ret .none)) { s with heap:=sortedHeap s.heap a vs out }):wpAny (model prog w) A (Builtin.«list.sort» ⟨[.ref a],[]⟩) P E s:=by
 by_cases few:vs.length<64
 ·exact list_sort_tree ho hI few h
 obtain⟨v1,v2,rest,rfl⟩:∃v1 v2 rest,vs=v1::v2::rest:=by
  match vs,few with
  | [],f=>exact aY (by decide) f
  | [_],f=>exact aY (by show 1<64;decide) f
  | v1::v2::rest,_=>exact⟨v1,v2,rest,rfl⟩
 have big:sizeLine=16777216:=by decide
 have la:a<s.heap.objs.size:=aS ho;have sz:(pairsOf (v1::v2::rest)).size=rest.length+2:=by rw[pairsOf_size];rfl
 rw[list_sort_plain];obtain⟨e1,o1⟩:∃e1,(s.heap.update a (mapSeq fun _=>#[])).get? a=some (seqObj "list" #[] e1):=⟨_,get?_update_seq ho _⟩;refine aa (listItems_at ho rfl (aa (listUpdate_at ho rfl (aa (seqEpoch_at o1 rfl (aa (wpAny_newTuple (aa (wpAny_newList (bj ?c0)))))))  (hsz:=by rw[aJ,big];omega) (hsz2:=by show 0<=_;omega))))
 case c0=>
 have o2:(((s.heap.update a (mapSeq fun _=>#[])).push (seqObj "tuple" (v1::v2::rest).toArray 0)).push (seqObj "list" #[] 0)).get? a=some (seqObj "list" #[] e1):=by
  have z1:=Heap.size_update s.heap a (mapSeq fun _=>#[]);rw[Heap.get?_push_ne,Heap.get?_push_ne]
  ·exact o1
  ·exact av (by rw[z1];exact la)
  ·exact av (by rw[size_push',z1];exact lt_succ_of_lt la)
 have two:¬(v1::v2::rest).toArray.size<2:=by rw[aJ];show ¬rest.length+1+1<2;omega
 dsimp only;rw[ah two,ah two,keyKind_ints hI];refine aa (ae ?_);refine aa (bn (lL (O:=pW) (Q:=fun _ st'=>(arrOf st').toList.Perm (pairsOf (v1::v2::rest)).toList/\failedOf st'=none/\(arrOf st').toList.Pairwise (pW (prog:=prog) (w:=w) (A:=A) (E:=E) (s:=_)).le) rfl rfl rfl (fun z hz=>?_) fun st' a1 a2 a3=>⟨a1,a2,a3⟩) ?_ fun _ _ e=>e)
 ·exact hI.intKeys z hz
 rintro⟨_,st'⟩ s' ⟨rfl,pm,fl,so⟩;have pz:=pm.length_eq;rw[length_toList,length_toList,sz] at pz;obtain⟨ns',h1,h2,h3⟩:=sorted_out hI (Array.perm_iff_toList_perm.mpr pm) (og so (by rw[sz];exact le_of_eq pz.symm));have lz:(rest.length+2)<=100000:=hz;dsimp only
 refine aa (seqEpoch_at o2 rfl (aa (listUpdate_at o2 rfl ?_ (hsz:=zero_le _) (hsz2:=by show ((arrOf st').map (·.2)).size<=_;rw[Array.size_map,pz,big];omega))));rw[fl];simp only[bne_self_eq_false,false_eq_true,if_false];exact ae (h _ ns' h1 h2 h3)
end
section
variable {KK:Type}[DecidableEq KK]{knd:KeyKind prog w KK}
theorem gL {kvs:List (KK×Value)}(hh:A.handled=none)(hS:(d==sysModules)=false)(hm:s.heap.DictAt knd d kvs ep)(few:kvs.length<=100000)
  (hi:∀acc:Array Value,ItemsOf (fun i v=>∃k x,kvs[i]?=some (k,x)/\knd.is k v=true) acc kvs.length->IntsAre acc.toList ns)
  (q:∀h' tk l (out:Array Value) e ns',(∀b o,s.heap.get? b=some o->h'.get? b=some o)->s.heap.objs.size<=l->h'.get? l=some (seqObj "list" out e)->IntsAre out.toList ns'->ns'.Perm ns->ns'.Pairwise (· <= ·)->Q (.ref l) { s with heap:=h',toks:=tk }):wpAny (model prog w) A (call (.builtin "sorted") [.ref d]) Q E s:=by
 refine Calls.call_function_entry kind_sorted plain_sorted entry_sorted (args_sorted1 _) (show wpAny _ _ (checkCount "sorted" 1 1 1 >>= fun _=>collect (.ref d) >>= _) _ _ s from aa (ae (aa ?c1)));refine jR hh hS hm (by rw[show sizeLine=16777216 by decide];omega) fun h1 tk acc sz k1 it=>?c2;have hI:=hi acc it
 have len:acc.toList.length<=100000:=by rw[length_toList,it.1];exact few
 refine aa (wpAny_newList ?c3);have g1:(h1.push (seqObj "list" acc.toList.toArray 0)).get? h1.objs.size=some (seqObj "list" acc.toList.toArray 0):=aI _ rfl;show wpAny _ _ _ _ _ { heap:=h1.push (seqObj "list" acc.toList.toArray 0),gens:=s.gens,drawn:=s.drawn,toks:=tk,os:=s.os }
 refine aa (bj (wpAny_call_entry slot_list_sort ⟨_,g1,rfl⟩ entry_list_sort (rH g1 hI len fun out ns' p1 p2 p3=>⟨_,rfl,?c4⟩) (args_list_sort _)));obtain⟨e,ge⟩:=sortedHeap_at (out:=out) g1;refine ae ⟨_,rfl,q _ tk h1.objs.size out e ns' (fun b o z=>?c5) ?c6 ge p1 p2 p3⟩
 case c5=>
  have lt:=aS (k1 b o z);rw[sortedHeap_old (av lt) (by rw[size_push'];exact lt_succ_of_lt lt)];exact af _ (k1 b o z)
 case c6=>exact sz
end
section
theorem fG (hh:X.A.handled=none):fe X (.builtin "sorted") (fun xs H Q=>∃(a:Addr) (kvs:List (Key×V)) (ns:List Int),xs=[.ref a]/\Rd H a (.dK kvs)/\kvs.map (·.1)=ns.map Sum.inl/\ns.length<=1000 /\
  ∀ns':List Int,ns'.Perm ns->ns'.Pairwise (· <= ·)->∀l,H l=none->Q (.ref l) (upd H l (.lst (ns'.map V.int)))):=by
 intro pins s σ H xs us Q I r h;obtain⟨a,kvs,ns,rfl,hk,ek,hl,q⟩:=h;obtain⟨u,rfl,ru⟩:=fK r;cases ru;obtain⟨hz,hS,vs,rk,m⟩:=jW I.hok hk;obtain⟨ep,hm0⟩:=m.dictAt
 have e1:vs.map (·.1)=kvs.map (·.1):=by
  clear hz m hm0 q hk ek
  induction rk with
  | nil=>rfl
  | cons a b ih=>rw[bX,bX,ih,a.1]
 have lv:vs.length=ns.length:=by
  have:=bL List.length (e1.trans ek);simpa using this
 refine gL (ns:=ns) hh hS hm0 (by omega) (fun acc it=>?_) fun h' tk l out e ns' kp le g i1 i2 i3=>?_
 ·refine uQ (by rw[length_toList,it.1,lv]) fun i u n a b=>?_;obtain⟨k,x,e2,e3⟩:=it.2 i u (by simpa using a);have e4:(vs.map (·.1))[i]?=some k:=by rw[aQ,e2];rfl
  rw[e1,ek,aQ,b] at e4;cases e4;rw[iC] at e3;exact Value.isInt_shape (show Value.isInt n u=true from e3)
 ·have rel:b_ (ns'.map V.int) out.toList:=gH i1;refine⟨.ref l,_,I.laid (a:=l) (o:=.lst (ns'.map V.int)) (t':=tk) kp le ⟨?_,out.toList,e,rel,by simpa using g⟩,rfl,q ns' i2 i3 l (I.hok.fresh le)⟩;have:=i2.length_eq;rw[au,show sizeLine=16777216 by decide];omega
end
section
variable {o:Expr}{to:TE}
end
def Pr (h:Heap)(v:Value)(p:Int×Int):Prop:=∃a t u,v=.ref a/\h.get? a=some { cls:=.type "tuple",data:=.seq #[.int p.1 t,.int p.2 u] }
theorem Pr.uniq {v}{p q:Int×Int}(x:Pr h v p)(y:Pr h v q):p=q:=by
 obtain⟨a,t,u,rfl,e⟩:=x;obtain⟨b,t',u',eb,e'⟩:=y;cases eb;rw[e] at e';injection e' with z;injection z with _ _ z _;injection z with z _;have z':=bL Array.toList z;obtain⟨p1,p2⟩:=p;obtain⟨q1,q2⟩:=q;dsimp only at z';injection z' with z1 z2;injection z2 with z2 _;injection z1 with z1 _;injection z2 with z2 _;rw[z1,z2]
open Classical in
noncomputable def prOf (h:Heap)(v:Value):Int×Int:=if e:∃p,Pr h v p then e.choose else (0,0)
theorem eI {v}{p:Int×Int}(x:Pr h v p):prOf h v=p:=by
 unfold prOf;have e:∃p,Pr h v p:=⟨p,x⟩;rw[dif_pos e];exact e.choose_spec.uniq x
def plt (p q:Int×Int):Bool:=decide (p.1<q.1\/p.1=q.1/\p.2<q.2)
section
theorem yL {v}{p q:Int×Int}{Q:Bool->Shared->Prop}(x:Pr s.heap v p)(y:Pr s.heap u q)(h:Q (plt p q) s):wpAny (model prog w) A (keyLt' (tuples' true) v u) Q E s:=by
 obtain⟨a,t,t',rfl,e⟩:=x;obtain⟨b,r,r',rfl,e'⟩:=y;refine PySem.W.kat_lt e rfl e' rfl ?_;show PySem.W.KatLex prog w A true _ Q [(.int p.1 t,.int q.1 r),(.int p.2 t',.int q.2 r')] 0 s;refine kat_cons (wpAny_eqBool_int ?_);by_cases c:p.1=q.1
 ·rw[beq_iff_eq.mpr c];refine kat_yes (kat_cons (wpAny_eqBool_int ?_));by_cases c2:p.2=q.2
  ·rw[beq_iff_eq.mpr c2];refine kat_yes (PySem.W.kat_nil ?_);have z:plt p q=false:=aM (by omega);rw[z] at h;exact h
  ·rw[beq_eq_false_iff_ne.mpr c2];refine kat_no (PySem.W.kat_one _ _ (wpAny_lt_int ?_));have z:plt p q=decide (p.2<q.2):=decide_eq_decide.mpr (by omega);rw[z] at h;exact h
 ·rw[beq_eq_false_iff_ne.mpr c];refine kat_no (oneLt_int ?_);have z:plt p q=decide (p.1<q.1):=decide_eq_decide.mpr (by omega);rw[z] at h;exact h
noncomputable def pairOrd:SOrd (model prog w) A E s where
 kd:=tuples' true
 blt x y:=plt (prOf s.heap x.1) (prOf s.heap y.1)
 ok x:=∃p,Pr s.heap x.1 p
 run:=fun {x y st Q} hx hy hk h=>by
  obtain⟨p,hp⟩:=hx;obtain⟨q,hq⟩:=hy;rw[eI hp,eI hq] at h;rw[lt'_eq];refine wpS_bind (wpS_get ?_);rw[hk];exact wpS_bind (wpS_lift (wpAny_attempt (yL hp hq ⟨rfl,wpS_pure h⟩)))
 asym:=fun {x y} h=>by
  have:=aU h;exact aM (by omega)
 neg:=fun {x z} y h=>by
  have:=aU h;by_cases c:plt (prOf s.heap x.1) (prOf s.heap y.1)=true
  ·exact .inl c
  ·refine .inr (aq ?_);have c':¬_:=fun e=>c (aq e);omega
theorem jE {h}:∀{vs:List Value},(∀v∈vs,∃p,Pr h v p)->∃fs,PySem.W.KatTups h vs fs/\fs.length=vs.length/\∀f∈fs,∃n t,f=.int n t
 | [],_=>⟨[],.nil,rfl,fun f e=>nomatch e⟩
 | v::vs,hv=>by
  obtain⟨p,a,t,u,rfl,e⟩:=hv v (bt ..);obtain⟨fs,k,l,i⟩:=jE (vs:=vs) fun u hu=>hv u (aX _ hu);refine⟨.int p.1 t::fs,.cons e rfl rfl rfl k,by rw[aR,aR,l],fun f hf=>?_⟩;cases hf with
  | head=>exact⟨_,_,rfl⟩
  | tail _ hf=>exact i f hf
end
section
theorem Pr.keep {v}{p:Int×Int}(x:Pr h v p)(k:∀b o,h.get? b=some o->o.cls=.type "tuple"->h'.get? b=some o):Pr h' v p:=by
 obtain⟨a,t,u,rfl,e⟩:=x;exact⟨a,t,u,rfl,k a _ e rfl⟩
theorem qR {vs:List Value}{P:Fin->Shared->Prop}(ho:s.heap.get? a=some (seqObj "list" vs.toArray n))(hI:∀v∈vs,∃p,Pr s.heap v p)(hz:vs.length<=100000)
  (h:∀out:Array Value,out.toList.Perm vs->out.toList.Pairwise (fun u v=>plt (prOf s.heap v) (prOf s.heap u)=false)->P (.done (.ret .none)) { s with heap:=sortedHeap s.heap a vs out }):wpAny (model prog w) A (Builtin.«list.sort» ⟨[.ref a],[]⟩) P E s:=by
 have big:sizeLine=16777216:=by decide
 have la:a<s.heap.objs.size:=aS ho;obtain⟨e1,o1⟩:∃e1,(s.heap.update a (mapSeq fun _=>#[])).get? a=some (seqObj "list" #[] e1):=⟨_,get?_update_seq ho _⟩;have z1:=Heap.size_update s.heap a (mapSeq fun _=>#[])
 have o2:(((s.heap.update a (mapSeq fun _=>#[])).push (seqObj "tuple" vs.toArray 0)).push (seqObj "list" #[] 0)).get? a=some (seqObj "list" #[] e1):=af _ (af _ o1)
 have kp:∀b o,s.heap.get? b=some o->o.cls=.type "tuple"->(((s.heap.update a (mapSeq fun _=>#[])).push (seqObj "tuple" vs.toArray 0)).push (seqObj "list" #[] 0)).get? b=some o:=fun b o e c=>by
  refine af _ (af _ ((get?_update_other _ _ fun z=>?_).trans e));subst z;rw[ho] at e;cases e;exact aY c (by show ¬(type "list" = type "tuple");decide)
 rw[list_sort_plain];refine aa (listItems_at ho rfl (aa (listUpdate_at ho rfl (aa (seqEpoch_at o1 rfl (aa (wpAny_newTuple (aa (wpAny_newList (bj ?c0)))))))  (hsz:=by rw[aJ,big];omega) (hsz2:=by show 0<=_;omega))))
 case c0=>
 generalize hh:((s.heap.update a (mapSeq fun _=>#[])).push (seqObj "tuple" vs.toArray 0)).push (seqObj "list" #[] 0)=h2 at o2 kp
 have hI2:∀v∈vs,∃p,Pr s.heap v p/\Pr h2 v p:=fun v hv=>by
  obtain⟨p,x⟩:=hI v hv;exact⟨p,x,x.keep kp⟩
 have done:∀(st:SortSt),(arrOf st).toList.Perm (vs.zip vs)->(arrOf st).toList.Pairwise (fun x y=>plt (prOf h2 y.1) (prOf h2 x.1)=false) ->
   ((arrOf st).map (·.2)).size<=sizeLine+1/\P (.done (.ret .none)) { s with heap:=sortedHeap s.heap a vs ((arrOf st).map (·.2)) }:=fun st pm so=>by
  have mem:∀p∈(arrOf st).toList,p.1=p.2/\p.1∈vs:=fun p hp=>mem_zip_self (pm.mem_iff.mp hp)
  have e2:((arrOf st).map (·.2)).toList=(arrOf st).toList.map (·.1):=by
   rw[Array.toList_map];exact map_congr_left fun p hp=>(mem p hp).1.symm
  have pv:((arrOf st).map (·.2)).toList.Perm vs:=by
   rw[e2];have:=pm.map (·.1)
   rwa[List.map_fst_zip (aD _)] at this
  refine⟨?_,h _ pv ?_⟩
  ·rw[<- length_toList,pv.length_eq,big];omega
  ·rw[e2,pairwise_map];refine so.imp_of_mem fun {x y} hx hy q=>?_;obtain⟨p1,a1,b1⟩:=hI2 _ (mem x hx).2;obtain⟨p2,a2,b2⟩:=hI2 _ (mem y hy).2;rw[eI b1,eI b2] at q;rw[eI a1,eI a2];exact q
 by_cases few:vs.toArray.size<2
 ·dsimp only;rw[ak few,ak few];refine aa (ae ?_);refine aa (ae ?_)
  have so:(vs.toArray.zip vs.toArray).toList.Pairwise (fun x y=>plt (prOf h2 y.1) (prOf h2 x.1)=false):=by
   have l:(vs.toArray.zip vs.toArray).toList.length<2:=by simpa using few
   match (vs.toArray.zip vs.toArray).toList,l with
   | [],_=>exact .nil
   | [x],_=>exact List.pairwise_singleton ..
   | _::_::r,l=>exact aY l (by show ¬r.length+1+1<2;omega)
  obtain⟨lz,r⟩:=done (SortSt.mk' general' (vs.toArray.zip vs.toArray) #[] 7 none) (by show (vs.toArray.zip vs.toArray).toList.Perm _;rw[<- pairsOf_toList];exact .refl _) so;refine aa (seqEpoch_at o2 rfl (aa (listUpdate_at o2 rfl ?_ (hsz:=zero_le _) (hsz2:=lz))));rw[bne_self_eq_false];subst hh;exact ae r
 ·dsimp only;rw[ah few,ah few];obtain⟨fs,kt,kl,ki⟩:=jE (h:=h2) (vs:=vs) fun v hv=>let⟨p,_,x⟩:=hI2 v hv;⟨p,x⟩;rw[aJ] at few;refine aa (PySem.W.kat_kind (T:=.type "int") (s:={ s with heap:=h2 }) kt (by omega) (fun f hf=>?_) rfl ?_)
  ·obtain⟨n,t,rfl⟩:=ki f hf;exact .now
  show wpAny _ _ _ _ _ { s with heap:=h2 };refine aa (bn (lL (s:={ s with heap:=h2 }) (O:=pairOrd) (Q:=fun _ st'=>(arrOf st').toList.Perm (pairsOf vs).toList/\failedOf st'=none/\(arrOf st').toList.Pairwise (pairOrd (prog:=prog) (w:=w) (A:=A) (E:=E) (s:={ s with heap:=h2 })).le) rfl rfl rfl (fun z hz=>?_) fun st' a1 a2 a3=>⟨a1,a2,a3⟩) ?_ fun _ _ e=>e)
  ·have hz':z∈(pairsOf vs).toList:=hz;rw[pairsOf_toList] at hz';obtain⟨p,_,x⟩:=hI2 _ (mem_zip_self hz').2;exact⟨p,x⟩
  rintro⟨_,st'⟩ s' ⟨rfl,pm,fl,so⟩;rw[pairsOf_toList] at pm;obtain⟨lz,r⟩:=done st' pm so;refine aa (seqEpoch_at o2 rfl (aa (listUpdate_at o2 rfl ?_ (hsz:=zero_le _) (hsz2:=lz))));rw[fl,bne_self_eq_false];subst hh;exact ae r
end
section
def adr:Value->Addr
 | .ref a=>a
 | _=>0
theorem nA (hh:X.A.handled=none):fe X (.builtin "sorted") (fun xs H Q=>∃(v d:Addr) (ps:List (Int×Int)),xs=[.ref v]/\H v=some (sv v d)/\Rd H d (.dK (ps.map fun p=>(Sum.inl p.1,V.int p.2)))/\ps.length<=1000 /\
  ∀ps':List (Int×Int),ps'.Perm ps->ps'.Pairwise (fun p q=>plt q p=false)->∀l (ts:List Addr) H',H l=none->(∀b o,H b=some o->H' b=some o)->H' l=some (.lst (ts.map V.ref))->ts.length=ps'.length ->
   (∀(j:Nat) t p,ts[j]?=some t->ps'[j]?=some p->H' t=some (.tup [.int p.1,.int p.2])/\H t=none)->Q (.ref l) H'):=by
 intro pins s σ H xs us Q I r h;obtain⟨v,d,ps,rfl,hv,hd,few,q⟩:=h;obtain⟨u,rfl,ru⟩:=fK r;cases ru;obtain⟨iv,_,_⟩:=I.hok v _ hv;obtain⟨hz,hS,vs,rk,m⟩:=jW I.hok hd;obtain⟨ep,hm⟩:=m.dictAt;have lv:ps.length=vs.length:=by have:=Paired.length rk;rwa[au] at this
 have big:sizeLine=16777216:=by decide
 refine Calls.call_function_entry kind_sorted plain_sorted entry_sorted (args_sorted1 _) (show wpAny _ _ (checkCount "sorted" 1 1 1 >>= fun _=>collect (.ref v) >>= _) _ _ s from aa (ae (aa ?c1)));refine PySem.W.kdx_collect hh iv hm (by rw[big];omega) fun h1 tk as k1 la G=>?c2
 have pr:∀(j:Nat) a,as[j]?=some a->∃p t t',ps[j]?=some p/\h1.get? a=some { cls:=.type "tuple",data:=.seq #[.int p.1 t,.int p.2 t'] }:=fun j a e=>by
  obtain⟨key,k,x,e3,hk,e4⟩:=G.pairs j a e;have lt:j<ps.length:=by rw[lv,<- la];exact(aA.mp e).1
  obtain⟨x',e5,rv⟩:=KV.get rk (i:=j) (k:=.inl ps[j].1) (x:=.int ps[j].2) (by rw[aQ,List.getElem?_eq_getElem lt];rfl);rw[e3] at e5;cases e5;obtain⟨t',rfl⟩:∃t,x=.int ps[j].2 t:=rv;rw[iC] at hk;obtain⟨t,rfl⟩:∃t,key=.int ps[j].1 t:=ud hk;exact⟨ps[j],t,t',List.getElem?_eq_getElem lt,e4⟩
 have g1:(h1.push (seqObj "list" (as.map Value.ref).toArray 0)).get? h1.objs.size=some (seqObj "list" (as.map Value.ref).toArray 0):=aI _ rfl;have k2:∀b o,h1.get? b=some o->(h1.push (seqObj "list" (as.map Value.ref).toArray 0)).get? b=some o:=fun b o e=>af _ e;refine aa (wpAny_newList ?c3)
 show wpAny _ _ _ _ _ { heap:=h1.push (seqObj "list" (as.map Value.ref).toArray 0),gens:=s.gens,drawn:=s.drawn,toks:=tk,os:=s.os };generalize hg:h1.push (seqObj "list" (as.map Value.ref).toArray 0)=h2 at g1 k2 ⊢
 have pr2:∀(j:Nat) a,as[j]?=some a->∃p,ps[j]?=some p/\Pr h2 (.ref a) p:=fun j a e=>by
  obtain⟨p,t,t',e1,e2⟩:=pr j a e;exact⟨p,e1,a,t,t',rfl,k2 _ _ e2⟩
 have I1:Inv X pins σ H { s with heap:=h1,toks:=tk }:=I.kept k1;refine aa (bj (wpAny_call_entry slot_list_sort ⟨_,g1,rfl⟩ entry_list_sort (qR g1 (fun u hu=>?c7) (by rw[au,la];omega) fun out p1 p2=>⟨_,rfl,?c4⟩) (args_list_sort _)))
 case c7=>
  obtain⟨a,ha,rfl⟩:=jv.mp hu;obtain⟨j,hj⟩:=List.mem_iff_getElem?.mp ha;obtain⟨p,_,z⟩:=pr2 j a hj;exact⟨p,z⟩
 case c4=>
 obtain⟨e,ge⟩:=sortedHeap_at (out:=out) g1
 have k3:∀b o,h1.get? b=some o->(sortedHeap h2 h1.objs.size (as.map Value.ref) out).get? b=some o:=fun b o z=>by
  have lt:=aS z;rw[sortedHeap_old (av lt) (aS (k2 b o z))];exact k2 b o z
 refine ae ⟨_,rfl,?c8⟩;have I3:Inv X pins σ H { s with heap:=sortedHeap h2 h1.objs.size (as.map Value.ref) out,toks:=tk }:=I1.kept k3;have f0:kc X pins H h1.objs.size:=I1.fpOk (aD _) (I1.hok.fresh (aD _));have lo:X.s₀.heap.objs.size<=s.heap.objs.size:=I.sz;have mr:∀u∈out.toList,∃a∈as,Value.ref a=u:=fun u hu=>jv.mp (p1.mem_iff.mp hu)
 have eo:out.toList=(out.toList.map adr).map Value.ref:=by
  rw[map_map];refine((map_congr_left fun u hu=>?_).trans (map_id _)).symm;obtain⟨a,_,rfl⟩:=mr u hu;rfl
 have pa:(out.toList.map adr).Perm as:=by
  have:=p1.map adr;rw[map_map] at this;exact this.trans (by rw[show (adr ∘ Value.ref)=id from rfl,map_id])
 generalize hb:out.toList.map adr=bs at eo pa;have lb:bs.length=ps.length:=by rw[pa.length_eq,la,lv]
 have I4:Inv X pins σ (upd H h1.objs.size (.lst (bs.map V.ref))) { s with heap:=sortedHeap h2 h1.objs.size (as.map Value.ref) out,toks:=tk }:=by
  refine I3.track f0 I1.sz ⟨by rw[au,lb,big];omega,out.toList,e,?_,by simpa using ge⟩;rw[eo];exact gG bs
 have fr:∀a∈as,H a=none:=fun a ha=>I.hok.fresh (cV (G.above a ha))
 obtain⟨H',I',k',t'⟩:=I4.tracks as (ps.map fun p=>[V.int p.1,V.int p.2]) (by rw[au,la,lv]) G.rise (fun a ha=>by
  have lt:=G.above a ha;obtain⟨g0,g⟩:=I.fpOk (cV lt) (fr a ha)
  exact⟨⟨by rw[aE (av (G.there ha))];exact g0,g⟩,Nat.le_trans lo (cV lt)⟩) fun j a p e1 e2=>by
   obtain⟨p',t,u,e3,e4⟩:=pr j a e1;rw[aQ,e3] at e2;cases e2;exact⟨by show 2<=sizeLine;decide,[.int p'.1 t,.int p'.2 u],.cons ⟨t,rfl⟩ (.cons ⟨u,rfl⟩ .nil),k3 _ _ e4⟩
 have eg:ps=as.map fun a=>prOf h2 (.ref a):=List.ext_getElem? fun j=>by
  rw[aQ];cases c:as[j]? with
  | none=>
   rw[List.getElem?_eq_none_iff] at c;exact List.getElem?_eq_none_iff.mpr (by omega)
  | some a=>
   obtain⟨p,e1,x⟩:=pr2 j a c;rw[e1];exact bL some (eI x).symm
 refine⟨.ref h1.objs.size,H',I',rfl,q (bs.map fun a=>prOf h2 (.ref a)) (by rw[eg];exact pa.map _) ?_ _ bs H' (I1.hok.fresh (aD _)) (fun b o z=>k' b o (by rw[aE (ao z f0.1)];exact z)) (k' _ _ ay) (au ..).symm fun j t p e1 e2=>?_⟩
 ·rw[eo,pairwise_map] at p2;exact pairwise_map.mpr p2
 ·rw[aQ,e1] at e2;cases e2;have ha:t∈as:=pa.mem_iff.mp (bV e1);obtain⟨i,hi⟩:=List.mem_iff_getElem?.mp ha;obtain⟨p',e3,x⟩:=pr2 i t hi;show H' t=some (.tup [V.int (prOf h2 (.ref t)).1,V.int (prOf h2 (.ref t)).2])/\_;rw[eI x];exact⟨t' i t _ hi (by rw[aQ,e3];rfl),fr t ha⟩
end
theorem nv (l:Addr)(o:Obj)(b:Str)(u:Tok) :
  Meets (Builtin.«dict.__eq__» ⟨[.ref l,.str b u],[]⟩) (fun _ R s=>s.heap.get? l=some o/\R (.ok (.ret .notImplemented)) s):=
 .of_wp fun prog w A R s h=>by
  obtain⟨hp,g,d,tk,os⟩:=s;obtain⟨hl,h⟩:=h;have f1:=F.sub_str_dict
  wp_walk using wpAny_load hl
  exact⟨_,rfl,h⟩
theorem n_ (l:Addr)(o:Obj)(b:Str)(u:Tok)(es:Array DictEntry)(ep:Nat)(hd:o.data=.dict es ep) :
  Meets (Builtin.«str.__eq__» ⟨[.str b u,.ref l],[]⟩) (fun _ R s=>s.heap.get? l=some o/\R (.ok (.ret .notImplemented)) s):=
 .of_wp fun prog w A R s h=>by
  obtain⟨hp,g,d,tk,os⟩:=s;obtain⟨hl,h⟩:=h
  wp_walk using wpAny_load hl
  rw[hd]
  wp_walk
  exact⟨_,rfl,h⟩
section
theorem wu (hu:X.A.units<cLine):OpR X (compareOp .Eq) (fun x y H Q=>Ex2 fun(z:Str) (t:Value)=>An3 (y=.str z) (Thg X.K H x t) (Q (.bl (decide (x=.str z))) H)):=by
 intro pins s σ H x y v u Q I rx ry h;obtain⟨z,t,rfl,g,q⟩:=h;have no:∀{a:Addr},(x=.ref a)->Q (.bl false) H:=fun e=>by rw[e,aM (fun z=>nomatch z)] at q;exact q
 cases g with
 | non=>exact cw pins s σ H _ _ v u Q I rx ry ⟨rfl,q⟩
 | bl b=>exact cw pins s σ H _ _ v u Q I rx ry ⟨rfl,q⟩
 | int i=>exact cw pins s σ H _ _ v u Q I rx ry ⟨rfl,q⟩
 | str y=>exact cw pins s σ H _ _ v u Q I rx ry ⟨rfl,q⟩
 | lst e=>
  cases rx;obtain⟨tk,rfl⟩:=ry;obtain⟨its,_,pl,_⟩:=I.list (SqL.of e);exact SeqAt.RcAt.list_str _ _ pl.isList hu _ _ _ _ ⟨.bl _,H,I,rfl,no rfl⟩
 | @frz a o xs e=>
  cases rx;obtain⟨tk,rfl⟩:=ry;obtain⟨_,_,its,n,_,e1⟩:=(show bI X.prog X.w H s.heap a (.frz o (.lst xs)) from I.hok a _ e);exact SeqAt.RcAt.list_str _ _ ⟨_,e1,rfl,_,rfl⟩ hu _ _ _ _ ⟨.bl _,H,I,rfl,no rfl⟩
 | tup e=>
  cases rx;obtain⟨tk,rfl⟩:=ry;obtain⟨its,_,⟨o,e1,c1,n,d1⟩,_⟩:=I.tuple (SqT.of e);exact SeqAt.RcAt.tuple_str _ _ ⟨o,e1,c1,n,d1⟩ hu _ _ _ _ ⟨.bl _,H,I,rfl,no rfl⟩
 | @dK a kvs e=>
  cases rx;obtain⟨tk,rfl⟩:=ry;obtain⟨_,_,vs,_,o,es,ep,h1,h2,h3,_⟩:=(show bI X.prog X.w H s.heap a (.dK kvs) from I.hok a _ e);have ty:s.TypeIs (.ref a) "dict":=⟨_,h1,h2.1⟩
  exact SeqAt.rc_eq_decline_or (k:=false) ty (typeIs_str s _ _) (by decide) F.sub_str_dict F.slot_dict_eq F.slot_str_eq_refl
   (fun _ hq=>call_meets F.slot_dict_eq ty F.entry_dict_eq (F.args_dict_eq_2 _ _) (nv a o _ _) ⟨h1,hq⟩)
   (fun _ hq=>call_meets F.slot_str_eq_refl (typeIs_str s _ _) F.entry_str_eq (F.args_str_eq_2 _ _) (n_ a o _ _ es ep h3) ⟨h1,hq⟩)
   (fun _ hq=>wpAny_of_eq (rfl:isSame (.ref a) (.str _ _)=pure false) hq) (.inr hu) ⟨.bl false,H,I,rfl,no rfl⟩
end
section
variable {m:Str->Option Value}
theorem wG (a:h.Ns L m)(b:h.Ns L m'):m=m':=by
 obtain⟨o,es,ep,e,d,_,f⟩:=a;obtain⟨o',es',ep',e',d',_,f'⟩:=b;rw[e] at e';cases e';rw[d] at d';cases d';exact funext fun x=>(f x).symm.trans (f' x)
theorem Inv.laidN {t':Nat}(I:Inv X pins σ H s)(hm:s.heap.Ns X.env.locals m)(hn:h'.Ns X.env.locals m)(k:∀b ob,b≠X.env.locals->s.heap.get? b=some ob->h'.get? b=some ob)(hp:s.heap.get? a=none)
  (new:bI X.prog X.w (upd H a o) h' a o):Inv X pins σ (upd H a o) { s with heap:=h',toks:=t' }:=by
 have na:H a=none:=by
  cases q:H a with
  | none=>rfl
  | some u=>
   obtain⟨ob,e⟩:=bI.there (I.hok a u q);rw[hp] at e;cases e
 have nt:∀{b u},H b=some u->b≠X.env.locals:=fun e z=>by rw[z,I.free] at e;cases e
 have lt:∀{b:Addr} {ob},s.heap.get? b=some ob->b≠a:=fun e z=>by rw[z,hp] at e;cases e
 refine I.step (g':=s.gens) (d':=s.drawn) (ch:=[]) (fun _ z=>nomatch z) (fun b ob hL _ _ e _=>k b ob hL e) (fun b ob hL _ _ e _=>⟨ob.slots,k b ob hL e⟩) (fun b ob _ e n=>by rw[aE (lt e)];exact n) (fun b ob _ e=>?_)
  (fun b xs q=>by rw[aE (ao q na)];exact q) (fun b u xs q=>by rw[aE (ao q na)];exact q) (fun b ps q=>⟨#[],by rw[aE (ao q na),q];simp⟩) (fun m' q=>by rw[<- wG hm q];exact hn) (fun b u q=>?_) I.bare
 ·by_cases hb:b=X.env.locals
  ·obtain⟨o',_,_,e',_⟩:=hn;exact⟨o',hb▸e'⟩
  ·exact⟨ob,k b ob hb e⟩
 ·by_cases hb:b=a
  ·subst hb;rw[ay] at q;cases q;exact new
  ·rw[aE hb] at q;refine(I.hok b u q).stay (fun c v hc r=>k c v ?_ r) (fun c r=>by rw[aE (ao r na)];exact r) fun c xs r=>by rw[aE (ao r na)];exact r
   rcases hc with rfl|hc
   ·exact nt q
   ·exact nt hc
theorem jd {g:Heap}(k:∀b o,g.get? b=some o->h.get? b=some o)(F:Fr g L h' m)(N:News g L h' (ii g h L)) :
  ∀b o,b≠L->h.get? b=some o->h'.get? b=some o:=fun b o h1 e=>by
 cases q:g.get? b with
 | some u=>
  have:=k b u q;rw[e] at this;cases this;exact F.keep b _ q
 | none=>exact(N (b,o) (gW h1 q e)).1
theorem s_ {g D o l}(N:News g L h' ((D,o)::l))(hs:∀p∈ii g h L,p∈l)(lt:∀p∈l,p.1<D):h.get? D=none:=by
 cases e:h.get? D with
 | none=>rfl
 | some u=>exact aY (lt _ (hs _ (gW (N (D,o) (.head _)).2.1 (N (D,o) (.head _)).2.2 e))) (Nat.lt_irrefl _)
theorem qW {t}{u:TGs}(h1:PG X e t)(h2:PGs X es u):PGs X (.Starred e p::es) (fF t u):=by
 intro pins s σ H vs us Q I r h;obtain⟨v,vr,e1,h⟩:=h;subst e1;cases r with
 | cons r rr=>
  refine assignInOrder_cons (thn (h1 pins s σ H _ _ _ I r h) fun _ s1 zz=>?_);obtain⟨σ1,H1,I1,q1⟩:=zz;exact h2 pins s1 σ1 H1 _ _ Q I1 rr q1
def zb (K:Frag)(n:Nat)(t:TGs):TG:=fun v σ H Q=>Ex2 fun a xs=>An5 (v=.ref a) (SqT K H a xs) (n<=xs.length) (xs.length<=1000) (∀l,H l=none->t (xs.take n++[.ref l]) σ (upd H l (.lst (xs.drop n))) Q)
theorem uq {k:Nat}{t:TGs}(hc:X.calm=true)(h:PGs X es t)
  (hn:(assignEach es X.env).length=n+1:=by rfl) (hst:(assignEach es X.env).findIdx? (·.1)=some n:=by rfl):PG X (.Tuple es k pos) (zb X.K n t):=by
 intro pins s σ H v u Q I r hw;obtain⟨a,xs,e1,hq,hl,hz,hw⟩:=hw;subst e1;cases r;obtain⟨its,rv,ht,_⟩:=I.tuple hq;have ln:=rv.length;obtain⟨m,F⟩:=I.fr
 refine PySem.W.kun_assignT (n:=n+1) (i:=n) (first:=its.take n) (mids:=its.drop n) (lasts:=[]) F (mo (g:=X.base)) ht (I.ok.hd hc) hn hst (by lia) (by simp<;>lia) (by simp<;>lia) (by simp) (by rw[take_of_length_le (by simp<;>lia)]) (by rw[List.drop_eq_nil_iff];simp) fun D h' tk F' N' lt=>?_;have kp:=jd I.bk F' fun p hp=>N' p (.tail _ hp);have nD:=s_ N' (fun _ h=>h) lt
 have I1:=I.laidN (o:=.lst (xs.drop n)) (t':=tk) F.ns F'.ns kp nD ⟨(by rw[bf];exact Nat.le_trans (Nat.le_trans (Nat.sub_le _ _) hz) (by decide)),its.drop n,0,rv.drop n,(N' _ (.head _)).1⟩
 have hD:H D=none:=by
  cases q:H D with
  | none=>rfl
  | some u=>
   obtain⟨ob,e⟩:=bI.there (I.hok D u q);rw[nD] at e;cases e
 rw[cH];exact h pins _ σ _ _ _ Q I1 ((rv.take n).append (.cons (show cb (.ref D) (.ref D) from rfl) .nil)) (hw D hD)
end
section
theorem mS (n:Nat):Builtin.Slice.sliceAdjust none none (-1) (n:Int)=((n:Int) - 1,-1):=rfl
theorem mR (n:Nat):Builtin.Slice.slicePlaces ((n:Int) - 1) (-1) (-1)=n:=by
 unfold Builtin.Slice.slicePlaces;rw[ah (by decide)];split
 ·rw[show (- -1:Int)=1 from rfl,Int.ediv_one];lia
 ·show (0:Int).toNat=n
  lia
theorem qO (xs:Array Value):((List.range xs.size).filterMap fun(k:Nat)=>xs[(((xs.size:Int) - 1)+(k:Int) * (-1)).toNat]?).toArray=xs.toList.reverse.toArray:=by
 refine bL List.toArray ?_;rw[<- PySem.W.krv_all xs,<- List.filterMap_reverse,<- PySem.W.krv_range,List.filterMap_map]
 have go:∀l:List Nat,(∀k∈l,k<xs.size)->(l.filterMap fun(k:Nat)=>xs[(((xs.size:Int) - 1)+(k:Int) * (-1)).toNat]?)=l.filterMap ((fun x=>xs[x]?) ∘ fun k=>xs.size - 1 - k):=by
  intro l
  induction l with
  | nil=>intro _;rfl
  | cons k l ih=>
   intro hl;have:=hl k (.head _);rw[filterMap_cons,filterMap_cons,ih fun j hj=>hl j (.tail _ hj),show ((xs.size:Int) - 1+(k:Int) * (-1)).toNat=xs.size - 1 - k by lia];rfl
 exact go _ fun k hk=>mem_range.mp hk
theorem uc {t u}(ht:IsTup s.heap t items)(hs:s.heap.IsSliceOf sl .none .none (.int (-1) u))(hz:items.size<=sizeLine)
  (h:Q (.ref s.heap.objs.size) { s with heap:=s.heap.push { cls:=.type "tuple",data:=.seq items.toList.reverse.toArray } }):wpAny (model prog w) A (getItem (.ref t) (.ref sl)) Q E s:=by
 obtain⟨os,hos,hcs,hds⟩:=id hs;have ty:s.TypeIs (.ref sl) "slice":=⟨os,hos,hcs⟩
 have parts:∀{A':Around} {E':Value->Shared->Prop} {Q':Int×Int×Nat->Shared->Prop},Q' ((items.size:Int) - 1,-1,items.size) s->wpAny (model prog w) A' (Builtin.Slice.sliceApplied (.ref sl) (pure (items.size:Int))) Q' E' s:=fun q=>by
  unfold Builtin.Slice.sliceApplied Builtin.Slice.sliceFields;refine aa (aa (wpAny_field hos hds (x:=.none) rfl (aa (wpAny_field hos hds (x:=.none) rfl (aa (wpAny_field hos hds (x:=.int (-1) u) rfl (ae ?_)))))));refine aa (slicePart_int ?_);show wpAny _ _ (if ((-1:Int)==0)=true then _ else _) _ _ s;rw[ah (by decide)]
  refine aa (slicePart_none (aa (slicePart_none (aa (ae ?_)))));show wpAny _ _ (match Builtin.Slice.sliceAdjust none none (-1) (items.size:Int) with|(lo,hi)=>pure (lo,(-1:Int),Builtin.Slice.slicePlaces lo hi (-1))) _ _ s;rw[mS];show wpAny _ _ (pure ((items.size:Int) - 1,(-1:Int),Builtin.Slice.slicePlaces ((items.size:Int) - 1) (-1) (-1))) _ _ s
  rw[mR];exact ae q
 unfold getItem
 try with_reducible refine bj ?_
 first|refine aa (ae ?_)|skip
 refine aa (wpAny_sequenceKey ht.typeIs (by decide) (aa (wpAny_callSpecial?_slot (name:=Str.ofString "__getitem__") ht.typeIs PyProof.Rows.slot_tuple_getitem
  (wpAny_call_entry PyProof.Rows.slot_tuple_getitem ht.typeIs entry_tuple_getitem ?_ (args_tuple_getitem _ _)))))
 show wpAny _ _ (Builtin.Tuple.tupleItemsOf (.ref t) >>= _) _ _ s;refine aa (tupleItemsOf_ ht (aa (wpAny_typeOf ty ?_)));rw[ak (by decide)];refine aa (parts ?_);show wpAny _ _ (if (((items.size:Int) - 1)==0&&((-1:Int)==1)&&items.size==items.size)=true then _ else _) _ _ s;rw[ah (by simp)];rw[qO]
 exact aa (m:=Builtin.Tuple.tupleExact _) (wpAny_newObj_type (ae ⟨_,rfl,ae h⟩) (by show items.toList.reverse.toArray.size<=sizeLine;simpa using hz))
end
section
def vo (K:Frag)(te:TE):TE:=fun σ H Q=>te σ H fun x H1=>Ex2 fun a xs=>An3 (x=.ref a) (SqT K H1 a xs) (∀p,H1 p=none->Q (.ref p) (upd H1 p (.tup xs.reverse)))
theorem ur {k}(he:PE X e te)(hk:PE X k (tUn (fun x H Q=>x=.int 1/\Q (.int (-1)) H) (tC (.int 1)))):PE X (.Subscript e (.Slice none none (some k) p2) pos) (vo X.K te):=by
 intro pins s σ H Q I h;refine Subscript_ (thn (he pins s σ H _ I h) fun v s1 zz=>?_);obtain⟨x,H1,I1,r1,q1⟩:=zz;obtain⟨a,xs,rfl,hx,q⟩:=q1;cases r1;refine wpAny_Slice ?_;rw[evalPart_none,evalPart_some];refine ae (ae (thn (hk pins s1 σ H1 (fun v H2=>v=.int (-1)/\H2=H1) I1 ⟨rfl,rfl,rfl⟩) fun kv s2 zz=>?_));obtain⟨y,H2,I2,r2,e1,e2⟩:=zz;subst e1 e2;obtain⟨t,rfl⟩:=r2
 have I3:=I2.kept (h':=s2.heap.push { cls:=.type "slice",data:=.fields #[.none,.none,.int (-1) t] }) (t':=s2.toks) fun b ob q=>af _ q;obtain⟨its,r,pl,hz⟩:=I3.tuple hx;have hlen:=r.length;refine tail_any (ops:=[.ref a,.ref s2.heap.objs.size]) pl.typeIs slot_tuple_getitem.lookup (uc pl (Heap.IsSliceOf.new ..) (by rw[aJ]<;>lia) ?_) (by with_unfolding_all rfl)
 refine⟨.ref _,_,I3.laid (t':=s2.toks) (o:=.tup xs.reverse) (fun b ob q=>af _ q) (by lia) ?_,rfl,q _ (I3.hok.fresh (by lia))⟩;exact⟨by rw[length_reverse];exact hz,its.reverse,r.reverse,IsTup.new _ _,du⟩
end
theorem jw {n}(h:(match fastLookup "tuple" n with|some none=>true|_=>false)=true):typeLookup (.type "tuple") n=pure none:=am_miss_of_fast h
section
variable {sl:Array (Option Value)}
abbrev xV (h:Heap)(l:Addr)(its:Array Value)(n:Nat)(sl:Array (Option Value)):Prop:=h.get? l=some { cls:=.type "tuple",dict:=none,data:=.seq its n,slots:=sl }
theorem tW {Q:PySem.Fin->Shared->Prop}{u:Tok}(o:xV s.heap l its n sl)(hA:A.handled=none)(h:∀h' tk e,s.heap.NewAttrErr h' e (.ref l) "keys"->E (.ref e) { s with heap:=h',toks:=tk }) :
  wpAny (model prog w) A (Builtin.«object.__getattribute__» ⟨[.ref l,.str "keys" u],[]⟩) Q E s:=by
 have lacks:=jw (n:="keys") (by kernel_rfl);have ty:s.TypeIs (.ref l) "tuple":=⟨_,o,rfl⟩;have ol:s.heap.get? l=some { cls:=.type "tuple",dict:=none,data:=.seq its n,slots:=sl }:=o
 wp_walk
 exact wpAny_raiseAttrError hA h (attrMsg_fits (by decide +kernel) (by size_fits))
theorem nS:entryFor table "tuple.__getattribute__" = some Builtin.«object.__getattribute__»:=entryFor_alias (id':="object.__getattribute__") (by kernel_rfl) (by decide +kernel) (by decide +kernel) (by kernel_rfl)
theorem tV {Q:Option Value->Shared->Prop}(o:xV s.heap l its n sl)(hA:A.handled=none)(h:∀h' tk,(∀c oc,s.heap.get? c=some oc->h'.get? c=some oc)->Q none { s with heap:=h',toks:=tk }):wpAny (model prog w) A (getAttr? (.ref l) "keys") Q E s:=by
 have ty:∀tk,Shared.TypeIs { s with toks:=tk } (.ref l) "tuple":=fun tk=>⟨_,o,rfl⟩;have ty0:s.TypeIs (.ref l) "tuple":=⟨_,o,rfl⟩;have b1:=F.slot_tuple_getattribute.lookup;have b2:=F.slot_tuple_getattribute.bind (.ref l);have b3:=jw (n:="__getattr__") (by kernel_rfl)
 have go:∀{Q':Value->Shared->Prop} {E':Value->Shared->Prop} {tk:Nat},(∀h' tk' e,s.heap.NewAttrErr h' e (.ref l) "keys"->E' (.ref e) { s with heap:=h',toks:=tk' })->wpAny (model prog w) A (call (.builtin "tuple.__getattribute__") ([.ref l]++[.str "keys" s.toks])) Q' E' { s with toks:=tk }:=fun q=>
  wpAny_call_entry F.slot_tuple_getattribute (ty _) nS (tW (s:={ s with toks:=_ }) o hA q) (F.args_tuple_getattribute_2 _ _)
 wp_walk using go
 intro h' tk' e ne;obtain⟨ta,tb,there⟩:=ne.there;have sub:=sub_AttributeError
 wp_walk
 exact h h' tk' ne.keeps
end
section
variable {KK:Type}[DecidableEq KK]{knd:KeyKind prog w KK}{R:Result->Shared->Prop}
theorem nM {xs:Array Value}(hh:A.handled=none)(di:d≠it)(dl:d≠l)(il:l≠it)(res:Value)(rs:List (KK×Value))(hl:xs.size=rs.length)(hn:rs.length<=sizeLine)(nd:(rs.map (·.1)).Nodup)
  (no:∀(i:Nat) T,xs[i]?=some (Value.ref T)->T≠d/\T≠it) :
  ∀(k i:Nat) (s:Shared),rs.length - i=k->i<=rs.length->s.heap.IsTupleIter it l i->s.heap.IsTuple l xs->fJ knd s.heap xs rs->s.heap.DictOf knd d (rs.take i) ->
  (∀s' h' tk,s'={ s with heap:=h',toks:=tk }->h'.DictOf knd d rs->(∀c o,c≠it->c≠d->s.heap.get? c=some o->h'.get? c=some o)->R (.ok (.ret res)) s') ->
  codeAny (model prog w) A (.builtin "dict.update.loop" ⟨[.ref d,.ref it,rawInt i,res],[]⟩) R s:=by
 intro k
 induction k with
 | zero=>
  intro i s hk hi hit hls ps hd hR;have hin:i=rs.length:=by lia
  refine codeAny_builtin de ?_;rw[under_plainId bQ _];refine aa (wpAny_pyNext_tuple_end hh hit hls (by rw[Array.getElem?_eq_none (by lia)]) fun h' kp=>?_);rw[take_of_length_le (by lia)] at hd;refine aa (ae (ae (hR _ h' s.toks rfl ?_ ?_)))
  all_goals first
   | exact d4 hd fun o e=>kp _ _ di e
   | exact fun c o c1 _ e=>kp _ _ c1 e
 | succ k ih=>
  intro i s hk hi hit hls ps hd hR;have ilt:i<xs.size:=by lia
  obtain⟨T,x,y,kk,ev,gT,er,ek⟩:=ps i _ (Array.getElem?_eq_getElem ilt);obtain⟨nTd,nTi⟩:=no i T (by rw[Array.getElem?_eq_getElem ilt,ev]);refine codeAny_builtin de ?_;rw[under_plainId bQ _];refine aa (wpAny_pyNext_tuple_item hit hls (by rw[Array.getElem?_eq_getElem ilt,ev]) fun h1 it1 sb1=>?_);obtain⟨oT,eT,cT,nT,dT⟩:=gT;have eT1:=sb1.extBut _ _ nTi eT
  refine aa (bj (aa (wpAny_tryCatch ?_)));unfold Builtin.Dict.pairItems;refine aa (wpAny_typeOf (T:="tuple") ⟨_,eT1,cT⟩ ?_);rw[ak (by decide)];refine aa (wpAny_seqItems eT1 dT (ae ?_));refine bj (wpAny_dictSet_pairs (hsz:=by rw[aF];lia) ek (d4 hd fun o e=>sb1.extBut _ _ di e) fun h2 hd2 sb=>?_)
  replace sb:Heap.SameBut d h1 h2:=sb
  have est:stored (rs.take i) kk y=rs.take (i+1):=by
   rw[stored,ah,List.take_succ,er]
   ·rfl
   ·intro q;obtain⟨kv,m1,m2⟩:=any_eq_true.mp q;obtain⟨j,hj⟩:=getElem?_of_mem m1
    have jl:j<i:=by
     have:=(aA.mp hj).1;rw[aF] at this
     lia
    rw[getElem?_take_of_lt jl] at hj;have e1:(rs.map (·.1))[j]?=some kk:=by rw[aQ,hj];exact bL some (aU m2)
    have e2:(rs.map (·.1))[i]?=some kk:=by rw[aQ,er];rfl
    exact aY ((List.getElem?_inj (by rw[au];lia) nd).mp (e1.trans e2.symm)) (by lia)
  rw[est] at hd2;refine ae ⟨plainId_quiet bQ _,?_⟩;obtain⟨oi,gi,ri⟩:=it1;obtain⟨ol,gl,rl⟩:=hls
  exact ih (i+1) _ (by lia) (by lia) ⟨oi,sb.extBut _ _ di.symm gi,ri⟩ ⟨ol,sb.extBut _ _ dl.symm (sb1.extBut _ _ il gl),rl⟩ (ps.keep fun T' o ⟨j,ej⟩ e=>sb.extBut _ _ (no j T' ej).1 (sb1.extBut _ _ (no j T' ej).2 e)) hd2 fun s' h3 tk3 es hd3 kp3=>hR s' h3 tk3 es hd3 fun c o c1 c2 e=>kp3 c o c1 c2 (sb.extBut _ _ c2 (sb1.extBut _ _ c1 e))
end
section
variable {KK:Type}[DecidableEq KK]{knd:KeyKind prog w KK}{l:Addr}{its:Array Value}{n:Nat}{sl:Array (Option Value)}
theorem rO {more:List (KK×Value)}{R:PySem.Fin->Shared->Prop}(o:xV s.heap l its n sl)(hd:s.heap.DictOf knd d more)(hA:A.handled=none)
  (q:∀(h':Heap) tk,(∀c oc,s.heap.get? c=some oc->h'.get? c=some oc)->R (.again (.builtin "dict.update.loop" ⟨[.ref d,.ref h'.objs.size,rawInt 0,.none],[]⟩)) { s with heap:=h'.push { cls:=.type "tuple_iterator",data:=.fields #[.ref l,.int 0 0] },toks:=tk }) :
  wpAny (model prog w) A (Builtin.«dict.__init__» ⟨[.ref d,.ref l],[]⟩) R E s:=by
 have ty:s.TypeIs (.ref l) "tuple":=⟨_,o,rfl⟩
 have from':wpAny (model prog w) A (Builtin.Dict.updateFrom "dict.__init__" d (.ref l) [] .none) R E s:=by
  have seek:∀{Q':Option Value->Shared->Prop},(∀h' tk,(∀c oc,s.heap.get? c=some oc->h'.get? c=some oc)->Q' none { s with heap:=h',toks:=tk })->wpAny (model prog w) A (getAttr? (.ref l) "keys") Q' E s:=fun k=>tV o hA k
  exact show wpAny _ _ (typeOf (.ref l) >>= _) _ _ s from aa (wpAny_typeOf ty (aa (seek fun h' tk keep=>aa (wpAny_rule (aa (wpAny_pyIter_tuple (items:=its) ⟨_,keep _ _ o,rfl,_,rfl⟩ (ae (q h' tk keep))))))))
 have head:∀{Q':Unit->Shared->Prop},Q' () s->wpAny (model prog w) A (Builtin.Dict.notOrdered "__init__" ⟨[.ref d,.ref l],[]⟩) Q' E s:=fun k=>wpAny_notOrdered_dict hd.typeIs k
 wp_walk using head,from'
theorem lx {rs:List (KK×Value)}(hh:A.handled=none)(o:xV s.heap l its n sl)(ps:fJ knd s.heap its rs)(hl:its.size=rs.length)(hn:rs.length<=sizeLine)(nd:(rs.map (·.1)).Nodup)
  (h:∀h' tk,h'.DictOf knd s.heap.objs.size rs->(∀c o,s.heap.get? c=some o->h'.get? c=some o)->Q (.ref s.heap.objs.size) { s with heap:=h',toks:=tk }) :
  wpAny (model prog w) A (call (.type "dict") [.ref l]) Q E s:=by
 refine callType_codes (Q₁:=fun obj t=>obj=.ref s.heap.objs.size/\∃hm,An3 (t={ s with heap:=hm }) (hm.DictOf knd s.heap.objs.size []) (∀c o,s.heap.get? c=some o->hm.get? c=some o)) PySem.F.kt_called_dict (PySem.F.kt_typeCall_dict_1 _) PySem.F.entry_dict_init (kt_code_dict_new _ ⟨rfl,_,rfl,Heap.DictOf.new s.heap,fun c o e=>af _ e⟩) ?_;rintro _ _ ⟨rfl,hm,rfl,dm,km⟩
 refine⟨dm.typeIs,PySem.F.args_dict_init_2 _ _,rO (s:={ s with heap:=hm }) (km _ _ o) dm hh fun h1 tk k1=>⟨plainId_quiet bQ _,?_⟩⟩;have kp:∀c o,s.heap.get? c=some o->h1.get? c=some o:=fun c o e=>k1 c o (km c o e);have k2:∀c o,h1.get? c=some o->(h1.push { cls:=.type "tuple_iterator",data:=.fields #[.ref l,.int 0 0] }).get? c=some o:=fun c o e=>af _ e
 have lt1:∀{c o},s.heap.get? c=some o->c<s.heap.objs.size:=fun e=>aS e;have lt2:∀{c o},h1.get? c=some o->c<h1.objs.size:=fun e=>aS e;obtain⟨od,_,_,gd,_⟩:=id dm
 have d1:(h1.push { cls:=.type "tuple_iterator",data:=.fields #[.ref l,.int 0 0] }).DictOf knd s.heap.objs.size (rs.take 0):=by
  rw[List.take_zero];exact d4 dm fun oo e=>k2 _ _ (k1 _ _ e)
 refine nM (A:=A.in1) (knd:=knd) (l:=l) (xs:=its) hh (av (lt2 (k1 _ _ gd))) (dG (av (lt1 o))) (av (lt2 (kp _ _ o))) .none rs hl hn nd (fun i T e=>?_) rs.length 0 { s with heap:=h1.push { cls:=.type "tuple_iterator",data:=.fields #[.ref l,.int 0 0] },toks:=tk } rfl (zero_le _) ⟨_,aI _ rfl,rfl,rfl⟩ ⟨_,k2 _ _ (kp _ _ o),rfl,_,rfl⟩ (ps.keep fun T oT _ e=>k2 _ _ (kp _ _ e)) d1 fun s' h' tk' es d' kp'=>?_
 ·obtain⟨T',x,y,kk,ev,⟨oT,eT,_⟩,_⟩:=ps i _ e;cases ev;exact⟨av (lt1 eT),av (lt2 (kp _ _ eT))⟩
 ·subst es;exact⟨rfl,h h' tk' d' fun c oc e=>kp' c oc (av (lt2 (kp _ _ e))) (av (lt1 e)) (k2 _ _ (kp _ _ e))⟩
end
section
theorem lD (hh:X.A.handled=none):fe X (.type "dict") (fun xs H Q=>∃(l:Addr) (ts:List Addr) (kvs:List (Key×V)),xs=[.ref l]/\H l=some (.tup (ts.map V.ref))/\ts.length=kvs.length/\(kvs.map (·.1)).Nodup/\(∀(i:Nat) t k v,ts[i]?=some t->kvs[i]?=some (k,v)->H t=some (.tup [kV k,v]))/\∀d,H d=none->Q (.ref d) (upd H d (.dK kvs))):=by
 intro pins s σ H xs us Q I r h;obtain⟨l,ts,kvs,rfl,hl,ln,nd,tu,q⟩:=h;obtain⟨u,rfl,ru⟩:=fK r;cases ru;obtain⟨z,its,rv,⟨⟨cls,dd,data,sl⟩,e,hc,n,hd⟩,dn⟩:=(show bI X.prog X.w H s.heap l (.tup (ts.map V.ref)) from I.hok l _ hl);have hdd:dd=none:=dn _ e;dsimp only at hc hd;subst hc hd hdd;cases iP rv
 obtain⟨rs,kv,ps⟩:=iW (prog:=X.prog) (w:=X.w) (h:=s.heap) ln fun i t k v a b=>by
  obtain⟨us,r2,⟨o,e1,e2,m,e3⟩,_⟩:=I.tuple (SqT.of (tu i t k v a b));obtain⟨x,y,rfl,rx,ry⟩:=mL r2;exact⟨x,y,⟨o,e1,e2,m,e3⟩,rx,ry⟩
 have lr:=kv.length.symm;rw[au] at z;refine lx (knd:=bK X.prog X.w) (rs:=rs) hh e (fun i v a=>ps i v (by simpa using a)) (by simp[lr,ln]) (by lia) (by rw[<- kv.keys];exact nd) fun h' tk hd kp=>?_;refine⟨.ref s.heap.objs.size,_,I.laid (a:=s.heap.objs.size) (o:=.dK kvs) (t':=tk) kp (by lia) ⟨by lia,?_,rs,kv,hd⟩,rfl,q _ (I.hok.fresh (by lia))⟩;have:=I.big
 exact beq_eq_false_iff_ne.mpr (by intro z;simp only[Addr] at *;lia)
end
end L2
namespace L2
open PySem PyProof PyProof.Rows PySem.W
def fB (x:Str)(p:Pos):Arguments:={ posonlyargs:=[],args:=[{ arg:=x,annotation:=none,pos:=p }],vararg:=none,kwonlyargs:=[],kw_defaults:=[],kwarg:=none,defaults:=[] }
def eO (x:Str)(p p2 p3:Pos):Expr:=.Subscript (.Name x p) (.Constant (.int 0) 0 p2) p3
def dr (x:Str):Scope:={ kind:=.function,names:=[(x,.local)],isGenerator:=false,isCoroutine:=false,more:=[] }
section
theorem rK {p0 p3 c' t}{k:Int}{tk}(hf:s.heap.get? f=some (kla_obj "<lambda>" qual (fB "deed" p0) (eO "deed" p p2 p3) (dr "deed") [] pm c' ctv))
  (hc:s.heap.CodeRec (.ref c') qual) (hlim:s.heap.NoLimit) (hroom:A.depth<recursionLimit) (ht:IsTup s.heap t items) (h0:items[0]?=some (.int k tk)) (q:∀h' tk' t',(∀b o,s.heap.get? b=some o->h'.get? b=some o)->Q (.int k t') { s with heap:=h',toks:=tk' }) :
  wpAny (model prog w) A (call (.ref f) [.ref t]) Q E s:=by
 refine wpAny_call (kla_callFunE hroom hf rfl rfl rfl rfl hc ?_);have hb:bindArgs (kla_fn "<lambda>" qual (fB "deed" p0) (eO "deed" p p2 p3) (dr "deed") [] pm (.ref c') ctv) ⟨[.ref t],[]⟩=pure [(Str.ofString "deed",Value.ref t)]:=by first|rfl|with_unfolding_all rfl
 rw[hb];refine ae (wpAny_newFunctionEnv (by simp[kla_fn,dr]) (by simp[kla_fn,dr,List.lookup]) (fun h₁ hns hsb=>⟨hlim.fresh _ hsb,?_⟩) rfl);refine kla_codeExpr ?_;have kp:∀b o,s.heap.get? b=some o->h₁.get? b=some o:=fun b o e=>hsb.extBut b o (av (aS e)) (af _ e);unfold eO
 refine Subscript_ (wpAny_Name (wpAny_loadName_local (m:=fun x=>List.lookup x [(Str.ofString "deed",Value.ref t)].reverse) (v:=.ref t) rfl (by first|rfl|with_unfolding_all rfl) hns rfl (wpAny_Constant_int ?_)) (by decide +kernel))
 refine subscriptTail_builtinR (x:=.int k tk) (IsTup.typeIs (s:={ s with heap:=h₁,toks:=_ }) (ht.keeps kp)) slot_tuple_getitem.lookup (getItem_tuple (j:=0) (Q:=fun r s'=>r=.int k tk/\_) (ht.keeps kp) (by decide) (by decide) ?_ h0 ⟨rfl,?_⟩) (by first|rfl|with_unfolding_all rfl)
 ·have:0<items.size:=(Array.getElem?_eq_some_iff.mp h0).1;exact seqIndex_of (by decide) (by lia)
 ·exact q _ _ _ kp
end
def jq (c:Addr)(q:Str):HO:=.ext fun h=>h.CodeRec (.ref c) q
structure LamP where
 p0:Pos
 p:Pos
 p2:Pos
 p3:Pos
def tN (f:Addr)(x:LamP)(q:Str)(c:Addr):HO:=.ext fun h=>Ex2 fun pm ctv=>h.get? f=some (kla_obj "<lambda>" q (fB "deed" x.p0) (eO "deed" x.p x.p2 x.p3) (dr "deed") [] pm c ctv)
def Lam (H:Hp)(f:Addr)(x:LamP)(q:Str):Prop:=∃c,H f=some (tN f x q c)/\H c=some (jq c q)
def gZ (pos:Pos)(c:Addr):Array Value:=#[rawInt pos.line,rawInt pos.col,.ref c]
inductive Tab (H:Hp)(P:Addr)(pos:Pos)(q:Str):Prop
 | new:H P=some (.tbl #[])->Tab H P pos q
 | old (c:Addr):H P=some (.tbl (gZ pos c))->H c=some (jq c q)->Tab H P pos q
section
theorem sj {c}(x:h.CodeRec (.ref c) q):bI P w H h c (jq c q):=by
 obtain⟨c',oc,vs,t,e,ho,r⟩:=id x;cases e;refine⟨x,⟨oc,ho⟩,fun h1 h2 y k=>?_⟩;obtain⟨c',oc,vs,t,e,ho,r⟩:=y;cases e;exact⟨_,oc,vs,t,rfl,k _ ho,r⟩
theorem qr {c}(x:bI P w H h c (jq c q)):h.CodeRec (.ref c) q:=x.1
theorem pI {c}{x:LamP}(e:h.get? f=some (kla_obj "<lambda>" q (fB "deed" x.p0) (eO "deed" x.p x.p2 x.p3) (dr "deed") [] pm c ctv)):bI P w H h f (tN f x q c):=
 ⟨⟨pm,ctv,e⟩,⟨_,e⟩,fun _ _ ⟨pm,ctv,e⟩ k=>⟨pm,ctv,k _ e⟩⟩
end
section
def zB (P:Addr)(pos:Pos)(x:LamP)(q:Str):TE:=fun σ H Q=>Tab H P pos q/\∀f H',H f=none->Tab H' P pos q->Lam H' f x q->(∀b o,b≠P->H b=some o->H' b=some o)->Q (.ref f) H'
theorem wj {x:LamP}{c P}(hcd:X.env.code=.ref c)(hC:CodeHd X.base c P)(hb:X.base.BuiltinsAt X.mg P)(hgP:mainGlobals≠P):PE X (.Lambda (fB "deed" x.p0) (eO "deed" x.p x.p2 x.p3) (dr "deed") pos) (zB P pos x (X.env.qual ++ "<lambda>")):=by
 intro pins s σ H Q I h;obtain⟨tb,q⟩:=h;have kb:=I.bk;have hg:=I.ok.mod.glob.keeps kb;have C:=hC.keeps kb
 have hb':s.heap.BuiltinsAt X.mg P:=by
  obtain⟨bm,o,a1,a2,a3,a4,a5,a6⟩:=hb;exact⟨bm,o,a1,a2,a3,a4,kb _ _ a5,a6⟩
 have tO:∀ps,H P=some (.tbl ps)->s.heap.get? P=some (tabObj ps):=fun ps e=>I.hok P _ e;refine kla_eval rfl ?_;rcases tb with e|⟨c',e,ec⟩
 ·refine kla_makeFunction (clos:=[]) rfl I.ok.glob hg hcd C (tO _ e) trivial rfl hgP hb' fun c' ctv h' tk hx h1 h2 hrec htb=>?_;have hlt:P<s.heap.objs.size:=aS (tO _ e);have nPc:c'≠P:=ne_of_gt (aH hlt h1);have nPf:h'.objs.size≠P:=ne_of_gt (Nat.lt_trans (aH hlt h1) h2);have ncf:c'≠h'.objs.size:=av h2;have fc:H c'=none:=I.hok.fresh h1
  have ff:H h'.objs.size=none:=I.hok.fresh (Nat.le_trans h1 (cV h2))
  have old:∀{b u},b≠P->H b=some u->upd (upd (upd H P (.tbl (gZ pos c'))) c' (jq c' (X.env.qual ++ "<lambda>"))) h'.objs.size (tN h'.objs.size x (X.env.qual ++ "<lambda>") c') b=some u:=fun {b u} n z=>by
   rw[aE (ao z ff),aE (ao z fc),aE n];exact z
  have kk:∀b o,b≠P->s.heap.get? b=some o->(h'.push (kla_obj "<lambda>" (X.env.qual ++ "<lambda>") (fB "deed" x.p0) (eO "deed" x.p x.p2 x.p3) (dr "deed") [] ((X.mg "__name__").getD .none) c' ctv)).get? b=some o:=fun b o n z=>af _ (hx b o n z)
  have gP:upd (upd (upd H P (.tbl (gZ pos c'))) c' (jq c' (X.env.qual ++ "<lambda>"))) h'.objs.size (tN h'.objs.size x (X.env.qual ++ "<lambda>") c') P=some (.tbl (gZ pos c')):=by rw[aE nPf.symm,aE nPc.symm,ay]
  have gc:upd (upd (upd H P (.tbl (gZ pos c'))) c' (jq c' (X.env.qual ++ "<lambda>"))) h'.objs.size (tN h'.objs.size x (X.env.qual ++ "<lambda>") c') c'=some (jq c' (X.env.qual ++ "<lambda>")):=by rw[aE ncf,ay]
  have nP:∀{b:Addr} {u:HO},H b=some u->(∀ps,u≠.tbl ps)->b≠P:=fun z n y=>by rw[y,e] at z;cases z;exact n _ rfl
  refine⟨.ref h'.objs.size,_,I.step (H':=upd (upd (upd H P (.tbl (gZ pos c'))) c' (jq c' (X.env.qual ++ "<lambda>"))) h'.objs.size (tN h'.objs.size x (X.env.qual ++ "<lambda>") c')) (g':=s.gens) (d':=s.drawn) (t':=tk) (ch:=[]) (fun _ z=>nomatch z) (fun b o _ _ _ z n=>kk b o (fun y=>by rw[y,e] at n;cases n) z)
   (fun b o _ _ _ z n=>⟨o.slots,kk b o (fun y=>by rw[y,e] at n;cases n) z⟩) (fun b o _ z n=>?_) (fun b o _ z=>?_) (fun b xs z=>old (nP z fun _=>by simp) z) (fun b o u z=>old (nP z fun _=>by simp) z) (fun b ps z=>?_) (fun m z=>?_) (fun b u z=>?_) I.bare,rfl,q _ _ ff (.old c' gP gc) ⟨c',ay,gc⟩ fun b o n z=>old n z⟩
  ·have b1:=aS z;rw[aE (av (Nat.lt_trans (aH b1 h1) h2)),aE (av (aH b1 h1)),aE (fun y=>by rw[y,e] at n;cases n)];exact n
  ·by_cases hb:b=P
   ·subst hb;exact⟨_,af _ htb⟩
   ·exact⟨o,kk b o hb z⟩
  ·by_cases hb:b=P
   ·subst hb;rw[e] at z;cases z;exact⟨gZ pos c',by rw[gP];simp⟩
   ·exact⟨#[],by rw[old hb z];simp⟩
  ·exact(z.extBut hx fun y=>by have:=I.free;rw[y,e] at this;cases this).push _
  ·by_cases b1:b=h'.objs.size
   ·subst b1;rw[ay] at z;cases z;exact pI (aI _ rfl)
   ·rw[aE b1] at z;by_cases b2:b=c'
    ·subst b2;rw[ay] at z;cases z;obtain⟨c2,oc,vs,t,e1,ho,r⟩:=hrec;cases e1;exact sj ⟨_,oc,vs,t,rfl,af _ ho,r⟩
    ·rw[aE b2] at z;by_cases b3:b=P
     ·subst b3;rw[ay] at z;cases z;exact af _ htb
     ·rw[aE b3] at z;refine(I.hok b u z).stay (fun c v hc r=>kk c v ?_ r) (fun c r=>old (nP r fun _=>by simp) r) fun c xs r=>old (nP r fun _=>by simp) r;rcases hc with rfl|hc
      ·exact b3
      ·exact nP hc fun _=>by simp
 ·refine kla_makeFunctionHit (cv:=.ref c') (clos:=[]) rfl I.ok.glob hg hcd C (tO _ e) ⟨⟩ ?_ hb' fun ctv h' tk k sz=>?_
  ·show (if ((pos.line:Int)==pos.line&&(pos.col:Int)==pos.col)=true then _ else _)=_;simp
  ·have ff:H h'.objs.size=none:=I.hok.fresh sz;have kk:∀b o,s.heap.get? b=some o->(h'.push (kla_obj "<lambda>" (X.env.qual ++ "<lambda>") (fB "deed" x.p0) (eO "deed" x.p x.p2 x.p3) (dr "deed") [] ((X.mg "__name__").getD .none) c' ctv)).get? b=some o:=fun b o z=>af _ (k b o z)
   have st:∀{b u},H b=some u->upd H h'.objs.size (tN h'.objs.size x (X.env.qual ++ "<lambda>") c') b=some u:=fun z=>by rw[aE (ao z ff)];exact z
   exact⟨.ref h'.objs.size,_,I.laid (t':=tk) kk sz (pI (aI _ rfl)),rfl,q _ _ ff (.old c' (st e) (st ec)) ⟨c',ay,st ec⟩ fun b o _ z=>st z⟩
end
def adV:Value->Addr|.ref a=>a|_=>0
section
theorem nz {k:Nat}(hr:jp k X.A):tQ X (.builtin "sorted") ["key"] (fun xs zs H Q=>Ex6 fun(a f:Addr) (ts:List Addr) (ks:List Int) (x:LamP) (q:Str)=>An7 (xs=[.ref a]/\zs=[.ref f]) (SqL X.K H a (ts.map V.ref)) (ks.length=ts.length) (ts.length<64)
  (∀(i:Nat) t k,ts[i]?=some t->ks[i]?=some k->∃us,H t=some (.tup (.int k::us))) (Lam H f x q)
  (∀ps:List (Int×Addr),ps.Perm (ks.zip ts)->ps.Pairwise (fun p q=>p.1<=q.1)->∀l,H l=none->Q (.ref l) (upd H l (.lst (ps.map fun p=>.ref p.2))))):=by
 intro pins s σ H xs zs us ws Q I r rz h;obtain⟨a,f,ts,ks,x,q,⟨rfl,rfl⟩,hq,hl,h64,ht,⟨c,hf,hc⟩,hQ⟩:=h;obtain⟨u,rfl,ru⟩:=fK r;obtain⟨dv,rfl,rd⟩:=fK rz;cases ru;cases rd;obtain⟨its,rv,pl,hz⟩:=I.list hq;cases iP rv;obtain⟨m,F⟩:=I.fr;obtain⟨⟨pm,ctv,gf⟩,_⟩:=(show bI X.prog X.w H s.heap f (tN f x q c) from I.hok f _ hf);have gc:=qr (I.hok c _ hc)
 have nL:∀{b u},H b=some u->b≠X.env.locals:=fun e z=>by rw[z,I.free] at e;cases e
 show wpAny _ _ (call (.builtin "sorted") [.ref a] [(Str.ofString "key",.ref f)]) _ _ _;refine ksk_sorted (b:=false) (vs:=ts.map Value.ref) (kz:=ks) F (mo (g:=X.base)) pl.isList (by rw[au];exact hl) (by rw[au];exact h64) (ksk_s1 _ _) (fun y=>ksk_l1 _ _) (fun y=>ksk_t1 f y) (fun i v k hv hk h tk own F' N'=>?_) fun D h' tk out c' F' N' lt ko=>?_
 ·rw[aQ] at hv;obtain⟨t,et,rfl⟩:=dF.mp hv;obtain⟨us,eu⟩:=ht i t k et hk;have kp:=jd I.bk F' fun p hp=>N' p (dE _ hp);obtain⟨its2,r2,⟨o,e1,e2,n,e3⟩,_⟩:=I.tuple (SqT.of (K:=X.K) eu);cases r2 with
  | cons rk _=>
  obtain⟨tk0,rfl⟩:=rk;obtain⟨cc,oc,vs,t9,q1,q2,q3⟩:=gc;cases q1;refine rK (s:={ s with heap:=h,toks:=tk }) (kp _ _ (nL hf) gf) ⟨_,oc,vs,t9,rfl,kp _ _ (nL hc) q2,q3⟩ (I.ok.mod.nolimit.keeps fun b o e=>F'.keep b o e) ?_ ⟨o,kp _ _ (nL eu) e1,e2,n,e3⟩ rfl fun h2 tk2 t2 kk=>⟨h2,tk2,t2,rfl,rfl,F'.kept kk,N'.grown kk⟩;have:=hr.dp;show X.A.depth<recursionLimit
  lia
 ·obtain⟨ps,pp,po,pw⟩:=ko;have kp:=jd I.bk F' fun p hp=>N' p (.tail _ hp);have nD:=s_ N' (fun _ h=>h) lt
  have hD:H D=none:=by
   cases z:H D with
   | none=>rfl
   | some u=>
    obtain⟨ob,e⟩:=bI.there (I.hok D u z);rw[nD] at e;cases e
  have rf:∀p∈ps,p.2=.ref (adV p.2):=fun p hp=>by
   have:=(of_mem_zip (pp.mem_iff.mp hp)).2;obtain⟨b,_,e⟩:=jv.mp this;rw[<- e];rfl
  have eq:ps.map Prod.snd=(ps.map fun p=>(p.1,adV p.2)).map fun p=>Value.ref p.2:=by
   rw[map_map];exact map_congr_left fun p hp=>rf p hp
  have pp2:(ps.map fun p=>(p.1,adV p.2)).Perm (ks.zip ts):=by
   have:=pp.map fun p=>(p.1,adV p.2);rw[List.zip_map_right,map_map] at this;have e:((fun p:Int×Value=>(p.1,adV p.2)) ∘ Prod.map id Value.ref)=id:=funext fun p=>rfl;rw[e,map_id] at this;exact this
  have pw2:(ps.map fun p=>(p.1,adV p.2)).Pairwise (fun p q=>p.1<=q.1):=by
   rw[pairwise_map];exact pw.imp fun h=>by simpa using h
  have lz:(ps.map fun p=>(p.1,adV p.2)).length<64:=by rw[pp2.length_eq,List.length_zip];lia
  have hv:out.toList=((ps.map fun p=>(p.1,adV p.2)).map (·.2)).map Value.ref:=by rw[po,eq];simp only[map_map];rfl
  have I1:=I.laidN (o:=.lst ((ps.map fun p=>(p.1,adV p.2)).map fun p=>.ref p.2)) (t':=tk) F.ns F'.ns kp nD ⟨by rw[au];exact Nat.le_trans (cV lz) (by decide),out.toList,c',by
   rw[hv];have:=gG ((ps.map fun p=>(p.1,adV p.2)).map (·.2))
   rwa[map_map] at this,(N' _ (.head _)).1⟩
  exact⟨.ref D,_,I1,rfl,hQ _ pp2 pw2 D hD⟩
end
end L2
namespace L2
open PySem PySem.Spec PyProof.Rows
theorem pH {k:Nat}{PT}{vs:List Value}
  (KX:K.In s₁.heap) (hns:s₁.heap.Ns mainGlobals mg) (hb:s₁.heap.Ns builtinsNs mb) (hbb:∀x:Str,x ≠ "__name__"->mb x=bootBuiltins x) (hlim:s₁.heap.NoLimit) (hg:s₁.gens = #[])
  (hB:s₁.heap.BuiltinsAt mg PT) (hT:s₁.heap.get? PT=some (PySem.W.tabObj #[])) (hC:PySem.W.CodeHd s₁.heap cc PT) (kT:K.lookup PT=none)
  (ha:s₁.heap.get? a=some { cls:=.type "list",data:=.seq vs.toArray }) (hi:IntsAre vs ns) (hl:ns.length<=sizeLine) (hr:jp k callerA)
  (F:∀base:Heap,K.In base->base.Ns mainGlobals mg->base.BuiltinsAt mg PT->PySem.W.CodeHd base cc PT->nI P w K mg base CX k fa fd [x] sp) (hbind:∀(s:Shared) (u:Value),BindsTo s fd ⟨[u],[]⟩ [(x,u)])
  (hsp:∀H:Hp,H PT=some (.tbl #[])->PT≠a->SqL K H a (ns.map V.int)->sp [.ref a] H (fun v _=>v=.bl true) fun _ _ _=>False)
  (hCX:∀H e s',CX [] H s₁ (fun _ _ _=>False) e s'->False) :
  codeAny (model P w) callerA (.call (.ref fa) ⟨[.ref a],[]⟩) (fun r s'=>r=.ok (.ret (.bool true))/\OldK s₁.heap s'.heap/\s'.os=s₁.os/\AllBare s'.gens) s₁:=by
 have rv:=gH hi;have lenV:=hi.length;have nPa:PT≠a:=fun z=>by rw[z,ha] at hT;cases hT
 have core:∀H:Hp,(∀b,H b=none\/(∃o xs,H b=some (.frz o (.lst xs)))\/b=PT)->H PT=some (.tbl #[])->SqL K H a (ns.map V.int)->HOk P w H s₁.heap->(∀b,H b≠none->b=a\/b=PT)->(H a≠none->K.lookup a=none) ->
   codeAny (model P w) callerA (.call (.ref fa) ⟨[.ref a],[]⟩) (fun r s'=>r=.ok (.ret (.bool true))/\OldK s₁.heap s'.heap/\s'.os=s₁.os/\AllBare s'.gens) s₁:=by
  intro H hO hP hS hok hA hK;have base_of:∀{b:Addr} {o:Obj},s₁.heap.get? b=some o->H b=none->(qa s₁.heap H).get? b=some o:=fun e n=>rQ e n
  have noA:∀{b:Addr} {o:Obj},s₁.heap.get? b=some o->(∀q n,o.data≠.seq q n)->(∀q,o.data≠.fields q)\/o.cls≠.none->H b=none:=fun {b o} e d d2=>by
   cases q:H b with
   | none=>rfl
   | some u=>
    rcases hA b (by rw[q];simp) with e'|e'
    ·subst e';rw[ha] at e;cases e;exact aY rfl (d _ _)
    ·subst e';rw[hT] at e;cases e;rcases d2 with d2|d2
     ·exact aY rfl (d2 _)
     ·exact aY rfl d2
  have nsK:∀{b:Addr} {m:Str->Option Value},s₁.heap.Ns b m->(qa s₁.heap H).Ns b m:=fun {b m} ⟨o,es,ep,e,d,r⟩=>⟨o,es,ep,base_of e (noA e (fun q n z=>by rw[d] at z;cases z) (.inl fun q z=>by rw[d] at z;cases z)),d,r⟩
  have hKb:K.In (qa s₁.heap H):=fun b o e=>base_of (KX b o e) (by
   cases q:H b with
   | none=>rfl
   | some u=>
    rcases hA b (by rw[q];simp) with e'|e'
    ·subst e';rw[hK (by rw[q];simp)] at e;cases e
    ·subst e'
     rw[kT] at e;cases e)
  have hBb:(qa s₁.heap H).BuiltinsAt mg PT:=by
   obtain⟨bm,o,a1,a2,a3,a4,a5,a6,a7,a8⟩:=hB;exact⟨bm,o,a1,a2,a3,a4,base_of a5 (noA a5 (fun q n z=>by rw[a8] at z;cases z) (.inl fun q z=>by rw[a8] at z;cases z)),a6,a7,a8⟩
  have hCb:PySem.W.CodeHd (qa s₁.heap H) cc PT:=by
   obtain⟨o,vs,file,tf,flags,tg,inF,text,tt,e,c,d,r⟩:=hC;exact⟨o,vs,file,tf,flags,tg,inF,text,tt,base_of e (noA e (fun q n z=>by rw[d] at z;cases z) (.inr fun z=>by rw[c] at z;cases z)),c,d,r⟩
  have hM:Mod K mg (qa s₁.heap H):=⟨hKb,nsK hns,⟨mb,nsK hb,hbb⟩,let⟨mc,h1,h2⟩:=hlim;⟨mc,nsK h1,h2⟩⟩;have e0:Env0 P w K mg (qa s₁.heap H) callerA [] s₁ H:=⟨rfl,hM,fun b o e=>uH e,le_of_eq (p_ _ _),trivial,fun b hb=>aY (show b∈([]:List Addr) from hb) (by simp),hok,.of_eq hg⟩
  refine codeAny_mono ((F _ hKb (nsK hns) hBb hCb).run callerA [] s₁ H ⟨[.ref a],[]⟩ [.ref a] [.ref a] _ _ hr e0 (hbind s₁ (.ref a)) (.cons rfl .nil) (hsp H hP nPa hS)) fun r s' h=>?_;cases r with
  | error e=>exact(hCX H e s' h).elim
  | ok fl=>
   cases fl with
   | next=>exact False.elim h
   | brk=>exact False.elim h
   | cont=>exact False.elim h
   | ret u=>
    obtain⟨v,H',os,bare,un,hok',r',q⟩:=h;have q':v=.bl true:=q;subst q';obtain rfl:u=Value.bool true:=r'
    have old:∀b o,s₁.heap.get? b=some o->(b≠PT/\s'.heap.get? b=some o)\/(b=PT/\∃more,s'.heap.get? b=some { o with data:=.fields (#[]++more) }/\o=PySem.W.tabObj #[]):=fun b o e=>by
     by_cases hb:b=PT
     ·subst hb;obtain⟨more,e2⟩:=un.tbls _ _ hP;rw[hT] at e;cases e;exact .inr ⟨rfl,more,hok' _ _ e2,rfl⟩
     ·refine .inl ⟨hb,?_⟩;cases q:H b with
      | none=>exact un.keep b o e q (by intro z;exact aY (show b∈([]:List Addr) from z) (by simp)) (by simp)
      | some u=>
       rcases hO b with z|⟨ob,xs,z⟩|z
       ·rw[q] at z;cases z
       ·have z2:=un.frzs b ob _ z;obtain⟨e1,_⟩:=hok b _ z;obtain⟨e2,_⟩:=hok' b _ z2;rw[e] at e1;cases e1;exact e2
       ·exact aY z hb
    refine⟨rfl,⟨fun b o e=>?_,fun b o e=>?_⟩,os,bare⟩
    ·rcases old b o e with⟨_,z⟩|⟨rfl,more,z,rfl⟩
     ·exact .inl z
     ·exact .inr (.inl ⟨(hC.tab hT).isCodeTable,rfl,#[],more,rfl,z⟩)
    ·rcases old b o e with⟨_,z⟩|⟨rfl,more,z,rfl⟩
     ·exact⟨_,z⟩
     ·exact⟨_,z⟩
 cases hk:K.lookup a with
 | some o=>
  have e:=KX a o hk;rw[ha] at e;cases e;refine core (fun b=>if b=PT then some (.tbl #[]) else none) (fun b=>?_) (ak rfl) (.inr ⟨_,vs.toArray,_,hk,rfl,rfl,rfl,by rw[aJ,lenV];exact hl,by simpa using rv⟩) (fun b u z=>?_) (fun b z=>?_) fun z=>aY (ah nPa.symm) z
  ·by_cases hb:b=PT
   ·exact .inr (.inr hb)
   ·exact .inl (ah hb)
  ·by_cases hb:b=PT
   ·have z':=(ak hb).symm.trans z;cases z';subst hb;exact hT
   ·have z':=(ah hb).symm.trans z;cases z'
  ·by_cases hb:b=PT
   ·exact .inr hb
   ·exact aY (ah hb) z
 | none=>
  refine core (fun b=>if b=a then some (.frz { cls:=.type "list",data:=.seq vs.toArray } (.lst (ns.map V.int))) else if b=PT then some (.tbl #[]) else none) (fun b=>?_) ((ah nPa).trans (ak rfl)) (.inl (.inr ⟨{ cls:=.type "list",data:=.seq vs.toArray },ak rfl⟩)) (fun b u z=>?_) (fun b z=>?_) fun _=>hk
  ·by_cases hb:b=a
   ·exact .inr (.inl ⟨_,_,ak hb⟩)
   ·by_cases hb2:b=PT
    ·exact .inr (.inr hb2)
    ·exact .inl ((ah hb).trans (ah hb2))
  ·by_cases hb:b=a
   ·have z':=(ak hb).symm.trans z;cases z';subst hb;exact⟨ha,by rw[au];exact hl,vs,_,rv,ha⟩
   ·have z':=(ah hb).symm.trans z;by_cases hb2:b=PT
    ·have z2:=(ak hb2).symm.trans z';cases z2;subst hb2;exact hT
    ·have z2:=(ah hb2).symm.trans z';cases z2
  ·by_cases hb:b=a
   ·exact .inl hb
   ·by_cases hb2:b=PT
    ·exact .inr hb2
    ·exact aY ((ah hb).trans (ah hb2)) z
theorem walk_ofT {l:PySem.W.OpenLaw}{k:Nat}{q}{d:DefRec}{K:Params->Frag}{CX:World->CXT}{sp:Frag->Sp}{PT}
  (hn:l.most=some n) (hn2:n<=sizeLine) (hdf:d.params.defaults=[]) (hr:jp k callerA)
  (hY:∀(w:World) (h:Heap),YP w h->(K w.params).In h/\h.get? PT=some (PySem.W.tabObj #[]))
  (hC:∀(w:World) (h:Heap),(K w.params).In h->PySem.W.CodeHd h cc PT) (kT:∀w:World,(K w.params).lookup PT=none)
  (F:∀(w:World) (mg:Str->Option Value) (fa:Addr) (h:Heap),(K w.params).In h->h.Ns mainGlobals mg->mg d.name=some (.ref fa) ->
   ∃fd:FuncData,(∀(s:Shared) (u:Value),BindsTo s fd ⟨[u],[]⟩ [(x,u)])/\∀base:Heap,(K w.params).In base->base.Ns mainGlobals mg->base.BuiltinsAt mg PT->PySem.W.CodeHd base cc PT->nI l.prog w (K w.params) mg base (CX w) k fa fd [x] (sp (K w.params)))
  (hsp:∀(K:Frag) (H:Hp) (a:Addr) (ns:List Int),ns.length<=n->H PT=some (.tbl #[])->PT≠a->SqL K H a (ns.map V.int)->sp K [.ref a] H (fun v _=>v=.bl true) fun _ _ _=>False)
  (hCX:∀(w:World) (H:Hp) (s:Shared) (e:Value) (s':Shared),CX w [] H s (fun _ _ _=>False) e s'->False) :
  PySem.W.WalkO q loose XP YP l.row.toRowW d [] (fun f vs=>PySem.call f vs):=by
 refine Att.attach_call hn hdf fun w s₀ s₁ mg mb fa o pm cd doc a vs ns G Y ho hd hcd hmg hobj hints hlen hg=>?_;obtain⟨KX,hT⟩:=hY w _ Y;obtain⟨fd,hb,hF⟩:=F w mg fa _ KX G.T.g hmg
 have hB:s₁.heap.BuiltinsAt mg PT:=by
  obtain⟨bm,ob,b1,b2,b3,b4,b5,b6⟩:=G.T.bmain;refine⟨bm,ob,b1,b2,fun q=>?_,fun q=>?_,b3,b4,b5,b6⟩
  ·obtain⟨o,es,ep,e,hd,_⟩:=G.T.g;rw[q,e] at b3;cases b3;rw[hd] at b6;cases b6
  ·rw[q,hT] at b3;cases b3;cases b4
 exact pH KX G.T.g G.T.b G.T.builtins G.T.nolimit hg hB hT (hC w _ KX) (kT w) hobj hints (Nat.le_trans hlen hn2) hr hF hb (fun H h1 h2 hS=>hsp _ H a ns hlen h1 h2 hS) fun H e s'=>hCX w H s₁ e s'
section
abbrev ceL (elt tg iter tg2 iter2:Expr)(ifs ifs2:List Expr)(scope:Scope)(pos:Pos):Expr:=.ListComp elt [⟨tg,iter,ifs,0⟩,⟨tg2,iter2,ifs2,0⟩] scope pos
theorem qJ {it}(h0:codeAny (model prog w) A (.compLoop (ceL elt tg iter tg2 iter2 ifs ifs2 scope pos) 1 it acc env) R s)
  (h:wpAny (model prog w) A (pyIter it) (fun it' s'=>codeAny (model prog w) A (.compLoop (ceL elt tg iter tg2 iter2 ifs ifs2 scope pos) 1 it' acc env) R s') (notedBy (model prog w) A env fun x s'=>R (.error x) s') s) :
  codeAny (model prog w) A (.compStart (ceL elt tg iter tg2 iter2 ifs ifs2 scope pos) 1 it acc env) R s:=by
 have e:compStart (ceL elt tg iter tg2 iter2 ifs ifs2 scope pos) 1 it acc env=(do
   if (<- ask).params.followText "comprehension-iter-twice" then again (.compLoop (ceL elt tg iter tg2 iter2 ifs ifs2 scope pos) 1 it acc env)
   else
    rule "comprehension.iter-twice"
    standAt iter2.pos
    again (.compLoop (ceL elt tg iter tg2 iter2 ifs ifs2 scope pos) 1 (<- pyIter it) acc env)):=rfl
 refine codeAny_of_tree (show wpAny _ A ((compStart (ceL elt tg iter tg2 iter2 ifs ifs2 scope pos) 1 it acc env).onRaise fun x=>do noteFrame x env;standAt theWindowsPlace) _ _ s from wpAny_notedAt ?_);rw[e];refine aa (wpAny_askSetting ?_);split
 ·exact ae ⟨rfl,h0⟩
 ·exact aa (wpAny_rule (aa (wpAny_standAt (aa (thn h fun _ _ h'=>ae ⟨rfl,h'⟩)))))
theorem uN:Kind prog w A (ceL elt tg iter tg2 iter2 ifs ifs2 scope pos) 1 tg2 ifs2 fun env D R5 N s=>wpAny (model prog w) A (eval elt env) (fun x s4=>wpAny (model prog w) A (call (.builtin "list.append") [.ref D,x]) (fun _ s5=>R5 s5) N s4) N s where
 start:=fun a b=>qJ a b
 turns:=by
  intro it D env R s N eN J turn n h;subst eN;refine codeAny_loop rfl J (fun n s hJ=>?_) n h;refine(show wpAny _ A ((compTurn (ceL elt tg iter tg2 iter2 ifs ifs2 scope pos) 1 it (.ref D) env).onRaise (fun x=>do noteFrame x env;theTreesLotGoes x)) _ _ s from wpAny_noted ?_);refine show wpAny _ _ (standAt iter2.pos >>= _) _ _ s from ?_
  refine aa (wpAny_standAt (aa (thn (turn n s hJ) fun r s1 zz=>?_)));obtain⟨q0,q1⟩:=zz;cases r with
  | none=>exact ae (q0 rfl)
  | some v=>
   refine aa (thn (q1 v rfl) fun _ s0 q2=>aa (thn q2 fun _ s2 q3=>aa (thn q3 fun ok s3 zz=>?_)));obtain⟨no,yes⟩:=zz;cases ok with
   | false=>exact ae ⟨rfl,no rfl⟩
   | true=>exact aa (aa (thn (yes rfl) fun x s4 q4=>aa (thn q4 fun _ s5 q5=>ae (ae ⟨rfl,q5⟩))))
theorem uO (hs:∀env v,foldedSetIterable iter2 env v=pure v):Kind prog w A (ceL elt tg iter tg2 iter2 ifs ifs2 scope pos) 0 tg ifs fun env D R5 N s=>wpAny (model prog w) A (eval iter2 env) (fun x s1=>wpAny (model prog w) A (pyIter x) (fun it s2=>codeAny (model prog w) A (.compStart (ceL elt tg iter tg2 iter2 ifs ifs2 scope pos) 1 it (.ref D) env) (fun r s3=>r=.ok .next/\R5 s3) s2) N s1) N s where
 start:=fun a b=>codeAny_compStart_list a b
 turns:=by
  intro it D env R s N eN J turn n h;subst eN;refine codeAny_loop rfl J (fun n s hJ=>?_) n h;refine(show wpAny _ A ((compTurn (ceL elt tg iter tg2 iter2 ifs ifs2 scope pos) 0 it (.ref D) env).onRaise (fun x=>do noteFrame x env;theTreesLotGoes x)) _ _ s from wpAny_noted ?_);refine show wpAny _ _ (standAt iter.pos >>= _) _ _ s from ?_
  refine aa (wpAny_standAt (aa (thn (turn n s hJ) fun r s1 zz=>?_)));obtain⟨q0,q1⟩:=zz;cases r with
  | none=>exact ae (q0 rfl)
  | some v=>
   refine aa (thn (q1 v rfl) fun _ s0 q2=>aa (thn q2 fun _ s2 q3=>aa (thn q3 fun ok s3 zz=>?_)));obtain⟨no,yes⟩:=zz;cases ok with
   | false=>exact ae ⟨rfl,no rfl⟩
   | true=>
    refine aa (thn (yes rfl) fun x s4 q4=>aa (wpAny_standAt (aa (wpAny_of_eq (hs env x) (aa (bj (thn q4 fun it2 s5 q5=>aa (wpAny_runOwn ?_))))))));refine codeAny_mono q5 fun r s6 zz=>?_;obtain⟨er,q6⟩:=zz;subst er;exact ae ⟨rfl,q6⟩
end
def pNL (wi:TI)(tc:TT)(tp:Addr->St->Hp->(Hp->Prop)->Prop):Addr->St->Hp->(Hp->Prop)->Prop:=fun D σ H R=>yS wi (c_ 1) tc tp D σ H fun σ' H'=>(∃o,σ'=σ.set 1 o)/\R H'
abbrev z0 (js:List Nat)(wi:TI)(tc:TT)(wi2:TI)(tc2:TT)(te:TE):TE:=fM (.lst []) (fun v _ k=>∀o,k [some v,o]) js wi tc (pNL wi2 tc2 (pL te))
theorem oF (nx:∀v s,Y.xe v s->False)(he:PE Y elt te)(pl:List (Addr×Obj))(D:Addr)(s:Shared)(σ:St)(H:Hp)(R5:Shared->Prop)(R:Hp->Prop)(N:Value->Shared->Prop)(I:Inv Y pl σ H s)(h:pL te D σ H R)(k:∀s' H',Inv Y pl σ H' s'->R H'->R5 s') :
  wpAny (model Y.prog Y.w) Y.A (eval elt Y.env) (fun x s4=>wpAny (model Y.prog Y.w) Y.A (call (.builtin "list.append") [.ref D,x]) (fun _ s5=>R5 s5) N s4) N s:=by
 refine bn (he pl s σ H _ I h) (fun yv s8 ⟨y8,H8,I8,r8,ys,hD8,hl8,w8⟩=>?_) fun _ _ z=>(nx _ _ z).elim;refine bn (cR (X:=Y) pl s8 _ H8 (.ref D) [y8] (.ref D) [yv] (fun _ H'=>H'=upd H8 D (.lst (ys++[y8]))) I8 rfl (.cons r8 .nil) ⟨_,_,_,rfl,rfl,hD8,hl8,rfl⟩) (fun _ s9 ⟨_,H9,I9,_,q9⟩=>?_) fun _ _ z=>(nx _ _ z).elim;subst q9;exact k s9 _ I9 w8
theorem oI {y z pz}(B:BlkG X scope [x,y] Nf js)(hc:X.calm=true)(hi:PI X (.Name x px) iter wi)
  (ht:∀C s₂ H₂ ex pins,PTs (blk X scope (x::y::Nf) C s₂ H₂ ex pins) ifs tc) (hi2:∀C s₂ H₂ ex pins,PI (blk X scope (x::y::Nf) C s₂ H₂ ex pins) (.Name y py) iter2 wi2) (ht2:∀C s₂ H₂ ex pins,PTs (blk X scope (x::y::Nf) C s₂ H₂ ex pins) ifs2 tc2)
  (he:∀C s₂ H₂ ex pins,PE (blk X scope (x::y::Nf) C s₂ H₂ ex pins) elt te) (hN:X.N.Nodup) (hy:X.N[i]?=some z) (hl:X.env.scope.names.lookup z=some .local)
  (hsw:swapsWith (ceL elt (.Name x px) iter (.Name y py) iter2 ifs ifs2 scope pos) (some (.Name z pz)) spos.line X.env=pure true:=by rfl)
  (hs:∀v,foldedSetIterable iter X.env v=pure v:=by intro _;rfl) (hs2:∀env v,foldedSetIterable iter2 env v=pure v:=by intro _ _;rfl):PS X (.Assign [.Name z pz] (ceL elt (.Name x px) iter (.Name y py) iter2 ifs ifs2 scope pos) spos) (qI (z0 js wi tc wi2 tc2 te) (c_ i)):=by
 have n0:=lookup_relabel_local (env:=X.env) (B.own x (.head _));have n1:=lookup_relabel_local (env:=X.env) (B.own y (.tail _ (.head _)));refine oH (xs:=[x,y]) (g:=c_ 0) B hc (fun _ _ _ _ _=>dC B.nd rfl (.inl n0) (.inr n0)) ?_ hi ht kP (uO hs2) (fun _ _ _=>iY) ?_ (fun _=>rfl) rfl hN hy hl hsw hs
 ·intro σ v H ws k l h
  match ws,l with
  | [_,o],_=>exact⟨[some v,o],rfl,⟨rfl,rfl⟩,h o⟩
 ·intro σ C s₂ H₂ ex pins pl D s ws H R5 R N lw I h k;refine pE (Y:=blk X scope ([x,y]++Nf) C s₂ H₂ ex pins) uN hc (fun _ _ z=>z) (hi2 C s₂ H₂ ex pins) (dC B.nd rfl (.inl n1) (.inr n1)) (ht2 C s₂ H₂ ex pins) (oF (fun _ _ z=>z) (he C s₂ H₂ ex pins)) I h fun s' σ' H' I' q=>?_;obtain⟨⟨o,e⟩,q⟩:=q;subst e;rw[List.set_append_left _ _ (by rw[lw];exact lt_succ_self 1)] at I'
  exact k s' H' (ws.set 1 o) (by rw[List.length_set];exact lw) I' q
section
def sN (tp:Bool):List V->Hp->VK->Prop:=fun xs H Q=>∃(l:Addr) (ts:List Addr) (kvs:List (Key×V)),xs=[.ref l]/\H l=some (if tp=true then .tup (ts.map V.ref) else .lst (ts.map V.ref))/\ts.length=kvs.length/\(kvs.map (·.1)).Nodup/\(∀(i:Nat) t k v,ts[i]?=some t->kvs[i]?=some (k,v)->H t=some (.tup [kV k,v])) /\
  ∀d,H d=none->Q (.ref d) (upd H d (.dK kvs))
theorem eZ (hh:X.A.handled=none):fe X (.type "dict") (fun xs H Q=>∃tp,sN tp xs H Q):=by
 intro pins s σ H xs us Q I r ⟨tp,l,ts,kvs,e,hl,ln,nd,tu,q⟩;cases tp with
 | false=>exact nF hh pins s σ H xs us Q I r ⟨l,ts,kvs,e,hl,ln,nd,tu,q⟩
 | true=>exact lD hh pins s σ H xs us Q I r ⟨l,ts,kvs,e,hl,ln,nd,tu,q⟩
theorem pR (e:X.K=K):IxR X (yG K):=by subst e;exact bT
end
theorem oR:ei (CXo P w) X E0:=fun _ _ _ _ _ _ _ h=>by
 obtain⟨_,_,_,_,_,_,_,_,z⟩:=h;exact z.elim
section
variable {a b c d:Str}{pa pb pc pd:Pos}
abbrev vy (K:Frag):=jx fun v H k=>Ex5 fun t y1 y2 y3 y4=>An3 (v=.ref t) (SqT K H t [y1,y2,y3,y4]) (k [some y1,some y2,some y3,some y4])
theorem vk (σ:St)(v:V)(H:Hp)(ws:St)(k:St->Prop)(l:ws.length=4)(h:Ex5 fun t y1 y2 y3 y4=>An3 (v=.ref t) (SqT K H t [y1,y2,y3,y4]) (k [some y1,some y2,some y3,some y4])) :
  ∃vs:St,vs.length=4/\vd K 4 (fF (c_ 0) (fF (c_ 1) (fF (c_ 2) (fF (c_ 3) ve)))) v (ws++rst js σ) H (fun σ' H'=>σ'=vs++rst js σ/\H'=H)/\k vs:=by
 obtain⟨t,_,_,_,_,e,q,h⟩:=h
 match ws,l with
 | [_,_,_,_],_=>exact⟨_,rfl,⟨t,_,e,q,rfl,_,_,rfl,_,_,rfl,_,_,rfl,_,_,rfl,rfl,rfl,rfl⟩,h⟩
theorem xj (B:BlkG X scope [a,b,c,d] Nf js)(hc:X.calm=true):∀C s₂ H₂ ex pins,PG (blk X scope ([a,b,c,d]++Nf) C s₂ H₂ ex pins) (.Tuple [.Name a pa,.Name b pb,.Name c pc,.Name d pd] ktg ptg) (vd X.K 4 (fF (c_ 0) (fF (c_ 1) (fF (c_ 2) (fF (c_ 3) ve))))):=fun _ _ _ _ _=>
 let h1:=lookup_relabel_local (B.own a (.head _));let h2:=lookup_relabel_local (B.own b (.tail _ (.head _)));let h3:=lookup_relabel_local (B.own c (.tail _ (.tail _ (.head _))));let h4:=lookup_relabel_local (B.own d (.tail _ (.tail _ (.tail _ (.head _)))))
 fh hc (bq (dC B.nd rfl (.inl h1) (.inr h1)) (bq (dC B.nd rfl (.inl h2) (.inr h2)) (bq (dC B.nd rfl (.inl h3) (.inr h3)) (bq (dC B.nd rfl (.inl h4) (.inr h4)) dB))))
theorem rj (B:BlkG X scope [a,b,c,d] Nf js)(hc:X.calm=true)(hi:PI X (.Tuple [.Name a pa,.Name b pb,.Name c pc,.Name d pd] ktg ptg) iter wi)
  (ht:∀C s₂ H₂ ex pins,PTs (blk X scope (a::b::c::d::Nf) C s₂ H₂ ex pins) ifs tc) (he:∀C s₂ H₂ ex pins,PE (blk X scope (a::b::c::d::Nf) C s₂ H₂ ex pins) elt te)
  (hs:∀v,foldedSetIterable iter X.env v=pure v:=by intro _;rfl):PE X (.ListComp elt [⟨.Tuple [.Name a pa,.Name b pb,.Name c pc,.Name d pd] ktg ptg,iter,ifs,0⟩] scope pos) (vy X.K js wi tc te):=iV B hc (xj B hc) vk hi ht he hs
end
section
variable {N:List Str}{k:Nat}
def xY (b:Bool)(P:Program)(w:World)(K:Frag)(mg:Str->Option Value)(base:Heap)(x:Str)(st:Stmt)(ps:List Str)(k:Nat)(sp:Sp):Prop:=
 ∃f fd,Dn K mg x x st ps f fd/\FnOkG b P w K mg base CX0 k f fd ps sp
abbrev OkD:=xY true
def DD (K:Frag)(mg:Str->Option Value)(x:Str)(st:Stmt)(ps:List Str):Prop:=∃f fd,Dn K mg x x st ps f fd
def MM (K:Frag)(mg:Str->Option Value)(cn nm q:Str)(st:Stmt)(ps:List Str):Prop:=∃C f fd,mg cn=some (.ref C)/\Meth K C nm f/\Fun K nm q st f fd/\eS K fd ps []
abbrev Bod (b:Bool)(P:Program)(w:World)(K:Frag)(mg:Str->Option Value)(base:Heap)(N ps:List Str)(q:Str)(st:Stmt)(k:Nat)(sp:Sp):Prop:=
 ∀{f:Addr} {cdv:Value} {A:Around} {outer:List Env} {s:Shared} {vs:List V} {E:XK},FnScope N ps (aO st)->∀(H:Hp) (Q:VK),RoomG b k (A.deeper (envOfC q (aO st) s.heap.objs.size f cdv))->sp vs H Q E ->
  ∃t,PSs (ir b CX0 P w K mg base N q (aO st) f cdv A outer s H E).nox (bP st) t/\t { nx:=fun _ H'=>Q .non H',rt:=Q } (start N vs) H
theorem DD.ok {b}(M:DD K mg x st ps)(h:Bod b P w K mg base N ps x st k sp)
  (S:FnScope N ps (aO st):=by exact⟨rfl,rfl,rfl,by decide +kernel,rfl,by decide +kernel,by decide +kernel⟩) (len:∀vs H Q E,sp vs H Q E->vs.length=ps.length:=by (intro _ _ _ _ h;first|(cases h;subst_vars;rfl)|repeat (first|(obtain⟨h1,_⟩:=h;subst h1;rfl)|obtain⟨_,h⟩:=h))):xY b P w K mg base x st ps (k+1) sp:=
 let⟨f,fd,D⟩:=M;⟨f,fd,D,D.fn.ok S len fun _ _ _ _ H _ Q _=>h S H Q⟩
def nOf (sc:Scope):List Str:=(sc.names.filter fun y=>y.2==.local||y.2==.cell).map (·.1)
theorem DD.go {b}(M:DD K mg x st ps)(h:Bod b P w K mg base (nOf (aO st)) ps x st k sp)(S:FnScope (nOf (aO st)) ps (aO st):=by exact⟨rfl,rfl,rfl,by decide +kernel,rfl,by decide +kernel,by decide +kernel⟩)(len:∀vs H Q E,sp vs H Q E->vs.length=ps.length:=by (intro _ _ _ _ h;first|(cases h;subst_vars;rfl)|repeat (first|(obtain⟨h1,_⟩:=h;subst h1;rfl)|obtain⟨_,h⟩:=h))):xY b P w K mg base x st ps (k+1) sp:=M.ok h S len
theorem i6 (h:mg x=some (.ref a))(h':mg x=some (.ref b)):a=b:=Value.ref.inj (aG (h.symm.trans h'))
theorem MM.ok (M:MM K mg cn nm q st ps)(hm:mg cn=some (.ref C))(h:Bod true P w K mg base N ps q st k sp)
  (S:FnScope N ps (aO st):=by exact⟨rfl,rfl,rfl,by decide +kernel,rfl,by decide +kernel,by decide +kernel⟩) (len:∀vs H Q E,sp vs H Q E->vs.length=ps.length:=by (intro _ _ _ _ h;first|(cases h;subst_vars;rfl)|repeat (first|(obtain⟨h1,_⟩:=h;subst h1;rfl)|obtain⟨_,h⟩:=h))):qG P w K mg base CX0 C nm ps (k+1) sp:=by
 obtain⟨_,f,fd,m0,m,n,b⟩:=M;cases i6 hm m0;exact⟨f,fd,m,b,n.ok S len fun _ _ _ _ H _ Q _=>h S H Q⟩
theorem MM.go (M:MM K mg cn nm q st ps)(hm:mg cn=some (.ref C))(h:Bod true P w K mg base (nOf (aO st)) ps q st k sp)(S:FnScope (nOf (aO st)) ps (aO st):=by exact⟨rfl,rfl,rfl,by decide +kernel,rfl,by decide +kernel,by decide +kernel⟩)(len:∀vs H Q E,sp vs H Q E->vs.length=ps.length:=by (intro _ _ _ _ h;first|(cases h;subst_vars;rfl)|repeat (first|(obtain⟨h1,_⟩:=h;subst h1;rfl)|obtain⟨_,h⟩:=h))):qG P w K mg base CX0 C nm ps (k+1) sp:=M.ok hm h S len
end
section
variable {k:Nat}{o:Expr}{t:TA}
theorem bM {b}(F:xY b X.prog X.w X.K X.mg X.base x st ps k sp)(hr:RoomG b k0 X.A)(ha:PA X (e::es) t)(hg:Gl X x:=by rfl)(hk:k<=k0:=by decide)
  (hdb:(x==("__debug__" : Str))=false:=by decide) (he:starEach (e::es) X.env=(false,eval e X.env)::starEach es X.env:=by rfl) (hpl:(backTo pos (starEach es X.env)).any (·.1)=false:=by rfl) :
  PE X (.Call (.Name x p) (e::es) [] pos) (n5 sp [] E0 t):=by
 obtain⟨f,fd,D,G⟩:=F;exact kF G (hr.mono hk) hg D.m D.fn.kp D.b .nil uv ha hdb he hpl
theorem Ak (he:PE X o ta)(c:Cls X.K C)(F:qG X.prog X.w X.K X.mg X.base CX0 C m ps k sp)(hr:jp k0 X.A)(ha:PA X (e::es) t)(hk:k<=k0:=by decide)
  (hst:starEach (e::es) X.env=(false,eval e X.env)::starEach es X.env:=by rfl) (hpl:(backTo pos (starEach es X.env)).any (·.1)=false:=by rfl)
  (ht:eval (.Call (.Attribute o m apos) (e::es) [] pos) X.env=(do
   let ov <- eval o X.env
   standAt apos.atName
   let(f,first) <- holding [ov] (getMethod ov m pl)
   callWith pos f first (backTo pos (starEach (e::es) X.env)) (backToKw pos (keywordEach [] X.env))):=by rfl) :
  PE X (.Call (.Attribute o m apos) (e::es) [] pos) (kn C m sp [] E0 ta t):=by
 obtain⟨f,fd,M,B,G⟩:=F;exact kE he c M G (hr.mono hk) B .nil uv ha hst hpl ht
theorem wg (he:PE X o ta)(c:Cls X.K C)(F:qG X.prog X.w X.K X.mg X.base CX0 C m ps k sp)(hr:jp k0 X.A)(hk:k<=k0:=by decide)
  (ht:eval (.Call (.Attribute o m apos) [] [] pos) X.env=(do
   let ov <- eval o X.env
   standAt apos.atName
   let(f,first) <- holding [ov] (getMethod ov m pl)
   callWith pos f first (backTo pos (starEach [] X.env)) (backToKw pos (keywordEach [] X.env))):=by rfl) :
  PE X (.Call (.Attribute o m apos) [] [] pos) (kn C m sp [] E0 ta qF):=by
 obtain⟨f,fd,M,B,G⟩:=F;exact qX he c M G (hr.mono hk) B .nil uv ht
theorem dX {s'}(S:FnScope X.N ps s')(i:Nat)(he:PE X e te)(hi:X.N[i]?=some x:=by rfl)(hx:Loc X.env.scope x:=by exact Or.inl rfl)(hs:swapsWith e (some (.Name x pos')) pos.line X.env=pure false:=by rfl)
  (hf:X.fn x=true\/X.env.scope.names.lookup x=some .local:=by first|exact .inl rfl|exact .inr rfl|assumption):PS X (.Assign [.Name x pos'] e pos) (qI te (c_ i)):=iz S.nd hi hx he hs hf
theorem fk {s'}(S:FnScope X.N ps s')(i:Nat)(hi:X.N[i]?=some x:=by rfl)(hx:Loc X.env.scope x:=by exact Or.inl rfl)(hf:X.fn x=true\/X.env.scope.names.lookup x=some .local:=by first|exact .inl rfl|exact .inr rfl|assumption):PG X (.Name x pos) (c_ i):=dC S.nd hi hx hf
end
section
variable {t u:TS}{n bk N N':St->Hp->Prop}
theorem sK (h:∀N,N=u ⟨n,rt,bk,ct⟩->t ⟨N,rt,bk,ct⟩ σ H):zt t u ⟨n,rt,bk,ct⟩ σ H:=h _ rfl
theorem yn {D:Ends}(h:∀T U,T=t D->U=u D->tt σ H fun b H1=>if b=true then T σ H1 else U σ H1):zC tt t u D σ H:=h _ _ rfl rfl
theorem sM (e:N=N')(h:N' σ H):N σ H:=e▸h
end
theorem sz (h:Nat.ble n 100=true:=by rfl):n<=sizeLine:=Nat.le_trans (le_of_ble_eq_true h) (by decide)
theorem dS {Q:VK}(h:∀l H',H l=none->aZ H H'->H' l=some (.lst xs)->Q (.ref l) H')(hz:Nat.ble xs.length 100=true:=by rfl):zU xs Q H:=⟨sz hz,fun l f=>h l _ f (aZ.upd f) ay⟩
theorem ef {Q:VK}(h:∀l H',H l=none->aZ H H'->H' l=some (.tup xs)->Q (.ref l) H')(hz:Nat.ble xs.length 100=true:=by rfl):zS xs Q H:=⟨sz hz,fun l f=>h l _ f (aZ.upd f) ay⟩
section
variable {e2 e3:Expr}{t1 t2 t3:TE}
theorem pa1 (a:PE X e t1)(h:cL e=false:=by rfl):PA X [e] (cN t1 qF):=va a ck h
theorem pa2 (a:PE X e t1)(b:PE X e2 t2)(h:cL e=false:=by rfl)(h2:cL e2=false:=by rfl):PA X [e,e2] (cN t1 (cN t2 qF)):=va a (pa1 b h2) h
theorem pa3 (a:PE X e t1)(b:PE X e2 t2)(c:PE X e3 t3)(h:cL e=false:=by rfl)(h2:cL e2=false:=by rfl)(h3:cL e3=false:=by rfl):PA X [e,e2,e3] (cN t1 (cN t2 (cN t3 qF))):=va a (pa2 b c h2 h3) h
theorem pa4 (a:PE X e t1)(b:PE X e2 t2)(c:PE X e3 t3)(d:PE X e4 t4)(h:cL e=false:=by rfl)(h2:cL e2=false:=by rfl)(h3:cL e3=false:=by rfl)(h4:cL e4=false:=by rfl):PA X [e,e2,e3,e4] (cN t1 (cN t2 (cN t3 (cN t4 qF)))):=va a (pa3 b c d h2 h3 h4) h
theorem pa5 {e5 t5}(a:PE X e t1)(b:PE X e2 t2)(c:PE X e3 t3)(d:PE X e4 t4)(f:PE X e5 t5)(h:cL e=false:=by rfl)(h2:cL e2=false:=by rfl)(h3:cL e3=false:=by rfl)(h4:cL e4=false:=by rfl)(h5:cL e5=false:=by rfl):PA X [e,e2,e3,e4,e5] (cN t1 (cN t2 (cN t3 (cN t4 (cN t5 qF))))):=va a (pa4 b c d f h2 h3 h4 h5) h
theorem pc (o:OpR X (compareOp op) r)(a:PE X e t1)(b:PE X e2 t2)(h:behindInMarks op e2=false:=by exact cm _):PT X (.Compare e [op] [e2] pos) (tY (tOp r t1 t2)):=iS o a b h
theorem pix (h:IxR X r)(a:PE X e t1)(b:PE X e2 t2)(hs:qE e2:=by exact fun _ _=>rfl):PE X (.Subscript e e2 pos) (tOp r t1 t2):=qY h a b hs
end
theorem lF {N}{k:Nat}(F:Fun K x qual st f fd)(S:FnScope N ps (aO st))(len:∀vs H Q E,sp vs H Q E->vs.length=ps.length)
  (hbody:∀(cdv:Value) (A:Around) (outer:List Env) (s:Shared) (H:Hp) (vs:List V) (Q:VK) (E:XK),jp k (A.deeper (envOfC qual (aO st) s.heap.objs.size f cdv))->sp vs H Q E ->
   ∃t,PSs (xU (CXo P w) P w K mg base N qual (aO st) f cdv A outer s H E) (bP st) t/\t { nx:=fun _ H'=>Q .non H',rt:=Q } (start N vs) H):nI P w K mg base (CXo P w) (k+1) f fd ps sp:=by
 obtain⟨oc,od,kV,doc,pm,an,cdv,ct,osl,rfl,lk,hcd⟩:=F.ex;exact uV lk hcd S len fun A outer s H vs Q E hr hsp=>hbody cdv A outer s H vs Q E hr hsp
section
variable {N:List Str}{k:Nat}
def OkX (P:Program)(w:World)(K:Frag)(mg:Str->Option Value)(base:Heap)(x:Str)(st:Stmt)(ps:List Str)(k:Nat)(sp:Sp):Prop:=
 ∃f fd,Dn K mg x x st ps f fd/\nI P w K mg base (CXo P w) k f fd ps sp
abbrev ya (P:Program)(w:World)(K:Frag)(mg:Str->Option Value)(base:Heap)(N ps:List Str)(q:Str)(st:Stmt)(k:Nat)(sp:Sp):Prop:=
 ∀{f:Addr} {cdv:Value} {A:Around} {outer:List Env} {s:Shared} {vs:List V},FnScope N ps (aO st)->∀(H:Hp) (Q:VK) (E:XK),jp k (A.deeper (envOfC q (aO st) s.heap.objs.size f cdv))->sp vs H Q E ->
  ∃t,PSs (xU (CXo P w) P w K mg base N q (aO st) f cdv A outer s H E) (bP st) t/\t { nx:=fun _ H'=>Q .non H',rt:=Q } (start N vs) H
theorem DD.okX (M:DD K mg x st ps)(h:ya P w K mg base N ps x st k sp)
  (S:FnScope N ps (aO st):=by exact⟨rfl,rfl,rfl,by decide +kernel,rfl,by decide +kernel,by decide +kernel⟩) (len:∀vs H Q E,sp vs H Q E->vs.length=ps.length:=by (intro _ _ _ _ h;first|(cases h;subst_vars;rfl)|repeat (first|(obtain⟨h1,_⟩:=h;subst h1;rfl)|obtain⟨_,h⟩:=h))):OkX P w K mg base x st ps (k+1) sp:=
 let⟨f,fd,D⟩:=M;⟨f,fd,D,lF D.fn S len fun _ _ _ _ H _ Q E=>h S H Q E⟩
theorem MM.okX (M:MM K mg cn nm q st ps)(hm:mg cn=some (.ref C))(h:ya P w K mg base N ps q st k sp)
  (S:FnScope N ps (aO st):=by exact⟨rfl,rfl,rfl,by decide +kernel,rfl,by decide +kernel,by decide +kernel⟩) (len:∀vs H Q E,sp vs H Q E->vs.length=ps.length:=by (intro _ _ _ _ h;first|(cases h;subst_vars;rfl)|repeat (first|(obtain⟨h1,_⟩:=h;subst h1;rfl)|obtain⟨_,h⟩:=h))):qG P w K mg base (CXo P w) C nm ps (k+1) sp:=by
 obtain⟨_,f,fd,m0,m,n,b⟩:=M;cases i6 hm m0;exact⟨f,fd,m,b,lF n S len fun _ _ _ _ H _ Q E=>h S H Q E⟩
theorem DD.gox (M:DD K mg x st ps)(h:ya P w K mg base (nOf (aO st)) ps x st k sp)(S:FnScope (nOf (aO st)) ps (aO st):=by exact⟨rfl,rfl,rfl,by decide +kernel,rfl,by decide +kernel,by decide +kernel⟩)(len:∀vs H Q E,sp vs H Q E->vs.length=ps.length:=by (intro _ _ _ _ h;first|(cases h;subst_vars;rfl)|repeat (first|(obtain⟨h1,_⟩:=h;subst h1;rfl)|obtain⟨_,h⟩:=h))):OkX P w K mg base x st ps (k+1) sp:=M.okX h S len
theorem MM.gox (M:MM K mg cn nm q st ps)(hm:mg cn=some (.ref C))(h:ya P w K mg base (nOf (aO st)) ps q st k sp)(S:FnScope (nOf (aO st)) ps (aO st):=by exact⟨rfl,rfl,rfl,by decide +kernel,rfl,by decide +kernel,by decide +kernel⟩)(len:∀vs H Q E,sp vs H Q E->vs.length=ps.length:=by (intro _ _ _ _ h;first|(cases h;subst_vars;rfl)|repeat (first|(obtain⟨h1,_⟩:=h;subst h1;rfl)|obtain⟨_,h⟩:=h))):qG P w K mg base (CXo P w) C nm ps (k+1) sp:=M.okX hm h S len
end
section
variable {E:XK}{k:Nat}{o:Expr}{t:TA}
theorem wk (F:OkX X.prog X.w X.K X.mg X.base x st ps k sp)(ou:vg X E)(hr:jp k0 X.A)(ha:PA X (e::es) t)(hg:Gl X x:=by rfl)(hk:k<=k0:=by decide)
  (hdb:(x==("__debug__" : Str))=false:=by decide) (he:starEach (e::es) X.env=(false,eval e X.env)::starEach es X.env:=by rfl) (hpl:(backTo pos (starEach es X.env)).any (·.1)=false:=by rfl) :
  PE X (.Call (.Name x p) (e::es) [] pos) (n5 sp [] (xc E) t):=by
 obtain⟨f,fd,D,G⟩:=F;exact kF G (hr.mono hk) hg D.m D.fn.kp D.b .nil ou.pass ha hdb he hpl
theorem yM (he:PE X o ta)(c:Cls X.K C)(F:qG X.prog X.w X.K X.mg X.base (CXo X.prog X.w) C m ps k sp)(ou:vg X E)(hr:jp k0 X.A)(ha:PA X (e::es) t)(hk:k<=k0:=by decide)
  (hst:starEach (e::es) X.env=(false,eval e X.env)::starEach es X.env:=by rfl) (hpl:(backTo pos (starEach es X.env)).any (·.1)=false:=by rfl)
  (ht:eval (.Call (.Attribute o m apos) (e::es) [] pos) X.env=(do
   let ov <- eval o X.env
   standAt apos.atName
   let(f,first) <- holding [ov] (getMethod ov m pl)
   callWith pos f first (backTo pos (starEach (e::es) X.env)) (backToKw pos (keywordEach [] X.env))):=by rfl) :
  PE X (.Call (.Attribute o m apos) (e::es) [] pos) (kn C m sp [] (xc E) ta t):=by
 obtain⟨f,fd,M,B,G⟩:=F;exact kE he c M G (hr.mono hk) B .nil ou.pass ha hst hpl ht
end
theorem wl {E}{k:Nat}{t}(F:OkX X.prog X.w X.K X.mg X.base x st ps k sp)(hp:ei (CXo X.prog X.w) X E)(hr:jp k0 X.A)(ha:PA X (e::es) t)(hg:Gl X x:=by rfl)(hk:k<=k0:=by decide)
  (hdb:(x==("__debug__" : Str))=false:=by decide) (he:starEach (e::es) X.env=(false,eval e X.env)::starEach es X.env:=by rfl) (hpl:(backTo pos (starEach es X.env)).any (·.1)=false:=by rfl) :
  PE X (.Call (.Name x p) (e::es) [] pos) (n5 sp [] E t):=by
 obtain⟨f,fd,D,G⟩:=F;exact kF G (hr.mono hk) hg D.m D.fn.kp D.b .nil hp ha hdb he hpl
end L2
variable {e p:Addr}{ab:Bool}{fd':FuncData}{hi i lo r:Int}{u:L2.HO}{H0 H5:L2.Hp}{Q:L2.VK}{E:L2.XK}{ps s:List (Int×Int)}{ks:List Int}{sn:List Str}{m:Nat}{dd:Option Addr}{col:Option Bool}{k0 k1 k2 k3 k5:Option Value}{d:PyData}{qn x0 x1 x2 x3 z:Str}{ct:Value}
namespace K31
open PySem L2
theorem eG (g:upd H l o=H'):H' l=some o:=g▸ay
def top (i:Nat):Stmt:=PySem.Challenge.pw_nolocktree_k71_plain_store.main.body.getD i (.Pass ⟨0,0,0,0⟩)
structure Txt (K:Frag)(mg:Str->Option Value):Prop where
 n_len:mg "len" = none
 n_max:mg "max" = none
 n_min:mg "min" = none
 n_isinstance:mg "isinstance" = none
 n_list:mg "list" = none
 n_tuple:mg "tuple" = none
 n_int:mg "int" = none
 n_bool:mg "bool" = none
 n_str:mg "str" = none
 n_enumerate:mg "enumerate" = none
 n_range:mg "range" = none
 n_repr:mg "repr" = none
 n_all:mg "all" = none
 n_sorted:mg "sorted" = none
 n_dict:mg "dict" = none
 n_zip:mg "zip" = none
 c_lo:∃t,mg "LEAST_KEY" = some (.int (-999999999) t)
 c_hi:∃t,mg "GREATEST_KEY" = some (.int 999999999 t)
 c_lv:∃t,mg "GREATEST_LEVEL" = some (.int 60 t)
 c_pair:∃t,mg "MANY_IN_PAIR" = some (.int 2 t)
 c_row:∃t,mg "MANY_IN_ROW" = some (.int 6 t)
 c_part:∃t,mg "MANY_IN_PART" = some (.int 4 t)
structure Cs where
 K:Addr
 C:Addr
 TT:Addr
 P:Addr
 cc:Addr
 PT:Addr
structure ErN (K:Frag)(mg:Str->Option Value)(nm q:Str)(st:Stmt)(fs:List Str)(C T fI:Addr)(fd:FuncData):Prop where
 f:ExF K C T fI
 g:ExG K C
 b:BaseInit K T
 r:ExR K C
 fn:Fun K "__init__" q st fI fd
 bi:eS K fd ("self" :: fs) []
 mC:mg nm=some (.ref C)
 mT:mg "TreeError" = some (.ref T)
 no:∀x∈fs,cM K C x
 xC:ExM K C
 self:mroIn K C (.ref C)=some true
 up:mroIn K C (.ref T)=some true
abbrev ErK (K:Frag)(mg:Str->Option Value)(C TT fI:Addr)(fd:FuncData):Prop:=ErN K mg "NoKey" "NoKey.__init__" (dP (top 2) 0) ["found"] C TT fI fd
abbrev ErC (K:Frag)(mg:Str->Option Value)(C TT fI:Addr)(fd:FuncData):Prop:=ErN K mg "NoCall" "NoCall.__init__" (dP (top 3) 0) ["found"] C TT fI fd
structure PlN (K:Frag)(mg:Str->Option Value)(C f:Addr)(fd:FuncData):Prop where
 mak:Mk K C f
 fn:Fun K "__init__" "Plain.__init__" (dP (top 25) 0) f fd
 bi:eS K fd ["self","pairs"] []
 m:mg "Plain" = some (.ref C)
 cl:Cls K C
 n1:cM K C "good_by_key"
structure TbN (K:Frag)(mg:Str->Option Value)(base:Heap)(cc PT:Addr):Prop where
 fn:∃(f:Addr) (oc:Value) (od:Option Addr) (kV doc pm:Value) (an:Option Addr) (ct:Value) (osl:Array (Option Value)),An4 (mg "ordered_deeds" = some (.ref f)) (K.lookup f=some ⟨oc,od,.func (fnOf "ordered_deeds" "ordered_deeds" (cf (top 39)) (bP (top 39)) (aO (top 39)) .none kV doc pm an (.ref cc) ct),osl⟩) (codeIn K (.ref cc) "ordered_deeds" = true) True
 hC:PySem.W.CodeHd base cc PT
 hb:base.BuiltinsAt mg PT
 hg:PySem.mainGlobals≠PT
def psD (s:Stmt):List Str:=(cf s).args.map (·.arg)
abbrev D (K:Frag)(mg:Str->Option Value)(x:Str)(i:Nat):=DD K mg x (top i) (psD (top i))
abbrev M' (K:Frag)(mg:Str->Option Value)(cn nm q:Str)(i j:Nat):=MM K mg cn nm q (dP (top i) j) (psD (dP (top i) j))
structure Rst (K:Frag)(mg:Str->Option Value):Prop where
 T:Txt K mg
 P_pairs:M' K mg "Plain" "pairs" "Plain.pairs" 25 1
 P_do:M' K mg "Plain" "do" "Plain.do" 25 2
 P_stretch:M' K mg "Plain" "stretch" "Plain.stretch" 25 3
 d_is_number:D K mg "is_number" 8
 d_is_whole:D K mg "is_whole" 9
 d_is_key:D K mg "is_key" 10
 d_is_good:D K mg "is_good" 11
 d_is_place:D K mg "is_place" 12
 d_is_level:D K mg "is_level" 13
 d_is_row:D K mg "is_row" 14
 d_is_rising:D K mg "is_rising" 15
 d_in_stretch:D K mg "in_stretch" 16
 d_is_pair:D K mg "is_pair" 19
 d_are_pairs:D K mg "are_pairs" 20
 d_need_pairs:D K mg "need_pairs" 21
 d_is_span:D K mg "is_span" 22
 d_is_told:D K mg "is_told" 23
 d_is_plain_call:D K mg "is_plain_call" 24
 d_is_quiet_call:D K mg "is_quiet_call" 29
 d_is_any_call:D K mg "is_any_call" 30
 d_is_climbing:D K mg "is_climbing" 32
 d_is_answered:D K mg "is_answered" 35
 d_is_history_row:D K mg "is_history_row" 36
 d_are_history_rows:D K mg "are_history_rows" 37
 d_deeds_of:D K mg "deeds_of" 38
 d_ordered_deeds:D K mg "ordered_deeds" 39
 d_agrees:D K mg "agrees" 40
 d_shows_history:D K mg "shows_history" 41
 d__law_cell:D K mg "_law_cell" 43
 d__law_box:D K mg "_law_box" 44
 d__law_take:D K mg "_law_take" 45
 d__law_good:D K mg "_law_good" 46
 d__law_pairs:D K mg "_law_pairs" 47
 d__law_key:D K mg "_law_key" 48
 d__law_call:D K mg "_law_call" 49
 d__law_done:D K mg "_law_done" 50
 d__law_odd:D K mg "_law_odd" 51
 d__law_spoilt:D K mg "_law_spoilt" 52
 d__law_is_number:D K mg "_law_is_number" 53
 d__law_is_call:D K mg "_law_is_call" 54
 d__law_told:D K mg "_law_told" 55
 d__law_stands:D K mg "_law_stands" 56
 d__law_made:D K mg "_law_made" 57
 d__law_pairs_refused:D K mg "_law_pairs_refused" 58
 d__law_house:D K mg "_law_house" 59
 d__law_step_right:D K mg "_law_step_right" 60
 d_law:D K mg "law" 61
structure Fx (P:Program)(w:World)(K:Frag)(mg:Str->Option Value)(base:Heap)(c:Cs):Prop where
 r:Rst K mg
 eK:∃f fd,ErK K mg c.K c.TT f fd
 eC:∃f fd,ErC K mg c.C c.TT f fd
 xT:ExM K c.TT
 PX:∃f fd,PlN K mg c.P f fd
 tb:TbN K mg base c.cc c.PT
 KC:mroIn K c.K (.ref c.C)=some false
 CK:mroIn K c.C (.ref c.K)=some false
section
variable {c:Cs}
abbrev Ok (_:Fx P w K mg base c){x:Str}{st:Stmt}{ps:List Str}(_:DD K mg x st ps):=OkD P w K mg base x st ps
abbrev Ox (_:Fx P w K mg base c){x:Str}{st:Stmt}{ps:List Str}(_:DD K mg x st ps):=OkX P w K mg base x st ps
abbrev Mt (_:Fx P w K mg base c)(C:Addr){n m q:Str}{st:Stmt}{ps:List Str}(_:MM K mg n m q st ps):=qG P w K mg base CX0 C m ps
abbrev Mx (_:Fx P w K mg base c)(C:Addr){n m q:Str}{st:Stmt}{ps:List Str}(_:MM K mg n m q st ps):=qG P w K mg base (CXo P w) C m ps
end
theorem Fx.cP {c:Cs}(F:Fx P w K mg base c):Cls K c.P:=let⟨_,_,x⟩:=F.PX;x.cl
def Box (H:Hp)(p:Addr)(n:Nat):Prop:=∃a b c:Int,H p=some (.lst [.int a,.int b,.int c])/\0<=a/\0<=b/\b<2147483647/\0<=c/\c<=n
theorem Box.lst (x:Box H p n):∃xs,H p=some (.lst xs):=let⟨_,_,_,h,_⟩:=x;⟨_,h⟩
theorem Box.mono (x:Box H p n)(h:n<=m):Box H p m:=let⟨a,b,c,h1,h2,h3,h4,h5,h6⟩:=x;⟨a,b,c,h1,h2,h3,h4,h5,by lia⟩
theorem Box.same (x:Box H p n)(s:aZ H H'):Box H' p n:=let⟨a,b,c,h1,r⟩:=x;⟨a,b,c,s _ _ h1,r⟩
theorem Box.to (x:Box H p n)(s:∀o,H p=some o->H' p=some o):Box H' p n:=let⟨a,b,c,h1,r⟩:=x;⟨a,b,c,s _ h1,r⟩
theorem Box.ne {q}(x:Box H p n)(h:H q=none):q≠p:=by
 obtain⟨xs,e⟩:=x.lst;exact(ao e h).symm
inductive spTake (vs:List V)(H:Hp)(Q:VK)(E:XK):Prop
 | mk (p:Addr)(m:Int)(n:Nat):vs=[.ref p,.int m]->Box H p n->n<=1000000->0<m->m<=1000000000->(∀(r:Int) (H':Hp),0<=r->r<m->Box H' p (n+1)->KB p H H'->Q (.int r) H')->spTake vs H Q E
theorem fH (h0:0<=r)(h1:r<xs.length):∃v,v∈xs/\atI xs r=some v:=by
 have hj:r.toNat<xs.length:=by lia
 refine⟨xs[r.toNat],getElem_mem hj,?_⟩;have e:xs[r.toNat]?=some xs[r.toNat]:=by simp[hj]
 have:=da e
 rwa[show ((r.toNat:Nat):Int)=r by lia] at this
theorem dN (h0:0<=r)(h1:r<ns.length):∃z,z∈ns/\atI (ns.map V.int) r=some (.int z):=by
 obtain⟨v,hv,e⟩:=fH (xs:=ns.map V.int) h0 (by simpa using h1);obtain⟨z,hz,rfl⟩:=jv.mp hv;exact⟨z,hz,e⟩
local macro_rules | `(tactic| walk_at "c") => `(tactic| first | assumption | exact (by decide) | exact Or.inl ⟨by decide, by decide⟩ | exact Or.inr ⟨by decide, by decide⟩ | exact ⟨by decide, by decide +kernel⟩)
local macro_rules | `(tactic| walk_at "s") => `(tactic| exact ⟨rfl, rfl, rfl, by decide +kernel, rfl, by decide +kernel, by decide +kernel⟩)
local macro_rules | `(tactic| walk_at "h") => `(tactic| first | assumption | exact ay | exact sg (by assumption) (by assumption) | (refine xM ?_ ?_ <;> first | assumption | exact ay) | (refine (aE (by assumption)).trans ?_; walk_at "h"))
local macro_rules | `(tactic| walk_at "r1") => `(tactic| first
 | with_reducible (first | refine sK fun _ _ => ?_ | refine yj ?_ | refine yk ?_ | refine s_retN ?_ | refine vH ?_ | refine yn fun _ _ _ _ => ?_ | refine vG ?_ | refine yq ?_ | refine yp ?_ | refine vI ?_ | refine ym ?_ | refine yW ?_ | refine xi ?_ | refine xk ?_ | refine za ?_ | refine y_ ?_ | refine g_fld ?_ | refine qb ?_ | refine vM ?_ | refine z8 ?_ | refine vX ?_ | refine yu ?_ | refine vR ?_ | refine yE ?_ | refine Ab ?_ | refine yw ?_ | refine yB ?_ | refine r_c ?_ | refine Ac ?_ | refine z6 ?_ | refine zK ?_ | refine q_u ?_ | refine ug ?_ | refine uP ?_ | refine yC ?_ | refine vU ?_ | refine yz ?_ | refine yt ?_ | refine vV ?_ | refine yy ?_ | refine vW ?_ | refine vS ?_ | refine r_methP ?_ | refine vT ?_ | refine Ae ?_ | refine Af ?_ | refine yo ?_ | refine Ad ?_ | refine vO ?_ | refine vN ?_ | refine uf ?_ | refine vP ?_ | refine yD ?_ | refine z5 ?_ | refine z_ ?_ | refine yx ?_ | refine vQ ?_ | refine Ao ?_ | refine Aa ?_ | refine q_ip ?_ | refine dk ?_ | refine cG ?_ | refine nh ?_ | refine ng ?_)
 | ((with_reducible refine' yr ?e ?q); (case e => rfl))
 | ((with_reducible refine' Aj ?e ?q); (case e => rfl)) | ((with_reducible refine' Ai ?e ?q); (case e => rfl))
 | ((with_reducible refine' yY ?h ?c ?n ?l ?q); (case h => walk_at "h"); (case c => assumption); (case n => first | assumption | exact (by assumption : NoD _ _) _ rfl); (case l => rfl))
 | ((with_reducible refine' tw ?h ?c ?n ?l ?q); (case h => walk_at "h"); (case c => assumption); (case n => first | assumption | exact (by assumption : NoD _ _) _ rfl); (case l => exact Nat.le_of_ble_eq_true rfl))
 | ((with_reducible refine' wT ?h ?l ?q); (case h => walk_at "h"); (case l => first | rfl | walk_at "tf"))
 | ((with_reducible refine' df ?h ?e ?q); (case h => walk_at "h"); (case e => rfl))
 | ((with_reducible refine' oB ?h ?e ?q); (case h => walk_at "h"); (case e => rfl))
 | ((with_reducible refine' v0 ?h ?e ?q); (case h => walk_at "h"); (case e => rfl))
 | ((with_reducible refine' q_i ?c ?q); (case c => walk_at "c"))
 | ((with_reducible refine' rT ?h ?l ?q); (case h => walk_at "h"); (case l => rfl))
 | ((with_reducible refine' yZ ?h ?q); (case h => walk_at "h")) | ((with_reducible refine' yX ?h ?q); (case h => walk_at "h"))
 | (with_reducible refine sM (by assumption) ?_))
local macro_rules | `(tactic| walk_at "r") => `(tactic| ((try dsimp only [cxK]); repeat walk_at "r1"))
local macro_rules | `(tactic| walk) => `(tactic| walk_at "r")
local macro_rules | `(tactic| walk_at "o") => `(tactic| (with_reducible refine sM (by assumption) ?_))
section
variable {c:Cs}(F:Fx P w K mg base c)
theorem pG {m:Int}(h:0<m)(h2:m<=1000000000):m.natAbs.log2<9000:=by
 have e:m.natAbs<2 ^ 30:=by lia
 have:=(Nat.log2_lt (by lia)).mpr e
 lia
theorem sm1 {x:Int}:(x % 2147483629).natAbs<2 ^ 64:=by lia
theorem wI {b c:Int}(h0:0<=b)(h1:b<2147483647)(h2:0<=c)(h3:c<=1000000):(b+104729 * (c+1)).natAbs<2 ^ 64:=by lia
theorem bG:Ok F F.r.d__law_take 1 spTake:=by
 refine F.r.d__law_take.go fun sc H Q hr h=>?_;obtain⟨p,m,n,rfl,⟨a,b,c,hb,ha,hb0,hb1,hc0,hc1⟩,hn,hm,hm2,k⟩:=h
 refine⟨_,(am (bF (pc rn (pix bz (pv 0) ai) ai)
   (am (dX sc 2 (br jK (pix bz (pv 0) ai) (pv 1)))
  (am (gp (br mf (pix bz (pv 0) ai) (pv 1)) (sS (pv 0) ai lP))
  (aw (aL (pv 2)))))
   aW)
  (am (gp (br dh (pix bz (pv 0) ai) ai) (sS (pv 0) ai lP))
  (am (dX sc 3 (br jK (br dh (br dj (br dh (pix bz (pv 0) ai) (br me ai (pix bz (pv 0) ai))) ai) (br me ai (pix bz (pv 0) ai))) ai))
  (aw (aL (br jK (br mf (br jK (br dj (pv 3) ai) ai) ai) (pv 1))))))),?_⟩
 walk;refine iq (fun h0=>?_) (fun h0=>?_)
 ·walk;refine q_i ⟨hm,pG hm hm2⟩ ?_;walk;exact k _ _ (Int.emod_nonneg _ (by lia)) (Int.emod_lt_of_pos _ hm) ⟨a / m,b,c,ay,Int.ediv_nonneg ha (by lia),hb0,hb1,hc0,by lia⟩ (KB.refl.updP)
 ·walk;refine q_i ⟨by decide,by decide,wI hb0 hb1 hc0 (by lia)⟩ ?_;walk;refine q_i ⟨by decide,by decide,sm1⟩ ?_;walk;exact k _ _ (Int.emod_nonneg _ (by lia)) (Int.emod_lt_of_pos _ hm) ⟨a,b,c+1,ay,ha,hb0,hb1,by lia,by lia⟩ (KB.refl.updP)
inductive spCell (K:Frag)(vs:List V)(H:Hp)(Q:VK)(E:XK):Prop
 | mk (a:Addr)(k:Nat)(ns:List Int):vs=[.ref a,.int k]->SqL K H a (ns.map V.int)->(∀i:Int,Q (.int i) H)->spCell K vs H Q E
theorem ph:Ok F F.r.d__law_cell 1 (spCell K):=by
 refine F.r.d__law_cell.go fun sc H Q hr h=>?_;obtain⟨a,j,ns,rfl,hS,k⟩:=h
 refine⟨_,(am (bF (pc gA (pv 1) (aN bE rfl F.r.T.n_len d7 (pa1 (pv 0))))
   (aw (aL (pix bz (pv 0) (pv 1))))
   aW)
  (aw (aL (br dh (br me ai (pv 1)) ai)))),?_⟩
 refine⟨_,rfl,_,rfl,_,_,rfl,.inl hS,_,_,rfl,rfl,_,rfl,?_⟩;refine iq (fun h0=>?_) (fun h0=>?_)
 ·have h1:=aU h0;obtain⟨z,_,e⟩:=dN (ns:=ns) (r:=(j:Int)) (by lia) (by simpa using h1);exact⟨_,rfl,_,rfl,_,_,_,_,rfl,rfl,hS,e,k z⟩
 ·exact⟨_,rfl,_,_,rfl,rfl,.inl ⟨by decide,by decide⟩,_,_,rfl,rfl,k _⟩
inductive spBox (vs:List V)(H:Hp)(Q:VK)(E:XK):Prop
 | mk (c:Int):vs=[.int c]->(∀(p:Addr) (H':Hp),H p=none->Box H' p 0->aZ H H'->Q (.ref p) H')->spBox vs H Q E
theorem sZ:Ok F F.r.d__law_box 1 spBox:=by
 refine F.r.d__law_box.go fun sc H Q hr h=>?_;obtain⟨c,rfl,k⟩:=h;refine⟨_,(aw (aL (bD (pa3 (aN (gb rfl) rfl F.r.T.n_max mJ (pa2 ai (br cY (pv 0) (br dj ai ai)))) (br jK (pv 0) ai) ai)))),?_⟩;walk;refine⟨_,_,rfl,?_⟩;walk;refine⟨sz,fun p hp=>?_⟩
 refine k p _ hp ⟨_,_,_,ay,?_,by lia,by lia,Int.le_refl _,Int.le_refl _⟩ (aZ.upd hp);generalize c - 10 ^ (18:Int).toNat=z;by_cases hz:z > 0
 ·rw[ak hz];lia
 ·rw[ah hz];lia
end
variable {c:K31.Cs}
def inR (lo hi:Int)(i:Int):Bool:=decide (lo<=i)&&decide (i<=hi)
theorem uR (h1:lo<=i)(h2:i<=hi):inR lo hi i=true:=by unfold inR;rw[aq h1,aq h2];rfl
theorem pZ (h:inR lo hi i=true):lo<=i/\i<=hi:=by
 unfold inR at h;rw[and_eq_true] at h;exact⟨aU h.1,aU h.2⟩
def gB (i:Int):Prop:=-999999999<=i/\i<=999999999
def isI:V->Bool|.int _=>true|_=>false
def isB:V->Bool|.bl _=>true|_=>false
def iL (v:V)(lo hi:Int):Bool:=match v with|.int i=>inR lo hi i|_=>false
def vc (v:V):Bool:=iL v (-999999999) 999999999
def Al (v:V):Bool:=iL v 0 60
def wa:V->Bool|.int i=>decide (0<=i)|_=>false
section
variable {t:Value}
theorem mx (x:Thg K H v t):kitOne K t (.type "int")=some (isI v||isB v):=by
 cases x with
 | _=>kernel_rfl
theorem pX (x:Thg K H v t):kitOne K t (.type "bool")=some (isB v):=by
 cases x with
 | _=>kernel_rfl
end
inductive spQ (K:Frag)(p:V->Bool)(vs:List V)(H:Hp)(Q:VK)(E:XK):Prop
 | mk (v:V)(t:Value):vs=[v]->Thg K H v t->Q (.bl (p v)) H->spQ K p vs H Q E
inductive spQW (K:Frag)(vs:List V)(H:Hp)(Q:VK)(E:XK):Prop
 | mk (v:V)(t:Value)(lo hi:Int):vs=[v,.int lo,.int hi]->Thg K H v t->Q (.bl (iL v lo hi)) H->spQW K vs H Q E
variable (F:Fx P w K mg base c)
theorem uB:Ok F F.r.d_is_number 1 (spQ K isI):=by
 refine F.r.d_is_number.go fun sc H Q hr h=>?_;obtain⟨v,t,rfl,x,k⟩:=h;refine⟨_,(aw (aL (dg (aN bZ rfl F.r.T.n_isinstance bA (pa2 (pv 0) (cF (v:=.ty "int") rfl F.r.T.n_int mK rfl))) (cI (wf (aN bZ rfl F.r.T.n_isinstance bA (pa2 (pv 0) (cF (v:=.ty "bool") rfl F.r.T.n_bool u8 rfl)))))))),?_⟩;walk
 refine⟨_,_,_,_,rfl,x,.inl ⟨"int",rfl,mx x⟩,?_⟩;have i2:=pX x;cases v with
 | int i=>
  walk;refine dk ?_;walk;refine⟨_,_,_,_,rfl,x,.inl ⟨"bool",rfl,i2⟩,?_⟩;walk;exact k
 | bl b=>
  walk;refine dk ?_;walk;refine⟨_,_,_,_,rfl,x,.inl ⟨"bool",rfl,i2⟩,?_⟩;walk;exact k
 | _=>
  walk;exact cG k
theorem rp:Ok F F.r.d_is_whole 2 (spQW K):=by
 refine F.r.d_is_whole.go fun sc H Q hr h=>?_;obtain⟨v,t,lo,hi,rfl,x,k⟩:=h;refine⟨_,(aw (aL (dg (bM (uB F) hr (pa1 (pv 0))) (cI (l_ rm rm (pv 1) (pv 0) (pv 2)))))),?_⟩;walk;refine⟨v,t,rfl,x,?_⟩;cases v with
 | int i=>
  walk;have k':Q (.bl (decide (lo<=i)&&decide (i<=hi))) H:=k;refine dk ?_;walk;refine iq (fun c=>?_) (fun c=>?_)
  ·walk;rw[c,Bool.true_and] at k';exact k'
  ·rw[Bool.eq_false_iff.mpr c,Bool.false_and] at k';exact k'
 | _=>
  walk;exact cG k
theorem kM:Ok F F.r.d_is_key 3 (spQ K vc):=by
 obtain⟨t_LEAST_KEY,c_LEAST_KEY⟩:=F.r.T.c_lo;obtain⟨t_GREATEST_KEY,c_GREATEST_KEY⟩:=F.r.T.c_hi;refine F.r.d_is_key.go fun sc H Q hr h=>?_;obtain⟨v,t,rfl,x,k⟩:=h;refine⟨_,(aw (aL (bM (rp F) hr (pa3 (pv 0) (fq (v:=.int (-999999999)) rfl c_LEAST_KEY ⟨t_LEAST_KEY,rfl⟩) (fq (v:=.int (999999999)) rfl c_GREATEST_KEY ⟨t_GREATEST_KEY,rfl⟩))))),?_⟩;exact⟨_,rfl,v,t,_,_,rfl,x,k⟩
theorem uC:Ok F F.r.d_is_good 3 (spQ K vc):=by
 obtain⟨t_LEAST_KEY,c_LEAST_KEY⟩:=F.r.T.c_lo;obtain⟨t_GREATEST_KEY,c_GREATEST_KEY⟩:=F.r.T.c_hi;refine F.r.d_is_good.go fun sc H Q hr h=>?_;obtain⟨v,t,rfl,x,k⟩:=h;refine⟨_,(aw (aL (bM (rp F) hr (pa3 (pv 0) (fq (v:=.int (-999999999)) rfl c_LEAST_KEY ⟨t_LEAST_KEY,rfl⟩) (fq (v:=.int (999999999)) rfl c_GREATEST_KEY ⟨t_GREATEST_KEY,rfl⟩))))),?_⟩;exact⟨_,rfl,v,t,_,_,rfl,x,k⟩
theorem yO:Ok F F.r.d_is_level 3 (spQ K Al):=by
 obtain⟨t_GREATEST_LEVEL,c_GREATEST_LEVEL⟩:=F.r.T.c_lv;refine F.r.d_is_level.go fun sc H Q hr h=>?_;obtain⟨v,t,rfl,x,k⟩:=h;refine⟨_,(aw (aL (bM (rp F) hr (pa3 (pv 0) ai (fq (v:=.int (60)) rfl c_GREATEST_LEVEL ⟨t_GREATEST_LEVEL,rfl⟩))))),?_⟩;exact⟨_,rfl,v,t,_,_,rfl,x,k⟩
theorem wz:Ok F F.r.d_is_place 2 (spQ K wa):=by
 refine F.r.d_is_place.go fun sc H Q hr h=>?_;obtain⟨v,t,rfl,x,k⟩:=h;refine⟨_,(aw (aL (dg (bM (uB F) hr (pa1 (pv 0))) (cI (bO wr (pv 0) ai (cm _)))))),?_⟩;walk;refine⟨v,t,rfl,x,?_⟩;cases v with
 | int i=>
  walk;refine dk ?_;walk;exact k
 | _=>
  walk;exact cG k
def rL (t:Value):Bool:=t==.type "list" || t==.type "tuple"
theorem rN {t}(x:Thg K H v t):kitAny K t [.type "list",.type "tuple"]=some (rL t):=by
 cases x with
 | _=>kernel_rfl
theorem zY:∀c∈([V.ty "list",V.ty "tuple"]:List V),(∃n,c=.ty n)\/∃a,c=.ref a:=by
 intro c hc;simp at hc;rcases hc with rfl|rfl<;>exact .inl ⟨_,rfl⟩
inductive spRow (K:Frag)(vs:List V)(H:Hp)(Q:VK)(E:XK):Prop
 | mk (v:V)(t:Value):vs=[v]->Thg K H v t->(∀H',aZ H H'->Q (.bl (rL t)) H')->spRow K vs H Q E
theorem oX:Ok F F.r.d_is_row 1 (spRow K):=by
 refine F.r.d_is_row.go fun sc H Q hr h=>?_;obtain⟨v,t,rfl,x,k⟩:=h;refine⟨_,(aw (aL (aN bZ rfl F.r.T.n_isinstance bA (pa2 (pv 0) (bR (pa2 (cF (v:=.ty "list") rfl F.r.T.n_list eR rfl) (cF (v:=.ty "tuple") rfl F.r.T.n_tuple e_ rfl))))))),?_⟩
 exact⟨_,rfl,sz,fun p hp=>⟨v,_,_,_,rfl,x.keep (aZ.upd hp),.inr (.inr ⟨p,_,rfl,ay,zY,rN x⟩),k _ (aZ.upd hp)⟩⟩
inductive spErr (C:Addr)(fs:List Str)(vs:List V)(H:Hp)(Q:VK)(E:XK):Prop
 | mk (e:Addr)(us:List V):vs=.ref e::us->us.length=fs.length->H e=some (ExO C e none none none)->(∀(dx t:Addr) (H':Hp),H dx=none->H t=none->dx≠e->t≠e->dx≠t->H' e=some (ExO C e (some dx) (some t) none)->H' dx=some (XdO dx (fs.zip us))->(∀b,b≠e->b≠dx->b≠t->H' b=H b)->Q .non H')->spErr C fs vs H Q E
section
variable {TT:Addr}
theorem wF (hs:∃i∈[2,3],st=dP (top i) 0)(x:ErN K mg nm q st ["found"] C TT fI fd):nI P w K mg base CX0 1 fI fd ["self","found"] (spErr C ["found"]):=by
 obtain⟨i,hi,rfl⟩:=hs;simp only[aV,aP,or_false] at hi
 rcases hi with rfl|rfl<;>(
  refine x.fn.ok (N:=["self","found"]) ⟨rfl,rfl,rfl,by decide +kernel,rfl,by decide +kernel,by decide +kernel⟩ (fun vs H Q E h=>?_) (fun cdv A outer s H vs Q E hr h=>?_)
  ·obtain⟨_,_,rfl,l,_⟩:=h;exact bL (· + 1) l
  ·obtain⟨e,us,rfl,l,he,k⟩:=h;obtain⟨v,rfl⟩:=List.length_eq_one_iff.mp l;refine⟨_,(am (cE (kH x.f x.b rfl x.mT (kJ (pv 0) (kJ bv ck)))) (aw (v9 x.f (pv 0) (pv 1) rfl))),?_⟩;refine⟨_,rfl,e,none,none,none,_,rfl,sz,he,fun t f1 f2=>?_⟩;refine⟨_,rfl,_,rfl,e,_,none,rfl,ay,x.no _ (.head _),fun dx h1 h2=>?_⟩;rw[aE h2] at h1
   have h3:dx≠t:=(ao ay h1).symm;rw[aE h3] at h1;refine k dx t _ h1 f1 h2 f2 h3 ay (by rw[aE h2,ay];rfl) fun b hb1 hb2 hb3=>?_
   rw[aE hb1,aE hb2,aE hb1,aE hb3])
def Err (C:Addr)(fs:List Str)(us:List V)(H:Hp)(e:Addr):Prop:=∃(dx:Addr) (ar:Option Addr) (b:Addr),Fly C e (some dx) ar (some b) H/\H dx=some (XdO dx (fs.zip us))/\dx≠e/\dx≠b
theorem jD {fs:List Str}(x:ErN K mg nm q st fs C TT fI fd){us:List V}{ta:L2.TA}{D:Ends}(l:us.length=fs.length)(lz:us.length<=10)(hv:∀R:List V->Hp->Prop,R us H->ta σ H R)
  (q:∀e H',H e=none->aZ H H'->Err C fs us H' e->E (.ref e) none H'):nW K E (tEx C (spErr C fs) ta) D σ H:=by
 delta nW tEx
 dsimp only;refine hv _ ?_;refine⟨(by rw[show sizeLine=16777216 by decide];omega),fun e he=>⟨e,us,rfl,l,ay,fun dx t H' h1 h2 h3 h4 h5 a1 a2 a3=>⟨rfl,C,e,some dx,some t,rfl,x.r,⟨a1,fun b z=>nomatch z⟩,fun b fb nb=>?_⟩⟩⟩;rw[aE h3] at h1;rw[aE h4] at h2;have hdb:dx≠b:=ao a2 fb;refine q e _ he (fun c o z=>?_) ⟨dx,some t,b,jh nb,?_,h3,hdb⟩
 ·have n1:c≠e:=ao z he;have n2:c≠dx:=ao z h1;have n3:c≠t:=ao z h2;have hc:H' c=some o:=by rw[a3 c n1 n2 n3,aE n1];exact z
  have n4:c≠b:=ao hc fb;show upd (upd H' b _) e _ c=_;rw[aE n1,aE n4];exact hc
 ·show upd (upd H' b _) e _ dx=_;rw[aE h3,aE hdb];exact a2
end
theorem xn {fs us}(he:H0 e=none)(S:aZ H0 H)(r:Err C fs us H e)(q:∀H',aZ H0 H'->Err C fs us H' e->E (.ref e) none H'):xc E (.ref e) none H:=by
 obtain⟨dx,ar,b,fl,hdx,n1,n2⟩:=r;refine⟨C,e,some dx,ar,some b,rfl,fl,fun b2 f2 nb=>q _ (fun c o z=>?_) ⟨dx,ar,b2,jh nb,?_,n1,ao hdx f2⟩⟩
 ·have c1:c≠e:=ao z he;have c2:c≠b2:=ao (S _ _ z) f2;show upd (upd H b2 _) e _ c=_;rw[aE c1,aE c2];exact S _ _ z
 ·show upd (upd H b2 _) e _ dx=_;rw[aE n1,aE (ao hdx f2)];exact hdx
theorem jZ {th:TH}{fs:List Str}{us}{D:Ends}(he:H e=none)(S:aZ H H')(r:Err C fs us H' e)
  (q:∀σ:St,σ.length=n->∀dx ar b H2,aZ H H2->H2 e=some (ExO C e (some dx) ar (some b))->H2 dx=some (XdO dx (fs.zip us))->th C e (some dx) ar b D σ H2):mI n th D (.ref e) none H':=by
 obtain⟨dx,ar,b,fl,hdx,n1,n2⟩:=r;refine⟨C,e,some dx,ar,some b,rfl,fl,fun σ hσ b2 f2 nb2=>q σ hσ dx ar b2 _ (fun c o z=>?_) ay ?_⟩
 ·have c1:c≠e:=ao z he;have c2:c≠b2:=ao (S _ _ z) f2;show upd (upd H' b2 _) e _ c=_;rw[aE c1,aE c2];exact S _ _ z
 ·show upd (upd H' b2 _) e _ dx=_;rw[aE n1,aE (ao hdx f2)];exact hdx
def Out (E:XK)(C:Addr)(fs:List Str)(us:List V)(H:Hp):Prop:=∀e H',H e=none->aZ H H'->Err C fs us H' e->E (.ref e) none H'
theorem Out.on {fs us}(o:Out E C fs us H)(s:aZ H H1):Out (xc E) C fs us H1:=fun e H' he S r=>xn (s.free he) (s.trans S) r fun H2 S2 r2=>o e H2 (s.free he) S2 r2
def dc:PyData->Bool|.int i=>inR (-999999999) 999999999 i|_=>false
def fU:PyData->Bool|.tuple [a,b]=>dc a&&dc b|_=>false
def wR:PyData->Int|.tuple (.int k::_)=>k|_=>0
def fQ:PyData->List PyData|.list ds=>ds|.tuple ds=>ds|_=>[]
def iF:PyData->Bool|.list _=>true|.tuple _=>true|_=>false
def cB (d:PyData):Bool:=iF d&&((fQ d).all fU&&decide (((fQ d).map wR).Pairwise (· < ·)))
theorem DV.key (x:DV N H v d):vc v=dc d:=by cases x<;>rfl
theorem jT (d:PyData):rL (tyD d)=iF d:=by cases d<;>rfl
def wV:PyData->Bool|.tuple _=>true|_=>false
theorem jg (d:PyData):kitOne K (tyD d) (.type "tuple")=some (wV d):=by cases d<;>kernel_rfl
def pU:PyData->Bool|.list _=>true|_=>false
theorem eX (d:PyData):kitOne K (tyD d) (.type "list")=some (pU d):=by cases d<;>kernel_rfl
inductive spDq (p:PyData->Bool)(vs:List V)(H:Hp)(Q:VK)(E:XK):Prop
 | mk (N:Addr->Prop)(v:V)(d:PyData):vs=[v]->DV N H v d->Q (.bl (p d)) H->spDq p vs H Q E
theorem oZ:Ok F F.r.d_is_pair 4 (spDq fU):=by
 obtain⟨t_MANY_IN_PAIR,c_MANY_IN_PAIR⟩:=F.r.T.c_pair;refine F.r.d_is_pair.go fun sc H Q hr h=>?_;obtain⟨N,v,d,rfl,x,k⟩:=h
 refine⟨_,(aw (aL (dg (aN bZ rfl F.r.T.n_isinstance bA (pa2 (pv 0) (cF (v:=.ty "tuple") rfl F.r.T.n_tuple e_ rfl))) (dg (bO cw (aN bE rfl F.r.T.n_len d7 (pa1 (pv 0))) (fq (v:=.int (2)) rfl c_MANY_IN_PAIR ⟨t_MANY_IN_PAIR,rfl⟩) (cm _)) (dg (bM (kM F) hr (pa1 (pix bT (pv 0) ai))) (cI (bM (uC F) hr (pa1 (pix bT (pv 0) ai))))))))),?_⟩
 walk;refine⟨v,_,_,_,rfl,x.thg,.inl ⟨"tuple",rfl,jg d⟩,?_⟩;cases x with
 | tup na e r=>
  walk;refine dk ?_;walk;refine⟨_,_,rfl,.inr (SqT.of e),?_⟩;walk;cases r with
  | nil=>exact eB (by simp) k
  | @cons v1 d1 _ _ r1 t=>
   cases t with
   | nil=>exact eB (by simp) k
   | @cons v2 d2 _ _ r2 t=>
    cases t with
    | nil=>
     refine jt rfl ?_;walk;refine⟨_,_,rfl,r1.thg,?_⟩;have k':Q (.bl (dc d1&&dc d2)) H:=k;rw[<- DV.key r1,<- DV.key r2] at k';walk;cases z:vc v1 with
     | false=>
      rw[z] at k';exact cG k'
     | true=>
      rw[z] at k';refine dk ?_;walk;exact⟨_,_,rfl,r2.thg,k'⟩
    | cons r3 t=>exact eB (by simp;lia) k
 | _=>
  walk;exact cG k
theorem oE {i:Nat}{x:Int}(h:(ks.take i).Pairwise (· < ·))(e:ks[i]?=some x)(c:i=0\/∃y,ks[i - 1]?=some y/\y<x):(ks.take (i+1)).Pairwise (· < ·):=by
 have hi:i<ks.length:=(aA.mp e).1;rw[take_add_one,e];refine pairwise_append.mpr ⟨h,List.pairwise_singleton _ _,fun z hz u hu=>?_⟩;cases a_.mp hu;rcases c with rfl|⟨y,ey,lt⟩
 ·cases hz
 ·obtain⟨j,hj⟩:=getElem?_of_mem hz;have hjl:=(aA.mp hj).1;rw[aF] at hjl;rw[getElem?_take_of_lt (by lia)] at hj;by_cases q:j=i - 1
  ·subst q;rw[hj] at ey;cases ey;exact lt
  ·have hy:=aA.mp ey;have hz':=aA.mp hj;have:=pairwise_iff_getElem.mp h j (i - 1) (by rw[aF];lia) (by rw[aF];lia) (by lia);rw[getElem_take,getElem_take,hz'.2,hy.2] at this
   lia
theorem yK {i:Nat}{x y:Int}(e:ks[i]?=some x)(i0:0<i)(ey:ks[i - 1]?=some y)(c:x<=y):¬ks.Pairwise (· < ·):=fun h=>by
 have a:=aA.mp e;have b:=aA.mp ey;have:=pairwise_iff_getElem.mp h (i - 1) i b.1 a.1 (by lia);rw[a.2,b.2] at this
 lia
inductive spRise (vs:List V)(H:Hp)(Q:VK)(E:XK):Prop
 | mk (a:Addr)(ks:List Int):vs=[.ref a]->H a=some (.lst (ks.map V.int))->(∀k∈ks,gB k)->(∀H',aZ H H'->Q (.bl (decide (ks.Pairwise (· < ·)))) H')->spRise vs H Q E
theorem oY:Ok F F.r.d_is_rising 4 spRise:=by
 refine F.r.d_is_rising.go fun sc H Q hr h=>?_;obtain⟨a,ks,rfl,hR,ok,k⟩:=h
 refine⟨_,(am (bF (ci (bH (bM (oX F) hr (pa1 (pv 0)))))
   (aw (aL cO))
   aW)
  (am (gn PassesOwn.never rfl (qV rfl F.r.T.n_enumerate j5 (pa1 (pv 0))) (fh rfl (bq (fk sc 1) (bq (fk sc 2) dB)))
   (am (bF (ci (bH (bM (kM F) hr (pa1 (pv 2)))))
   (aw (aL cO))
   aW)
  (aw (bF (PW.pt (iy (pc rn (pv 1) ai) (gh (pc rm (pv 2) (pix bz (pv 0) (br cY (pv 1) ai))))))
   (aw (aL cO))
   aW))))
  (aw (aL cO)))),?_⟩
 walk;refine⟨_,_,rfl,.lst hR,fun H1 S1=>?_⟩;walk;rw[show rL (.type "list")=true from rfl];walk;refine⟨_,rfl,a,rfl,⟨_,SqL.of (S1 _ _ hR)⟩,qf (fun i σ H2=>aZ H H2/\(ks.take i).Pairwise (· < ·)/\(Ex2 fun o1 o2=>σ=[some (.ref a),o1,o2])) ⟨S1,.nil,⟨none,none,rfl⟩⟩ (fun i σ H2 _ ⟨S2,_⟩=>SqL.of (S2 _ _ hR)) ?_ ?_⟩
 ·rintro i y t0 σ H2 hi ⟨S2,pw,⟨o1,o2,rfl⟩⟩ ht0;have S3:aZ H (upd H2 t0 (.tup [.int i,y])):=S2.trans (aZ.upd ht0);rw[aQ] at hi;obtain⟨z,hz,rfl⟩:=dF.mp hi;have hil:=(aA.mp hz).1;have e0:upd H2 t0 (.tup [.int i,.int z]) t0=some (.tup [.int i,.int z]):=ay;generalize upd H2 t0 _=H3 at *;refine⟨_,_,rfl,SqT.of e0,rfl,_,_,rfl,_,_,rfl,rfl,?_⟩;walk
  refine⟨.int z,_,rfl,.int z,?_⟩;rw[show vc (.int z)=true from uR (ok z (bV hz)).1 (ok z (bV hz)).2];walk;refine iq (fun hp=>?_) (fun hp=>?_)
  ·have hp':=aU hp;have hj:i - 1<ks.length:=by lia
   have ey:ks[i - 1]?=some ks[i - 1]:=List.getElem?_eq_getElem hj;generalize ks[i - 1]=y at ey;walk;refine df (S3 _ _ hR) (v:=.int y) ?_ ?_
   ·have:=da (xs:=ks.map V.int) (j:=i - 1) (v:=V.int y) (by rw[aQ,ey];rfl)
    rwa[show ((i - 1:Nat):Int)=(i:Int) - 1 by lia] at this
   walk;by_cases c:z<=y
   ·refine jt c ?_;walk;have:=k H3 S3
    rwa[aM (yK hz (by lia) ey c)] at this
   ·refine eB c ?_;walk;exact⟨S3,oE pw hz (.inr ⟨y,ey,by lia⟩),⟨_,_,rfl⟩⟩
  ·walk;exact⟨S3,oE pw hz (.inl (by have:¬((i:Int) > 0):=fun z=>hp (aq z);lia)),⟨_,_,rfl⟩⟩
 ·rintro σ H2 ⟨S2,pw,⟨o1,o2,rfl⟩⟩;walk;rw[au,take_length] at pw;have:=k H2 S2
  rwa[aq pw] at this
def pD (p:Int×Int):PyData:=.tuple [.int p.1,.int p.2]
def PrR (p:Int×Int):Prop:=gB p.1/\gB p.2
theorem tG (x:DV N H v d)(h:iF d=true):∃tp a xs,An4 (v=.ref a) (jo tp H a xs) (DVs N H xs (fQ d)) (tp=wV d):=by
 cases x with
 | lst na e r=>exact⟨false,_,_,rfl,e,r,rfl⟩
 | tup na e r=>exact⟨true,_,_,rfl,e,r,rfl⟩
 | _=>cases h
theorem key_of {a}(h:dc a=true):∃k,a=.int k/\gB k:=by
 cases a with
 | int k=>exact⟨k,rfl,pZ h⟩
 | _=>cases h
theorem uw (h:fU d=true):∃p,d=pD p/\PrR p:=by
 unfold fU at h;split at h
 ·rename_i a b
  rw[and_eq_true] at h;obtain⟨k,rfl,r1⟩:=key_of h.1;obtain⟨g,rfl,r2⟩:=key_of h.2;exact⟨(k,g),rfl,r1,r2⟩
 ·cases h
theorem zc {p:Int×Int}(x:DV N H v (pD p)):∃t,v=.ref t/\H t=some (.tup [.int p.1,.int p.2]):=by
 cases x with
 | tup na e r=>
  cases r with
  | cons r1 t=>
   cases t with
   | cons r2 t2=>
    cases t2;cases r1;cases r2;exact⟨_,rfl,e⟩
theorem ic {N:Addr->Prop}{H:Hp}:∀{xs:List V} {ds:List PyData},DVs N H xs ds->ds.all fU=true->∃ts ps,An4 (xs=ts.map V.ref) (ds=ps.map pD) (fj H ts ps) (∀p∈ps,PrR p)
 | [],_,.nil,_=>⟨[],[],rfl,rfl,⟨rfl,fun i t p e=>by cases e⟩,fun p hp=>by cases hp⟩
 | _::_,_::_,.cons r q,h=>by
  rw[all_cons,and_eq_true] at h;obtain⟨p,rfl,pr⟩:=uw h.1;obtain⟨t,rfl,e⟩:=zc r;obtain⟨ts,ps,rfl,rfl,tu,al⟩:=ic q h.2;refine⟨t::ts,p::ps,rfl,rfl,⟨bL (· + 1) tu.1,fun i t' p' e1 e2=>?_⟩,fun q hq=>?_⟩
  ·cases i with
   | zero=>cases e1;cases e2;exact e
   | succ i=>exact tu.2 i t' p' e1 e2
  ·rcases aV.mp hq with rfl|hq
   ·exact pr
   ·exact al q hq
theorem ja (ps:List (Int×Int)):(ps.map pD).map wR=ps.map (·.1):=by rw[map_map];rfl
theorem lg {N:Addr->Prop}{H:Hp}:∀{xs:List V} {ds:List PyData} {i:Nat} {x:V},DVs N H xs ds->xs[i]?=some x->∃d,ds[i]?=some d/\DV N H x d
 | _,_,_,_,.nil,e=>by cases e
 | _,_,0,_,.cons r _,e=>by cases e;exact⟨_,rfl,r⟩
 | _,_,i+1,_,.cons _ q,e=>by
  obtain⟨d,e1,e2⟩:=lg (i:=i) q (by simpa using e);exact⟨d,by simpa using e1,e2⟩
theorem cx (x:DV N H v d)(S:aZ H H'):DV N H' v d:=x.keep (fun b o _ z=>S b o z) fun _ z=>z
theorem mE {vs ds}(x:DVs N H vs ds)(S:aZ H H'):DVs N H' vs ds:=x.keep (fun b o _ z=>S b o z) fun _ z=>z
theorem uY {vs:List V}{ds:List PyData}(x:DVs N H vs ds):vs.length=ds.length:=x.length
inductive spPrs (vs:List V)(H:Hp)(Q:VK)(E:XK):Prop
 | mk (N:Addr->Prop)(v:V)(d:PyData):vs=[v]->DV N H v d->(fQ d).length<=2000->(∀H',aZ H H'->Q (.bl (cB d)) H')->spPrs vs H Q E
theorem wB:Ok F F.r.d_are_pairs 5 spPrs:=by
 refine F.r.d_are_pairs.go fun sc H Q hr h=>?_;obtain⟨N,v,d,rfl,x,hz,k⟩:=h;cases z:iF d with
 | false=>
  obtain⟨tp,_⟩:∃tp:Bool,tp=false:=⟨_,rfl⟩
  refine⟨_,(am (bF (PW.pt (eF (ci (bH (bM (oX F) hr (pa1 (pv 0))))) (dL (ci (bH (aN (eP (hr.hd rfl)) rfl F.r.T.n_all j6 (pa1 (gQ (eh [] []) rfl (lW tp (pv 0)) (fun _ _ _ _ _=>PTs.nil) (fun _ _ _ _ _=>(bM (oZ F) hr (pa1 (pv 0))))))))))))
   (aw (aL cO))
   aW)
  (aw (aL (bM (oY F) hr (pa1 (gC (eh [] []) rfl (lW tp (pv 0)) (fun _ _ _ _ _=>PTs.nil) (fun _ _ _ _ _=>(pv 0)))))))),?_⟩
  walk;refine⟨v,_,rfl,x.thg,fun H1 S1=>?_⟩;rw[jT,z];walk;have:=k H1 S1;unfold cB at this;rw[z] at this;exact this
 | true=>
  obtain⟨tp,a,xs,rfl,ra,dv,_⟩:=tG x z
  refine⟨_,(am (bF (PW.pt (eF (ci (bH (bM (oX F) hr (pa1 (pv 0))))) (dL (ci (bH (aN (eP (hr.hd rfl)) rfl F.r.T.n_all j6 (pa1 (gQ (eh [] []) rfl (lW tp (pv 0)) (fun _ _ _ _ _=>PTs.nil) (fun _ _ _ _ _=>(bM (oZ F) hr (pa1 (pv 0))))))))))))
   (aw (aL cO))
   aW)
  (aw (aL (bM (oY F) hr (pa1 (gC (eh [] []) rfl (lW tp (pv 0)) (fun _ _ _ _ _=>PTs.nil) (fun _ _ _ _ _=>(pv 0)))))))),?_⟩
  walk;refine⟨_,_,rfl,x.thg,fun H1 S1=>?_⟩;rw[jT,z];walk;have ra1:=S1 _ _ ra;refine dQ (J:=ItB K tp a) (H1:=H1) xs.length (fun R z=>⟨_,rfl,a,rfl,⟨xs,jo.sq ra1⟩,z⟩) (fun D i H2=>aZ H1 H2/\H2 D=some (.lst (((fQ d).take i).map fun e=>V.bl (fU e)))) (fun D f=>⟨aZ.upd f,ay⟩) (fun D i H2 fD lt ⟨S2,e2⟩=>?_) (fun D H2 fD ⟨S2,e2⟩=>?_)
  ·obtain⟨y,ey⟩:∃y,xs[i]?=some y:=⟨_,List.getElem?_eq_getElem lt⟩;obtain⟨d1,ed,dy⟩:=lg dv ey;have ra2:=S2 _ _ ra1;refine⟨tz ra2 ey,fun u H3 yl R zz=>?_⟩;obtain⟨rfl,eu⟩:=pT ra2 yl;cases aG (ey.symm.trans eu);walk;refine⟨N,y,d1,rfl,cx dy (S1.trans S2),?_⟩;have lz:((fQ d).take i).length<=2000:=by rw[aF];lia
   refine⟨_,e2,by rw[au];exact lt_of_le_of_lt lz (by decide),zz _ ⟨im S2 fD,?_⟩⟩;rw[ay,take_add_one,ed,toList_some,dU];rfl
  ·refine⟨mt (S2 _ _ ra1) (aD _),?_⟩;walk;rw[uY dv,take_length] at e2;refine⟨D,(fQ d).map fU,rfl,by rw[e2,map_map];rfl,?_⟩;walk;have S3:=S1.trans S2;cases al:(fQ d).all fU with
   | false=>
    rw[show ((fQ d).map fU).all id=false by rw[all_map];exact al];walk;have:=k H2 S3;unfold cB at this;rw[z,al] at this;exact this
   | true=>
    rw[show ((fQ d).map fU).all id=true by rw[all_map];exact al];walk;obtain⟨ts,ps,rfl,ed,tu,pr⟩:=ic dv al;have ra2:=S3 _ _ ra;have tu2:=tu.keep fun b o e=>S3 _ _ e;have ll:=tu.1;have lp:ps.length<=2000:=by have:=hz;rw[ed,au] at this;exact this
    rw[au] at *;refine dQ (J:=ItB K tp a) (H1:=H2) ts.length (fun R z=>⟨_,rfl,a,rfl,⟨_,jo.sq ra2⟩,z⟩) (fun D' i H3=>aZ H2 H3/\H3 D'=some (.lst ((ps.take i).map fun p=>V.int p.1))) (fun D' f=>⟨aZ.upd f,ay⟩) (fun D' i H3 fD lt ⟨S4,e4⟩=>?_) (fun D' H3 fD ⟨S4,e4⟩=>?_)
    ·have et:ts[i]?=some ts[i]:=List.getElem?_eq_getElem lt;have ep:ps[i]?=some (ps[i]'(by lia)):=List.getElem?_eq_getElem _;generalize ts[i]=t at et;generalize ps[i]'(by lia)=p at ep;have ra3:=S4 _ _ ra2;refine⟨tz (x:=.ref t) ra3 (by rw[aQ,et];rfl),fun u H5 yl R zz=>?_⟩;obtain⟨rfl,eu⟩:=pT ra3 yl;rw[aQ,et] at eu;cases eu
     refine⟨t,.int p.1,.int p.2,rfl,SqT.of (S4 _ _ (tu2.2 i t p et ep)),?_⟩;walk;refine⟨_,e4,by rw[au];exact lt_of_le_of_lt (m:=2000) (by rw[aF];lia) (by decide),zz _ ⟨im S4 fD,?_⟩⟩;rw[ay,take_add_one,ep,toList_some,dU];rfl
    ·refine⟨mt (S4 _ _ ra2) (by rw[au];exact aD _),?_⟩;walk;rw[ll,take_length] at e4;refine⟨D',ps.map (·.1),rfl,by rw[e4,map_map];rfl,fun k hk=>?_,fun H5 S5=>?_⟩
     ·obtain⟨p,hp,rfl⟩:=jv.mp hk;exact(pr p hp).1
     ·have:=k H5 (S3.trans (S4.trans S5));unfold cB at this;rw[z,al,ed,ja] at this;exact this
def isS (d:PyData)(z:Str):Bool:=match d with|.str y=>decide (y=z)|_=>false
def dA (d:PyData)(z:Str)(n:Nat):Bool:=match d with|.tuple (x::xs)=>decide (xs.length=n)&&isS x z|_=>false
theorem xt (x:DV N H v d):decide (v=.str z)=isS d z:=by
 cases x<;>simp[isS]
def uI:PyData->Bool|.none=>true|_=>false
def gtD (a b:PyData):Bool:=match a,b with|.int i,.int j=>decide (i > j)|_,_=>false
def kq (lo hi:PyData):Bool:=dc lo&&(uI hi||(dc hi&&gtD hi lo))
def ixD (d:PyData)(i:Nat):PyData:=match d with|.tuple xs=>xs.getD i .none|_=>.none
def cW (d:PyData):Bool:=
 if dA d "find" 1||dA d "take" 1 then dc (ixD d 1)
 else if dA d "put" 2 then dc (ixD d 1)&&dc (ixD d 2)
 else if dA d "parts" 2||dA d "whole" 2 then kq (ixD d 1) (ixD d 2) else false
def zM:PyData->Bool|.int i=>inR 0 60 i|_=>false
def oA (d:PyData):Bool:=if dA d "join" 2 then dc (ixD d 1)&&zM (ixD d 2) else dA d "sink" 0
theorem Out.same {fs us}(o:Out E C fs us H)(s:aZ H H1):Out E C fs us H1:=fun e H' he S r=>o e H' (s.free he) (s.trans S) r
inductive spNeed (C:Addr)(vs:List V)(H:Hp)(Q:VK)(E:XK):Prop
 | mk (N:Addr->Prop)(v:V)(d:PyData):vs=[v]->DV N H v d->(fQ d).length<=2000->(cB d=true->∀H',aZ H H'->Q .non H')->(cB d=false->Out E C ["found"] [v] H)->spNeed C vs H Q E
inductive spTold (vs:List V)(H:Hp)(Q:VK)(E:XK):Prop
 | mk (N:Addr->Prop)(v:V)(d:PyData)(z:Str)(n:Nat):vs=[v,.str z,.int n]->DV N H v d->Q (.bl (dA d z n)) H->spTold vs H Q E
theorem o7:Ox F F.r.d_need_pairs 6 (spNeed c.K):=by
 obtain⟨fI,fd,xNoKey⟩:=F.eK;have GNoKey:=wF (P:=P) (w:=w) (base:=base) ⟨2,by simp,rfl⟩ xNoKey;refine F.r.d_need_pairs.gox fun sc H Q E hr h=>?_;obtain⟨N,v,d,rfl,x,hz,k1,k2⟩:=h
 refine⟨_,(aw (bF (ci (bH (bM (wB F) hr (pa1 (pv 0)))))
   (aw (lV eW rfl (sT xNoKey.f GNoKey (hr.mono (by decide)) rfl xNoKey.mC xNoKey.bi (pa1 (pv 0)))))
   aW)),?_⟩
 walk;refine⟨N,v,d,rfl,x,hz,fun H1 S1=>?_⟩;cases z:cB d with
 | true=>
  walk;exact k1 z H1 S1
 | false=>
  walk;exact jD xNoKey (us:=[v]) rfl (le_of_ble_eq_true rfl) (fun R r=>⟨_,rfl,r⟩) ((k2 z).same S1)
theorem fw:Ok F F.r.d_is_told 1 spTold:=by
 refine F.r.d_is_told.go fun sc H Q hr h=>?_;obtain⟨N,v,d,z,n,rfl,x,k⟩:=h
 refine⟨_,(aw (aL (dg (aN bZ rfl F.r.T.n_isinstance bA (pa2 (pv 0) (cF (v:=.ty "tuple") rfl F.r.T.n_tuple e_ rfl))) (dg (bO cw (aN bE rfl F.r.T.n_len d7 (pa1 (pv 0))) (br dh (pv 2) ai) (cm _)) (cI (bO (wu hr.units0) (pix bT (pv 0) ai) (pv 1) (cm _))))))),?_⟩;walk
 refine⟨v,_,_,_,rfl,x.thg,.inl ⟨"tuple",rfl,jg d⟩,?_⟩;cases x with
 | tup na e r=>
  walk;refine dk ?_;walk;refine⟨_,_,rfl,.inr (SqT.of e),?_⟩;walk;cases r with
  | nil=>exact eB (by simp;lia) k
  | @cons v1 d1 vs ds r1 t=>
   have l:=t.length;by_cases c:ds.length=n
   ·refine jt (by simp;lia) ?_;walk;refine oB e (da (xs:=v1::vs) (j:=0) rfl) ?_;refine⟨_,rfl,z,_,rfl,r1.thg,?_⟩;rw[xt r1];have k':Q (.bl (decide (ds.length=n)&&isS d1 z)) H:=k;rw[aq c] at k';exact k'
   ·refine eB (by simp;lia) ?_;have k':Q (.bl (decide (ds.length=n)&&isS d1 z)) H:=k;rw[aM c] at k';exact k'
 | _=>
  walk;exact cG k
theorem dz (x:DV N H v d)(c:dA d z n=true):∃a vs ds,An5 (v=.ref a) (H a=some (.tup (.str z::vs))) (d=.tuple (.str z::ds)) (ds.length=n) (DVs N H vs ds/\¬N a):=by
 cases x with
 | tup na e r=>
  cases r with
  | nil=>cases c
  | cons r1 t=>
   simp only[dA,and_eq_true,decide_eq_true_eq] at c;cases r1 with
   | str y=>
    have hy:y=z:=aU c.2;subst hy;exact⟨_,_,_,rfl,e,rfl,c.1,t,na⟩
   | _=>exact nomatch c.2
 | _=>cases c
theorem xq {vs}{ds:List PyData}(x:DVs N H vs ds)(l:ds.length=1):∃v d,An3 (vs=[v]) (ds=[d]) (DV N H v d):=by
 cases x with
 | nil=>cases l
 | cons r t=>cases t with
  | nil=>exact⟨_,_,rfl,rfl,r⟩
  | cons _ _=>cases l
theorem uZ {vs}{ds:List PyData}(x:DVs N H vs ds)(l:ds.length=2):∃v d v' d',An4 (vs=[v,v']) (ds=[d,d']) (DV N H v d) (DV N H v' d'):=by
 cases x with
 | nil=>cases l
 | cons r t=>
  obtain⟨v,d,rfl,rfl,s⟩:=xq t (by simpa using l);exact⟨_,_,_,_,rfl,rfl,r,s⟩
inductive spSpan (K:Frag)(vs:List V)(H:Hp)(Q:VK)(E:XK):Prop
 | mk (N:Addr->Prop)(a:Addr)(v v':V)(d d':PyData):vs=[.ref a]->H a=some (.tup [v,v'])->DV N H v d->DV N H v' d'->Q (.bl (kq d d')) H->spSpan K vs H Q E
inductive spCq (p:PyData->Bool)(vs:List V)(H:Hp)(Q:VK)(E:XK):Prop
 | mk (N:Addr->Prop)(v:V)(d:PyData):vs=[v]->DV N H v d->(∀H',aZ H H'->Q (.bl (p d)) H')->spCq p vs H Q E
theorem uE:Ok F F.r.d_is_span 5 (spSpan K):=by
 refine F.r.d_is_span.go fun sc H Q hr h=>?_;obtain⟨N,a,v,v',d,d',rfl,e,x,x',k⟩:=h
 refine⟨_,(am (gp (pv 0) (fh rfl (bq (fk sc 1) (bq (fk sc 2) dB))))
  (aw (aL (dg (bM (kM F) hr (pa1 (pv 1))) (cI (iT (bO iB (pv 2) dY (cm _)) (cI (dg (bM (kM F) hr (pa1 (pv 2))) (cI (bO rn (pv 2) (pv 1) (cm _))))))))))),?_⟩
 walk;refine⟨_,_,rfl,x.thg,?_⟩;unfold kq at k;rw[DV.key x];walk;cases z:dc d with
 | false=>
  rw[z] at k;exact cG k
 | true=>
  rw[z] at k;refine dk ?_;cases x with
  | int i=>
   cases x' with
   | non=>
    walk;refine⟨rfl,?_⟩;walk;exact dk k
   | int j=>
    walk;refine⟨rfl,?_⟩;walk;refine cG ?_;walk;refine⟨_,_,rfl,.int j,?_⟩;walk;have k':Q (.bl (dc (.int j)&&decide (j > i))) H:=k;cases y:vc (.int j) with
    | false=>
     rw[show dc (.int j)=false from y] at k';exact cG k'
    | true=>
     rw[show dc (.int j)=true from y] at k';refine dk ?_;walk;exact k'
   | bl j=>
    walk;refine⟨rfl,?_⟩;walk;refine cG ?_;walk;refine⟨_,_,rfl,.bl j,?_⟩;walk;exact cG k
   | str j=>
    walk;refine⟨rfl,?_⟩;walk;refine cG ?_;walk;refine⟨_,_,rfl,.str j,?_⟩;walk;exact cG k
   | lst na e1 r|tup na e1 r|dct na e1 r=>
    walk;refine⟨rfl,?_⟩;walk;refine cG ?_;walk;refine⟨_,_,rfl,DV.thg (by first|exact .lst na e1 r|exact .tup na e1 r|exact .dct na e1 r),?_⟩;walk;exact cG k
  | _=>cases z
theorem gt:Ok F F.r.d_is_plain_call 6 (spCq cW):=by
 refine F.r.d_is_plain_call.go fun sc H Q hr h=>?_;obtain⟨N,v,d,rfl,x,k⟩:=h
 refine⟨_,(am (bF (PW.pt (eF (bH (bM (fw F) hr (pa3 (pv 0) bv ai))) (dL (bH (bM (fw F) hr (pa3 (pv 0) bv ai))))))
   (aw (aL (bM (kM F) hr (pa1 (pix bT (pv 0) ai)))))
   aW)
  (am (bF (bH (bM (fw F) hr (pa3 (pv 0) bv ai)))
   (aw (aL (dg (bM (kM F) hr (pa1 (pix bT (pv 0) ai))) (cI (bM (uC F) hr (pa1 (pix bT (pv 0) ai)))))))
   aW)
  (am (bF (PW.pt (eF (bH (bM (fw F) hr (pa3 (pv 0) bv ai))) (dL (bH (bM (fw F) hr (pa3 (pv 0) bv ai))))))
   (aw (aL (bM (uE F) hr (pa1 (bU dO (pv 0) (cq ai) cr)))))
   aW)
  (aw (aL cO))))),?_⟩
 have k0:=k H fun _ _ e=>e;unfold cW at k0;walk;refine⟨N,v,d,_,1,rfl,x,?_⟩;walk;cases c1:dA d (Str.ofString "find") 1 with
 | true=>
  rw[c1] at k0;obtain⟨a,vs,ds,rfl,e,rfl,l,t,na⟩:=dz x c1;obtain⟨v1,d1,rfl,rfl,x1⟩:=xq t l;refine dk ?_;walk;refine⟨_,_,rfl,x1.thg,?_⟩;rw[DV.key x1];exact k0
 | false=>
  rw[c1] at k0;refine cG ?_;walk;refine⟨N,v,d,_,1,rfl,x,?_⟩;walk;cases c2:dA d (Str.ofString "take") 1 with
  | true=>
   rw[c2] at k0;obtain⟨a,vs,ds,rfl,e,rfl,l,t,na⟩:=dz x c2;obtain⟨v1,d1,rfl,rfl,x1⟩:=xq t l;refine dk ?_;walk;refine⟨_,_,rfl,x1.thg,?_⟩;rw[DV.key x1];exact k0
  | false=>
   rw[c2] at k0;refine cG ?_;walk;refine⟨N,v,d,_,2,rfl,x,?_⟩;walk;cases c3:dA d (Str.ofString "put") 2 with
   | true=>
    rw[c3] at k0;obtain⟨a,vs,ds,rfl,e,rfl,l,t,na⟩:=dz x c3;obtain⟨v1,d1,v2,d2,rfl,rfl,x1,x2⟩:=uZ t l;refine dk ?_;walk;refine⟨_,_,rfl,x1.thg,?_⟩;rw[DV.key x1];walk;have k1:Q (.bl (dc d1&&dc d2)) H:=k0;cases z:dc d1 with
    | false=>
     rw[z] at k1;exact cG k1
    | true=>
     rw[z] at k1;refine dk ?_;walk;refine⟨_,_,rfl,x2.thg,?_⟩;rw[DV.key x2];exact k1
   | false=>
    rw[c3] at k0;refine cG ?_;walk;refine⟨N,v,d,_,2,rfl,x,?_⟩;walk;cases c4:dA d (Str.ofString "parts") 2 with
    | true=>
     obtain⟨a,vs,ds,rfl,e,rfl,l,t,na⟩:=dz x c4;obtain⟨v1,d1,v2,d2,rfl,rfl,x1,x2⟩:=uZ t l;refine dk ?_;walk;refine⟨_,_,rfl,e,fun p H1 S1 ep=>?_⟩;walk;have kk:=k H1 S1;unfold cW at kk;rw[c1,c2,c3,c4] at kk;exact⟨N,p,v1,v2,d1,d2,rfl,ep,cx x1 S1,cx x2 S1,kk⟩
    | false=>
     rw[c4] at k0;refine cG ?_;walk;refine⟨N,v,d,_,2,rfl,x,?_⟩;walk;cases c5:dA d (Str.ofString "whole") 2 with
     | true=>
      obtain⟨a,vs,ds,rfl,e,rfl,l,t,na⟩:=dz x c5;obtain⟨v1,d1,v2,d2,rfl,rfl,x1,x2⟩:=uZ t l;refine dk ?_;walk;refine⟨_,_,rfl,e,fun p H1 S1 ep=>?_⟩;walk;have kk:=k H1 S1;unfold cW at kk;rw[c1,c2,c3,c4,c5] at kk;exact⟨N,p,v1,v2,d1,d2,rfl,ep,cx x1 S1,cx x2 S1,kk⟩
     | false=>
      rw[c5] at k0;refine cG ?_;walk;exact k0
theorem gq:Ok F F.r.d_is_quiet_call 4 (spCq oA):=by
 refine F.r.d_is_quiet_call.go fun sc H Q hr h=>?_;obtain⟨N,v,d,rfl,x,k⟩:=h
 refine⟨_,(am (bF (bH (bM (fw F) hr (pa3 (pv 0) bv ai)))
   (aw (aL (dg (bM (kM F) hr (pa1 (pix bT (pv 0) ai))) (cI (bM (yO F) hr (pa1 (pix bT (pv 0) ai)))))))
   aW)
  (aw (aL (bM (fw F) hr (pa3 (pv 0) bv ai))))),?_⟩
 have k0:=k H fun _ _ e=>e;unfold oA at k0;walk;refine⟨N,v,d,_,2,rfl,x,?_⟩;walk;cases c1:dA d (Str.ofString "join") 2 with
 | true=>
  rw[c1] at k0;obtain⟨a,vs,ds,rfl,e,rfl,l,t,na⟩:=dz x c1;obtain⟨v1,d1,v2,d2,rfl,rfl,x1,x2⟩:=uZ t l;refine dk ?_;walk;refine⟨_,_,rfl,x1.thg,?_⟩;rw[DV.key x1];walk;have k1:Q (.bl (dc d1&&zM d2)) H:=k0;cases z:dc d1 with
  | false=>
   rw[z] at k1;exact cG k1
  | true=>
   rw[z] at k1;refine dk ?_;walk;refine⟨_,_,rfl,x2.thg,?_⟩;cases x2<;>exact k1
 | false=>
  rw[c1] at k0;refine cG ?_;walk;exact⟨N,v,d,_,0,rfl,x,k0⟩
theorem mZ:Ok F F.r.d_is_any_call 7 (spCq fun d=>cW d||oA d):=by
 refine F.r.d_is_any_call.go fun sc H Q hr h=>?_;obtain⟨N,v,d,rfl,x,k⟩:=h;refine⟨_,(aw (aL (iT (bM (gt F) hr (pa1 (pv 0))) (cI (bM (gq F) hr (pa1 (pv 0))))))),?_⟩;walk;refine⟨N,v,d,rfl,x,fun H1 S1=>?_⟩;walk;cases c1:cW d with
 | true=>
  have k0:=k H1 S1;rw[c1] at k0;exact dk k0
 | false=>
  refine cG ?_;walk;refine⟨N,v,d,rfl,cx x S1,fun H2 S2=>?_⟩;have k0:=k H2 (S1.trans S2);rw[c1] at k0;exact k0
structure IsP (c:Cs)(H:Hp)(x g:Addr)(ps:List (Int×Int)):Prop where
 x:∃dx,H x=some (.ins c.P dx [("good_by_key",.ref g)])
 g:H g=some (.dK (kL ps))
inductive spPI (c:Cs)(vs:List V)(H:Hp)(Q:VK)(E:XK):Prop
 | mk (N:Addr->Prop)(x dx:Addr)(v:V)(d:PyData):vs=[.ref x,v]->H x=some (.ins c.P dx [])->DV N H v d->(fQ d).length<=2000 ->
   (cB d=true->∀ps,fQ d=ps.map pD->(∀p∈ps,PrR p)->(ps.map (·.1)).Pairwise (· < ·)->∀H1 g,aZ H H1->H1 g=none->Q .non (upd (upd H1 g (.dK (kL ps))) x (.ins c.P dx [("good_by_key",.ref g)]))) ->
   (cB d=false->Out E c.K ["found"] [v] H)->spPI c vs H Q E
theorem dW:FnScope ["self","pairs"] ["self","pairs"] (aO (dP (top 25) 0)):=by walk_at "s"
include F in
theorem iX (X:PlN K mg c.P f fd):nI P w K mg base (CXo P w) 8 f fd ["self","pairs"] (spPI c):=by
 have C_Plain:=X.cl;have nC:=X.n1;refine lF X.fn dW (fun vs H Q E h=>?_) (fun cdv A outer s0 H vs Q E hr h=>?_)
 ·obtain⟨_,_,_,_,_,rfl,_⟩:=h;rfl
 ·obtain⟨N,x,dx,v,d,rfl,hx,y,hz,k1,k2⟩:=h;have sc:=dW
  refine'⟨_,(am (cE (wk (o7 F) eW hr (pa1 (pv 1))))
  (aw (v8 (pv 0) (cQ (eZ (hr.hd rfl)) rfl F.r.T.n_dict jn (pa1 (pv 1))) rfl))),?_⟩
  walk;refine⟨N,v,d,rfl,y,hz,fun pd H1 S1=>?_,fun pd=>(k2 pd).on (.refl _)⟩;walk;have pd':=pd;unfold cB at pd';rw[and_eq_true,and_eq_true] at pd';obtain⟨z,al,pw⟩:=pd';have pw:=aU pw;obtain⟨tp,a,xs,rfl,ra,dv,_⟩:=tG y z;obtain⟨ts,ps,rfl,ed,tu,pr⟩:=ic dv al;rw[ed,ja] at pw
  refine⟨tp,a,ts,kL ps,rfl,S1 _ _ ra,tu.1.trans (au _).symm,?_,fun i t k u e1 e2=>?_,fun g fg=>?_⟩
  ·rw[show (kL ps).map (·.1)=(ps.map (·.1)).map Sum.inl by unfold kL;rw[map_map,map_map];rfl];exact(pw.map Sum.inl fun _ _ lt e=>aY (Sum.inl.inj e) (by lia))
  ·unfold kL at e2;rw[aQ] at e2;cases ep:ps[i]? with
   | none=>rw[ep] at e2;cases e2
   | some p=>
    rw[ep] at e2;cases e2;exact S1 _ _ (tu.2 i t p e1 ep)
  walk;exact tw (xM fg (S1 _ _ hx)) C_Plain nC (le_of_ble_eq_true rfl) (k1 pd ps ed pr pw H1 g S1 fg)
def plt (p q:Int×Int):Prop:=p.1<q.1
def Srt (s ps:List (Int×Int)):Prop:=s.Perm ps/\s.Pairwise plt
inductive spPP (c:Cs)(vs:List V)(H:Hp)(Q:VK)(E:XK):Prop
 | mk (x g:Addr)(ps:List (Int×Int)):vs=[.ref x]->IsP c H x g ps->ps.length<=1000->(ps.map (·.1)).Nodup ->
   (∀s,Srt s ps->∀l ts H',H l=none->aZ H H'->H' l=some (.lst (ts.map V.ref))->fj H' ts s->(∀t∈ts,H t=none)->Q (.ref l) H')->spPP c vs H Q E
theorem vD (p:s.Perm ps)(nd:(ps.map (·.1)).Nodup)(r:s.Pairwise fun p q=>L2.plt q p=false):Srt s ps:=by
 refine⟨p,?_⟩;have nd2:(s.map (·.1)).Nodup:=(p.map _).nodup_iff.mpr nd;have ne:s.Pairwise fun p q=>p.1≠q.1:=pairwise_map.mp nd2;refine(r.and ne).imp fun {a b} ⟨h1,h2⟩=>?_;show a.1<b.1;rcases Int.lt_trichotomy a.1 b.1 with z|z|z
 ·exact z
 ·exact aY z h2
 ·exfalso
  unfold L2.plt at h1;exact of_decide_eq_false h1 (.inl z)
include F in
theorem mh:Mt F c.P F.r.P_pairs 3 (spPP c):=by
 obtain⟨f,fd,X⟩:=F.PX;have C_Plain:=X.cl;have nC:=X.n1;refine F.r.P_pairs.go X.m fun sc H Q hr h=>?_;obtain⟨x,g,ps,rfl,⟨⟨dx,hx⟩,hg⟩,lp,nd,k⟩:=h;refine⟨_,(aw (aL (aN (nA (hr.hd rfl)) rfl F.r.T.n_sorted eQ (pa1 (qZ (lX (pv 0) rfl)))))),?_⟩;walk;unfold sD;walk;refine⟨g,_,rfl,hg,fun v fv=>?_⟩;walk
 refine⟨v,g,ps,rfl,ay,.inl (xM fv hg),lp,fun s p r l ts H' fl S e ln tu=>?_⟩;have S0:aZ H (upd H v (sv v g)):=aZ.upd fv;refine k s (vD p nd r) l ts H' (S0.free fl) (S0.trans S) e ⟨ln,fun j t p a b=>(tu j t p a b).1⟩ fun t ht=>?_;obtain⟨j,hj⟩:=getElem?_of_mem ht;have lj:j<s.length:=by rw[<- ln];exact(aA.mp hj).1
 exact S0.free (tu j t _ hj (List.getElem?_eq_getElem lj)).2
def hiV:Option Int->V|.none=>.non|some h=>.int h
def stP (lo:Int)(hi:Option Int)(k:Int):Bool:=decide (lo<=k)&&(match hi with|.none=>true|some h=>decide (k<h))
inductive spIn (vs:List V)(H:Hp)(Q:VK)(E:XK):Prop
 | mk (k lo:Int)(hi:Option Int):vs=[.int k,.int lo,hiV hi]->Q (.bl (stP lo hi k)) H->spIn vs H Q E
inductive spSt (c:Cs)(vs:List V)(H:Hp)(Q:VK)(E:XK):Prop
 | mk (x g:Addr)(ps:List (Int×Int))(lo:Int)(hi:Option Int):vs=[.ref x,.int lo,hiV hi]->IsP c H x g ps->ps.length<=1000->(ps.map (·.1)).Nodup ->
   (∀s,Srt s ps->∀l ts H',H l=none->aZ H H'->H' l=some (.lst (ts.map V.ref))->fj H' ts (s.filter fun p=>stP lo hi p.1)->(∀t∈ts,H t=none)->Q (.ref l) H')->spSt c vs H Q E
theorem comp_in {tp:Addr->St->Hp->(Hp->Prop)->Prop}(h:wi σ H fun J H1=>fM o0 Z js (fun _ _ R=>R J H1) tc tp σ H Q):fM o0 Z js wi tc tp σ H Q:=h
theorem fj.app {t}{p:Int×Int}(h:fj H ts ps)(e:H t=some (.tup [.int p.1,.int p.2])):fj H (ts++[t]) (ps++[p]):=by
 refine⟨by rw[aB,aB,h.1];rfl,fun j u x a b=>?_⟩;have l:=h.1;by_cases lt:j<ts.length
 ·rw[cy lt] at a;rw[cy (by lia)] at b;exact h.2 j u x a b
 ·rw[bJ (by lia)] at a;rw[bJ (by lia)] at b
  have z:j - ts.length=0:=by
   have:=(aA.mp a).1;simp at this
   lia
  rw[z] at a;rw[show j - ps.length=0 by lia] at b;cases a;cases b;exact e
theorem yP:Ok F F.r.d_in_stretch 2 spIn:=by
 refine F.r.d_in_stretch.go fun sc H Q hr h=>?_;obtain⟨k,lo,hi,rfl,q⟩:=h;refine⟨_,(aw (aL (dg (iT (bO iB (pv 1) dY (cm _)) (cI (bO rm (pv 1) (pv 0) (cm _)))) (cI (iT (bO iB (pv 2) dY (cm _)) (cI (bO gA (pv 0) (pv 2) (cm _)))))))),?_⟩;cases hi with
 | none=>
  have q':Q (.bl (decide (lo<=k)&&true)) H:=q;walk;refine⟨rfl,?_⟩;walk;refine cG ?_;walk;cases z:decide (lo<=k) with
  | false=>
   rw[z] at q';exact cG q'
  | true=>
   rw[z] at q';refine dk ?_;walk;refine⟨rfl,?_⟩;walk;exact dk q'
 | some h=>
  have q':Q (.bl (decide (lo<=k)&&decide (k<h))) H:=q;walk;refine⟨rfl,?_⟩;walk;refine cG ?_;walk;cases z:decide (lo<=k) with
  | false=>
   rw[z] at q';exact cG q'
  | true=>
   rw[z] at q';refine dk ?_;walk;refine⟨rfl,?_⟩;walk;refine cG ?_;walk;show rI0 _ (.int k) (.int h) H Q;exact zK q'
theorem mW:Mt F c.P F.r.P_stretch 4 (spSt c):=by
 obtain⟨f,fd,X⟩:=F.PX;have C_Plain:=X.cl;have nC:=X.n1;refine F.r.P_stretch.go X.m fun sc H Q hr h=>?_;obtain⟨x,g,ps,lo,hi,rfl,Y,lp,nd,k⟩:=h;obtain⟨dx,hx⟩:=Y.x
 refine⟨_,(aw (aL (gC (eh ["low","high"] [1,2]) rfl (cZ (wg (pv 0) C_Plain (mh F) hr)) (fun _ _ _ _ _=>(PTs.one (bH (bM (yP F) hr (pa3 (pv 0) (pv 2) (pv 3)))))) (fun _ _ _ _ _=>(bR (pa2 (pv 0) (pv 1))))))),?_⟩;walk;refine comp_in ?_;walk;refine⟨x,g,ps,rfl,Y,lp,nd,fun s so l ts H1 fl S1 el tu fr=>?_⟩
 have ls:s.length<=1000:=by rw[so.1.length_eq];exact lp
 walk;refine dQ (J:=Itl K l) (H1:=H1) s.length (fun R z=>z) (fun D i H2=>aZ H1 H2/\∃us,An3 (H2 D=some (.lst (us.map V.ref))) (fj H2 us ((s.take i).filter fun p=>stP lo hi p.1)) (∀u∈us,H1 u=none)) (fun D fD=>⟨aZ.upd fD,[],ay,⟨rfl,fun j t x e=>by cases e⟩,fun u z=>by cases z⟩) (fun D i H2 fD lt ⟨S2,us,eD,tD,fu⟩=>?_) (fun D H2 fD ⟨S2,us,eD,tD,fu⟩=>?_)
 ·obtain⟨i1,i2,_⟩:=tE (K:=K) el tu i H2 S2;refine⟨i1 lt,fun v H3 yl R zz=>?_⟩;obtain⟨t,rfl,S3,et⟩:=i2 v H3 _ yl (List.getElem?_eq_getElem lt);have ep:s[i]?=some s[i]:=List.getElem?_eq_getElem lt;generalize s[i]=p at et ep;refine⟨t,.int p.1,.int p.2,rfl,SqT.of et,?_⟩;walk;refine⟨p.1,lo,hi,rfl,?_⟩;walk;have S23:aZ H1 H3:=S2.trans S3;have eD3:=S3 _ _ eD
  have tD3:=fj.keep tD fun b o e=>S3 _ _ e;cases z:stP lo hi p.1 with
  | false=>
   refine cG (zz _ ⟨S23,us,eD3,?_,fu⟩);rw[take_add_one,ep,filter_append];simp only[toList_some,filter_cons,z,filter_nil];rw[ah aj,cH];exact tD3
  | true=>
   refine dk ?_;unfold pL;walk;refine⟨sz,fun u fu3=>?_⟩
   have ln:us.length<=1000:=by
    rw[tD.1];refine Nat.le_trans (eA _ _) ?_;rw[aF]
    lia
   have nD:D≠u:=ao eD3 fu3;have S4:aZ H3 (upd H3 u (.tup [.int p.1,.int p.2])):=aZ.upd fu3;refine⟨_,S4 _ _ eD3,by rw[au];exact lt_of_le_of_lt ln (by decide),zz _ ⟨im (S23.trans S4) fD,us++[u],?_,?_,fun b hb=>?_⟩⟩
   ·rw[ay,dU];rfl
   ·rw[take_add_one,ep,filter_append];simp only[toList_some,filter_cons,z,filter_nil,if_true];refine fj.app (tD3.keep fun b xs e=>?_) ((aE nD.symm).trans ay);rw[aE (fun z=>by subst z;rw[eD3] at e;cases e)];exact S4 _ _ e
   ·rcases ba.mp hb with hb|hb
    ·exact fu b hb
    ·cases a_.mp hb;exact S23.free fu3
 ·refine⟨(tE (K:=K) el tu s.length H2 S2).2.2 (aD _),?_⟩;rw[take_length] at tD;exact k s so D us H2 (S1.free fD) (S1.trans S2) eD tD fun u z=>S1.free (fu u z)
def w_ (ps:List (Int×Int))(k:Int):Bool:=ps.any fun p=>decide (p.1=k)
def oG (ps:List (Int×Int))(k g:Int):List (Int×Int):=if w_ ps k=true then ps.map fun p=>if p.1=k then (p.1,g) else p else ps++[(k,g)]
def li (ps:List (Int×Int))(k:Int):List (Int×Int):=ps.filter fun p=>decide (p.1≠k)
def ke (ps:List (Int×Int))(k:Int):Option Int:=(ps.find? fun p=>decide (p.1=k)).map (·.2)
theorem w9 (ps:List (Int×Int))(k:Int):((kL ps).any fun kv=>decide (kv.1=Sum.inl k))=w_ ps k:=by
 unfold kL w_;rw[List.any_map];congr 1
 funext p
 exact decide_eq_decide.mpr ⟨fun h=>Sum.inl.inj h,fun h=>bL Sum.inl h⟩
theorem sO (ps:List (Int×Int))(k g:Int):iR (kL ps) (Sum.inl k) (V.int g)=kL (oG ps k g):=by
 unfold iR oG;rw[w9];cases w_ ps k with
 | true=>
  rw[ak rfl,ak rfl];unfold kL;rw[map_map,map_map];refine map_congr_left fun p _=>?_;by_cases e:p.1=k
  ·subst e;simp
  ·have:¬(Sum.inl p.1:Key)=Sum.inl k:=fun z=>e (Sum.inl.inj z);simp[e,this]
 | false=>
  rw[ah aj,ah aj];unfold kL;rw[dU];rfl
theorem fi (ps:List (Int×Int))(k:Int):ik (kL ps) (Sum.inl k)=(ke ps k).map V.int:=by
 unfold ik ke
 induction ps with
 | nil=>rfl
 | cons p ps ih=>
  by_cases e:p.1=k
  ·subst e;simp[kL,find?_cons]
  ·have:¬(Sum.inl p.1:Key)=Sum.inl k:=fun z=>e (Sum.inl.inj z);simp only[find?_cons,kL,bX,e,this,decide_false];exact ih
theorem qh {k:Int}(h:ke ps k=none):li ps k=ps:=by
 unfold ke at h;unfold li;refine List.filter_eq_self.mpr fun p hp=>aq fun z=>?_;have h1:(ps.find? fun p=>decide (p.1=k))=none:=Option.map_eq_none_iff.mp h;exact aY (aq z) (by simpa using List.find?_eq_none.mp h1 p hp)
theorem qQ (ps:List (Int×Int))(k g:Int):(oG ps k g).map (·.1)=if w_ ps k=true then ps.map (·.1) else ps.map (·.1)++[k]:=by
 unfold oG;split
 ·rw[map_map];refine map_congr_left fun p _=>?_;show (if p.1=k then (p.1,g) else p).1=p.1;split<;>rfl
 ·rw[dU];rfl
theorem v7 (k g:Int)(h:(ps.map (·.1)).Nodup):((oG ps k g).map (·.1)).Nodup:=by
 rw[qQ];split
 ·exact h
 ·next n=>
  rw[List.nodup_append];refine⟨h,eV.mpr ⟨aP,nodup_nil⟩,fun a ha b hb e=>n ?_⟩;cases a_.mp hb;subst e;obtain⟨p,hp,e⟩:=jv.mp ha;exact any_eq_true.mpr ⟨p,hp,aq e⟩
theorem uj (ps:List (Int×Int))(k g:Int):(oG ps k g).length<=ps.length+1:=by
 unfold oG;split
 ·rw[au];exact le_succ _
 ·rw[aB];exact aD _
theorem u4 (k:Int)(h:(ps.map (·.1)).Nodup):((li ps k).map (·.1)).Nodup:=h.sublist (List.filter_sublist.map _)
theorem sf (ps:List (Int×Int))(k:Int):(li ps k).length<=ps.length:=eA _ _
theorem lM {s'}(a:Srt s ps)(b:Srt s' ps):s=s':=
 (a.1.trans b.1.symm).eq_of_pairwise (fun x y _ _ h1 h2=>aY (Int.lt_trans h1 h2) (Int.lt_irrefl _)) a.2 b.2
theorem jz (nd:(ps.map (·.1)).Nodup):∃s,Srt s ps:=by
 let le:Int×Int->Int×Int->Bool:=fun a b=>decide (a.1<=b.1)
 have p:(ps.mergeSort le).Perm ps:=List.mergeSort_perm ps le
 have r:(ps.mergeSort le).Pairwise fun a b=>le a b=true:=List.pairwise_mergeSort (le:=le) (fun a b c h1 h2=>aq (Int.le_trans (aU h1) (aU h2))) (fun a b=>by
  show (decide (a.1<=b.1)||decide (b.1<=a.1))=true;rw[Bool.or_eq_true];rcases Int.le_total a.1 b.1 with z|z
  ·exact .inl (aq z)
  ·exact .inr (aq z)) ps
 have nd2:((ps.mergeSort le).map (·.1)).Nodup:=(p.map _).nodup_iff.mpr nd;have ne:(ps.mergeSort le).Pairwise fun p q=>p.1≠q.1:=pairwise_map.mp nd2
 exact⟨_,p,(r.and ne).imp fun {a b} ⟨h1,h2⟩=>by
  have:=aU h1;show a.1<b.1
  lia⟩
def hiD:Option Int->PyData|.none=>.none|some h=>.int h
inductive Cl
 | find (k:Int)|take (k:Int)|put (k g:Int)|span (iL:Bool) (lo:Int) (hi:Option Int)
def wSp:Bool->Str|true=>"whole"|false=>"parts"
def Cl.vs:Cl->List V
 | .find k=>[.str "find",.int k]
 | .take k=>[.str "take",.int k]
 | .put k g=>[.str "put",.int k,.int g]
 | .span b lo hi=>[.str (wSp b),.int lo,hiV hi]
def Cl.ds:Cl->List PyData
 | .find k=>[.str "find",.int k]
 | .take k=>[.str "take",.int k]
 | .put k g=>[.str "put",.int k,.int g]
 | .span b lo hi=>[.str (wSp b),.int lo,hiD hi]
def Cl.next (ps:List (Int×Int)):Cl->List (Int×Int)
 | .find _=>ps
 | .take k=>li ps k
 | .put k g=>oG ps k g
 | .span ..=>ps
def uy:Option Int->PyData|.none=>.none|some i=>.int i
def Cl.ans (ps s:List (Int×Int)):Cl->PyData
 | .find k=>uy (ke ps k)
 | .take k=>uy (ke ps k)
 | .put k _=>uy (ke ps k)
 | .span _ lo hi=>.list ((s.filter fun p=>stP lo hi p.1).map pD)
def Cl.In:Cl->Prop
 | .find k=>gB k
 | .take k=>gB k
 | .put k g=>gB k/\gB g
 | .span _ lo hi=>gB lo/\∀h,hi=some h->gB h/\lo<h
theorem hU (x:DV N H v d)(h:dc d=true):∃k,An3 (v=.int k) (d=.int k) (gB k):=by
 cases x with
 | int i=>exact⟨i,rfl,rfl,pZ h⟩
 | _=>cases h
theorem oe {v' d'}(x:DV N H v d)(x':DV N H v' d')(h:kq d d'=true):∃lo hi,An5 (v=.int lo) (d=.int lo) (v'=hiV hi) (d'=hiD hi) (gB lo/\∀h,hi=some h->gB h/\lo<h):=by
 unfold kq at h;rw[and_eq_true] at h;obtain⟨lo,rfl,rfl,kr⟩:=hU x h.1;cases x' with
 | non=>exact⟨lo,.none,rfl,rfl,rfl,rfl,kr,fun h z=>by cases z⟩
 | int j=>
  have h2:(dc (.int j)&&decide (j > lo))=true:=h.2;rw[and_eq_true] at h2;refine⟨lo,some j,rfl,rfl,rfl,rfl,kr,fun h z=>?_⟩;cases z;exact⟨pZ h2.1,aU h2.2⟩
 | _=>exact nomatch h.2
theorem qw (x:DV N H v d)(h:cW d=true):∃a q,An5 (v=.ref a) (¬N a) (H a=some (.tup (Cl.vs q))) (d=.tuple (Cl.ds q)) (Cl.In q):=by
 unfold cW at h;cases c1:dA d "find" 1 with
 | true=>
  rw[c1] at h;obtain⟨a,vs,ds,rfl,e,rfl,l,t,na⟩:=dz x c1;obtain⟨v1,d1,rfl,rfl,x1⟩:=xq t l;obtain⟨k,rfl,rfl,kr⟩:=hU x1 h;exact⟨a,.find k,rfl,na,e,rfl,kr⟩
 | false=>
  cases c2:dA d "take" 1 with
  | true=>
   rw[c1,c2] at h;obtain⟨a,vs,ds,rfl,e,rfl,l,t,na⟩:=dz x c2;obtain⟨v1,d1,rfl,rfl,x1⟩:=xq t l;obtain⟨k,rfl,rfl,kr⟩:=hU x1 h;exact⟨a,.take k,rfl,na,e,rfl,kr⟩
  | false=>
   cases c3:dA d "put" 2 with
   | true=>
    rw[c1,c2,c3] at h;obtain⟨a,vs,ds,rfl,e,rfl,l,t,na⟩:=dz x c3;obtain⟨v1,d1,v2,d2,rfl,rfl,x1,x2⟩:=uZ t l;have h':(dc d1&&dc d2)=true:=h;rw[and_eq_true] at h';obtain⟨k,rfl,rfl,kr⟩:=hU x1 h'.1;obtain⟨g,rfl,rfl,gr⟩:=hU x2 h'.2;exact⟨a,.put k g,rfl,na,e,rfl,kr,gr⟩
   | false=>
    cases c4:dA d "parts" 2 with
    | true=>
     rw[c1,c2,c3,c4] at h;obtain⟨a,vs,ds,rfl,e,rfl,l,t,na⟩:=dz x c4;obtain⟨v1,d1,v2,d2,rfl,rfl,x1,x2⟩:=uZ t l;obtain⟨lo,hi,rfl,rfl,rfl,rfl,r⟩:=oe x1 x2 h;exact⟨a,.span false lo hi,rfl,na,e,rfl,r⟩
    | false=>
     cases c5:dA d "whole" 2 with
     | true=>
      rw[c1,c2,c3,c4,c5] at h;obtain⟨a,vs,ds,rfl,e,rfl,l,t,na⟩:=dz x c5;obtain⟨v1,d1,v2,d2,rfl,rfl,x1,x2⟩:=uZ t l;obtain⟨lo,hi,rfl,rfl,rfl,rfl,r⟩:=oe x1 x2 h;exact⟨a,.span true lo hi,rfl,na,e,rfl,r⟩
     | false=>rw[c1,c2,c3,c4,c5] at h;cases h
def Old (H:Hp)(a:Addr):Prop:=H a≠none
theorem dt {N:Addr->Prop}{H:Hp}:∀{ts:List Addr} {ps:List (Int×Int)},fj H ts ps->(∀t∈ts,¬N t)->DVs N H (ts.map V.ref) (ps.map pD)
 | [],[],_,_=>.nil
 | [],_::_,h,_=>nomatch h.1
 | _::_,[],h,_=>nomatch h.1
 | t::ts,p::ps,h,n=>.cons (.tup (n t (.head _)) (h.2 0 t p rfl rfl) (.cons (.int _) (.cons (.int _) .nil))) (dt ⟨Nat.succ.inj h.1,fun j u x a b=>h.2 (j+1) u x a b⟩ fun u z=>n u (.tail _ z))
inductive spDo (c:Cs)(vs:List V)(H:Hp)(Q:VK)(E:XK):Prop
 | mk (N:Addr->Prop)(x g:Addr)(ps:List (Int×Int))(v:V)(d:PyData):vs=[.ref x,v]->IsP c H x g ps->ps.length<=900->(ps.map (·.1)).Nodup->DV N H v d ->
   (∀q,d=.tuple (Cl.ds q)->cW d=true->Cl.In q->∀s,Srt s ps->∀y H',DV (Old H) H' y (Cl.ans ps s q)->KB g H H'->H' g=some (.dK (kL (Cl.next ps q)))->Q y H') ->
   (cW d=false->Out E c.C ["found"] [v] H)->spDo c vs H Q E
theorem vb (o:Option Int):DV N H ((o.map V.int).getD .non) (uy o):=by cases o with
 | none=>exact .non
 | some i=>exact .int i
theorem wD:Mx F c.P F.r.P_do 8 (spDo c):=by
 obtain⟨f,fd,X⟩:=F.PX;obtain⟨fI,fdI,xNoCall⟩:=F.eC;have GNoCall:=wF (P:=P) (w:=w) (base:=base) ⟨3,by simp,rfl⟩ xNoCall;have C_Plain:=X.cl;have nC:=X.n1;refine F.r.P_do.gox X.m fun sc H Q E hr h=>?_;obtain⟨N,x,g,ps,v,d,rfl,Y,lp,nd,dv,k1,k2⟩:=h;obtain⟨dx,hx⟩:=Y.x;have hg:=Y.g
 refine⟨_,(am (bF (ci (bH (bM (gt F) hr (pa1 (pv 1)))))
   (aw (lV eW rfl (sT xNoCall.f GNoCall (hr.mono (by decide)) rfl xNoCall.mC xNoCall.bi (pa1 (pv 1)))))
   aW)
  (am (gp (pv 1) (uq (n:=2) rfl (bq (fk sc 2) (bq (fk sc 3) (qW (fk sc 4) dB)))))
  (am (bF (iS gV (pv 2) (bR (pa2 bv bv)) (by with_unfolding_all rfl))
   (aw (aL (Ak (pv 0) C_Plain (mW F) hr (pa2 (pv 3) (pix bz (pv 4) ai)))))
   aW)
  (am (dX sc 5 (lZ (lf hr) (lX (pv 0) rfl) (pv 3) ⟨rfl,rfl,rfl,rfl⟩))
  (am (bF (pc cw (pv 2) bv)
   (aw (oJ (lf hr) (lX (pv 0) rfl) (pv 3) (pix bz (pv 4) ai) rfl))
   (aw (bF (pc cw (pv 2) bv)
   (aw (cE (q_ (lX (pv 0) rfl) (pv 3) dY ⟨rfl,rfl,rfl,rfl⟩)))
   aW)))
  (aw (aL (pv 5)))))))),?_⟩
 walk;refine⟨N,v,d,rfl,dv,fun H1 S1=>?_⟩;have hx1:=S1 _ _ hx;have hg1:=S1 _ _ hg;cases cd:cW d with
 | false=>
  walk;exact jD xNoCall (us:=[v]) rfl (le_of_ble_eq_true rfl) (fun R r=>⟨_,rfl,r⟩) ((k2 cd).same S1)
 | true=>
  obtain⟨a,q,rfl,na,ea,ed,qi⟩:=qw dv cd;have kk:=k1 q ed cd qi;obtain⟨s,hs⟩:=jz nd;walk;refine⟨a,Cl.vs q,rfl,SqT.of (S1 _ _ ea),by cases q<;>exact le_of_ble_eq_true rfl,by cases q<;>exact le_of_ble_eq_true rfl,fun l fl=>?_⟩;generalize eH:upd H1 l _=H2;have S2:aZ H1 H2:=eH▸aZ.upd fl;have el:H2 l=some (.lst ((Cl.vs q).drop 2)):=eH▸ay;clear eH;have hx2:=S2 _ _ hx1
  have hg2:=S2 _ _ hg1;cases q with
  | find k=>
   dsimp only[Cl.vs,List.take,drop,cons_append,nil_append] at el ⊢;walk;refine⟨sz,fun p fp=>?_⟩;generalize eH:upd H2 p _=H3;have S3:aZ H2 H3:=eH▸aZ.upd fp;have ep:H3 p=some (.tup [.str "parts",.str "whole"]):=eH▸ay;clear eH;have hx3:=S3 _ _ hx2;have hg3:=S3 _ _ hg2;have S03:=S1.trans (S2.trans S3);refine⟨p,_,rfl,.inr (SqT.of ep),rfl,rfl,?_⟩;walk;refine kZ (c:=false) rfl (cG ?_);walk
   unfold gJ;walk;refine⟨g,rfl,.inl ⟨_,.inl hg3⟩,?_⟩;walk;refine⟨_,ju.k (k:=Sum.inl k) hg3,?_⟩;rw[fi];walk;refine eB (by decide) ?_;walk;refine eB (by decide) ?_;walk;exact kk s hs _ H3 (vb _) S03.kb hg3
  | take k=>
   dsimp only[Cl.vs,List.take,drop,cons_append,nil_append] at el ⊢;walk;refine⟨sz,fun p fp=>?_⟩;generalize eH:upd H2 p _=H3;have S3:aZ H2 H3:=eH▸aZ.upd fp;have ep:H3 p=some (.tup [.str "parts",.str "whole"]):=eH▸ay;clear eH;have hx3:=S3 _ _ hx2;have hg3:=S3 _ _ hg2;have S03:=S1.trans (S2.trans S3);refine⟨p,_,rfl,.inr (SqT.of ep),rfl,rfl,?_⟩;walk;refine kZ (c:=false) rfl (cG ?_);walk
   unfold gJ;walk;refine⟨g,rfl,.inl ⟨_,.inl hg3⟩,?_⟩;walk;refine⟨_,ju.k (k:=Sum.inl k) hg3,?_⟩;rw[fi];walk;refine eB (by decide) ?_;walk;refine jt rfl ?_;walk;unfold sE;walk;refine⟨g,rfl,.inl ⟨_,.inl hg3⟩,?_⟩;walk;refine⟨kL ps,Sum.inl k,hg3,rfl,fun u eu=>?_,fun eu=>?_⟩
   ·walk;exact kk s hs _ _ (vb _) (KB.trans S03.kb KB.refl.updP) (by rw[ay];exact bL (fun z=>some (HO.dK z)) (pQ ps k))
   ·rw[fi] at eu;walk;refine kk s hs _ H3 (vb _) S03.kb ?_;show _=some (HO.dK (kL (li ps k)));rw[qh (Option.map_eq_none_iff.mp eu)];exact hg3
  | put k g=>
   dsimp only[Cl.vs,List.take,drop,cons_append,nil_append] at el ⊢;walk;refine⟨sz,fun p fp=>?_⟩;generalize eH:upd H2 p _=H3;have S3:aZ H2 H3:=eH▸aZ.upd fp;have ep:H3 p=some (.tup [.str "parts",.str "whole"]):=eH▸ay;clear eH;have hx3:=S3 _ _ hx2;have hg3:=S3 _ _ hg2;have S03:=S1.trans (S2.trans S3);refine⟨p,_,rfl,.inr (SqT.of ep),rfl,rfl,?_⟩;walk;refine kZ (c:=false) rfl (cG ?_);walk
   unfold gJ;walk;refine⟨_,rfl,.inl ⟨_,.inl hg3⟩,?_⟩;walk;refine⟨_,ju.k (k:=Sum.inl k) hg3,?_⟩;rw[fi];walk;refine jt rfl ?_;walk;refine df (S3 _ _ el) (da (j:=0) rfl) ?_;walk;refine pO (k:=Sum.inl k) hg3 (by rw[pP];exact lt_of_le_of_lt lp (by decide)) ?_;walk;exact kk s hs _ _ (vb _) (KB.trans S03.kb KB.refl.updP) (by rw[ay,sO];rfl)
  | span b lo hi=>
   dsimp only[Cl.vs,List.take,drop,cons_append,nil_append] at el ⊢;walk;refine⟨sz,fun p fp=>?_⟩;generalize eH:upd H2 p _=H3;have S3:aZ H2 H3:=eH▸aZ.upd fp;have ep:H3 p=some (.tup [.str "parts",.str "whole"]):=eH▸ay;clear eH;have hx3:=S3 _ _ hx2;have hg3:=S3 _ _ hg2;have S03:=S1.trans (S2.trans S3);refine⟨p,_,rfl,.inr (SqT.of ep),rfl,rfl,?_⟩;walk
   refine kZ (c:=true) (by cases b<;>rfl) (dk ?_);walk;refine df (S3 _ _ el) (da (j:=0) rfl) ?_;walk;refine⟨x,g,ps,lo,hi,rfl,⟨⟨_,hx3⟩,hg3⟩,Nat.le_trans lp (by decide),nd,fun s so l1 ts H4 f4 S4 e4 tu fr=>?_⟩;walk;have S04:=S03.trans S4;exact kk s so _ H4 (.lst (fun z=>z (S03.free f4)) e4 (dt tu fun u z o=>o (S03.free (fr u z)))) S04.kb (S04 _ _ hg)
inductive spClimb (vs:List V)(H:Hp)(Q:VK)(E:XK):Prop
 | mk (l:Addr)(n:Int):vs=[.ref l]->H l=some (.lst [.int n])->(∀H',aZ H H'->Q (.bl true) H')->spClimb vs H Q E
structure Row (H:Hp)(r a:Addr):Prop where
 r:H r=some (.tup [.int 0,.ref a,.int 0,.int 1,.int 1,.int 1])
 a:H a=some (.tup (Cl.vs (.put 1 2)))
theorem Row.same {r}(x:Row H r a)(S:aZ H H'):Row H' r a:=⟨S _ _ x.r,S _ _ x.a⟩
theorem ow (h:H a=some (.tup (Cl.vs (.put 1 2)))):DV (fun _=>False) H (.ref a) (.tuple (Cl.ds (.put 1 2))):=.tup (fun z=>z) h (.cons (.str _) (.cons (.int _) (.cons (.int _) .nil)))
inductive spRow1 (vs:List V)(H:Hp)(Q:VK)(E:XK):Prop
 | mk (r a:Addr):vs=[.ref r]->Row H r a->(∀H',aZ H H'->Q (.bl true) H')->spRow1 vs H Q E
inductive spRows (vs:List V)(H:Hp)(Q:VK)(E:XK):Prop
 | mk (l r a:Addr):vs=[.ref l]->H l=some (.lst [.ref r])->Row H r a->(∀H',aZ H H'->Q (.bl true) H')->spRows vs H Q E
inductive spDeeds (vs:List V)(H:Hp)(Q:VK)(E:XK):Prop
 | mk (r a:Addr):vs=[.ref r]->Row H r a->(∀t H1 l,H t=none->aZ H H1->H1 t=some (.tup [.int 1,.int 0,.ref a,.int 1])->H1 l=none->Q (.ref l) (upd H1 l (.lst [.ref t])))->spDeeds vs H Q E
inductive spAns1 (vs:List V)(H:Hp)(Q:VK)(E:XK):Prop
 | mk (a:Addr):vs=[.ref a,.int 0,.int 1,.int 1,.int 1]->H a=some (.tup (Cl.vs (.put 1 2)))->(∀H',aZ H H'->Q (.bl true) H')->spAns1 vs H Q E
theorem cU {p:Prop}[Decidable p]{A B:Prop}(c:¬p)(h:A):if (!decide p)=true then A else B:=by rw[aM c];exact dk h
theorem iteNX {b}{A:Prop}(c:b=true)(h:B):if (!b)=true then A else B:=by rw[c];exact cG h
theorem mj:Ok F F.r.d_is_climbing 1 spClimb:=by
 refine F.r.d_is_climbing.go fun sc H Q hr h=>?_;obtain⟨l,n,rfl,hl,k⟩:=h;refine⟨_,(aw (aL (aN (eP (hr.hd rfl)) rfl F.r.T.n_all j6 (pa1 (gC (eh [] []) rfl (uo rfl F.r.T.n_zip xA (pa2 (pv 0) (bU eE (pv 0) (cq ai) cr))) (fun _ _ _ _ _=>PTs.nil) (fun _ _ _ _ _=>(bO gA (pv 0) (pv 1) (cm _)))))))),?_⟩;walk
 refine comp_in ?_;walk;refine⟨l,_,rfl,SqL.of hl,fun p fp=>?_⟩;generalize eH:upd H p _=H1;have S1:aZ H H1:=eH▸aZ.upd fp;have ep:H1 p=some (.lst []):=eH▸ay;clear eH;walk;refine⟨l,p,rfl,⟨_,SqL.of (S1 _ _ hl)⟩,⟨_,SqL.of ep⟩,?_⟩
 refine dQ (J:=ItZ K l p) (H1:=H1) 0 (fun R z=>z) (fun D i H2=>aZ H1 H2/\H2 D=some (.lst [])) (fun D fD=>⟨aZ.upd fD,ay⟩) (fun D i H2 fD lt _=>aY lt (Nat.not_lt_zero _)) (fun D H2 fD ⟨S2,eD⟩=>?_);refine⟨⟨_,_,SqL.of (S2 _ _ (S1 _ _ hl)),SqL.of (S2 _ _ ep),.inr rfl⟩,?_⟩;walk;exact⟨D,[],rfl,eD,k H2 (S1.trans S2)⟩
theorem wE:Ok F F.r.d_is_answered 4 spAns1:=by
 refine F.r.d_is_answered.go fun sc H Q hr h=>?_;obtain⟨a,rfl,ha,k⟩:=h
 refine⟨_,(am (dX sc 5 (pix bT (pv 0) ai))
  (am (bF (pc cw (pv 5) bv) gM aW)
  (am (bF (ci (bH (bM (rp F) hr (pa3 (pv 2) (br dh (pv 1) ai) (pv 3)))))
   (aw (aL cO))
   aW)
  (am (bF (pc cw (pv 5) bv) gM aW)
  (am (bF (iS gV (pv 5) (bR (pa2 bv bv)) (by with_unfolding_all rfl)) gM aW)
  (aw (aL (iT (bO iB (pv 4) dY (cm _)) (cI (bM (uC F) hr (pa1 (pv 4)))))))))))),?_⟩
 walk;refine eB (by decide) ?_;walk;refine⟨.int 1,_,1,1,rfl,.int 1,?_⟩;walk;refine kZ (c:=false) rfl (cG ?_);walk;refine eB (by decide) ?_;walk;refine⟨sz,fun p fp=>?_⟩;refine⟨p,_,rfl,.inr (SqT.of ay),rfl,rfl,?_⟩;walk;refine kZ (c:=false) rfl (cG ?_);walk;refine⟨rfl,?_⟩;walk;refine cG ?_;walk;exact⟨.int 1,_,rfl,.int 1,k _ (aZ.upd fp)⟩
theorem uG:Ok F F.r.d_is_history_row 8 spRow1:=by
 obtain⟨t_MANY_IN_ROW,c_MANY_IN_ROW⟩:=F.r.T.c_row;refine F.r.d_is_history_row.go fun sc H Q hr h=>?_;obtain⟨r,a,rfl,x,k⟩:=h
 refine⟨_,(am (bF (PW.pt (eF (ci (bH (aN bZ rfl F.r.T.n_isinstance bA (pa2 (pv 0) (cF (v:=.ty "tuple") rfl F.r.T.n_tuple e_ rfl))))) (dL (pc jJ (aN bE rfl F.r.T.n_len d7 (pa1 (pv 0))) (fq (v:=.int (6)) rfl c_MANY_IN_ROW ⟨t_MANY_IN_ROW,rfl⟩)))))
   (aw (aL cO))
   aW)
  (am (gp (pv 0) (fh rfl (bq (fk sc 1) (bq (fk sc 2) (bq (fk sc 3) (bq (fk sc 4) (bq (fk sc 5) (bq (fk sc 6) dB))))))))
  (am (bF (PW.pt (eF (ci (bH (bM (wz F) hr (pa1 (pv 1))))) (eF (ci (bH (bM (mZ F) hr (pa1 (pv 2))))) (eF (ci (bH (bM (wz F) hr (pa1 (pv 3))))) (dL (ci (bH (bM (uB F) hr (pa1 (pv 5))))))))))
   (aw (aL cO))
   aW)
  (aw (aL (bM (wE F) hr (pa5 (pv 2) (pv 3) (pv 4) (pv 5) (pv 6)))))))),?_⟩
 walk;refine⟨.ref r,_,_,true,rfl,.tup x.r,.inl ⟨"tuple",rfl,by kernel_rfl⟩,?_⟩;walk;refine⟨r,_,rfl,.inr (SqT.of x.r),?_⟩;walk;refine iteNX (aq rfl) ?_;have xr:=x.r;walk;refine⟨.int 0,_,rfl,.int 0,?_⟩;walk;refine iteNX rfl ?_;walk;refine⟨_,.ref a,_,rfl,ow x.a,fun H1 S1=>?_⟩;walk;refine iteNX (by decide +kernel) ?_;walk;refine⟨.int 0,_,rfl,.int 0,?_⟩;walk;refine iteNX rfl ?_;walk
 refine⟨.int 1,_,rfl,.int 1,?_⟩;walk;refine iteNX rfl ?_;walk;exact⟨a,rfl,S1 _ _ x.a,fun H' S=>k H' (S1.trans S)⟩
theorem rE:Ok F F.r.d_deeds_of 1 spDeeds:=by
 refine F.r.d_deeds_of.go fun sc H Q hr h=>?_;obtain⟨r,a,rfl,x,k⟩:=h;have xr:=x.r;have xa:=x.a
 refine⟨_,(am (gp (pv 0) (fh rfl (bq (dC (i:=1) sc.nd rfl (Or.inr rfl)) (bq (fk sc 2) (bq (fk sc 3) (bq (fk sc 4) (bq (fk sc 5) (bq (fk sc 6) dB))))))))
  (am (bF (pc jJ (pix bT (pv 2) ai) bv)
   (aw (aL (bD (pa1 (bR (pa4 (pv 4) (pv 1) (pv 2) (pv 6)))))))
   aW)
  (aw qS))),?_⟩
 walk;refine cU (by decide) ?_;walk;refine ef fun t H1 ft S1 et=>?_;walk;exact⟨sz,fun l fl=>k t H1 l ft S1 et fl⟩
def Am:Str:="ordered_deeds.<locals>." ++ "<lambda>"
def iK (c:Cs)(H:Hp):Prop:=Tab H c.PT ⟨147,29,147,49⟩ Am
theorem iK.kb (t:iK c H)(S:aZ H H'):iK c H':=by
 rcases t with e|⟨c',e,ec⟩
 ·exact .new (S _ _ e)
 ·exact .old c' (S _ _ e) (S _ _ ec)
theorem iK.ne (t:iK c H)(e:H b=some u)(n:∀ps,u≠.tbl ps):b≠c.PT:=fun z=>by
 subst z;rcases t with e2|⟨c',e2,_⟩<;>(rw[e] at e2;cases e2;exact n _ rfl)
inductive spOrd (c:Cs)(vs:List V)(H:Hp)(Q:VK)(E:XK):Prop
 | mk (l r a:Addr):vs=[.ref l]->H l=some (.lst [.ref r])->Row H r a->iK c H->l≠c.PT->r≠c.PT->a≠c.PT ->
   (∀t m H',H t=none->H m=none->KB c.PT H H'->iK c H'->H' t=some (.tup [.int 1,.int 0,.ref a,.int 1])->H' m=some (.lst [.ref t])->Q (.ref m) H')->spOrd c vs H Q E
theorem yV {oc' od' osl'}(a:K.lookup f=some ⟨oc,od,.func fd,osl⟩)(b:K.lookup f=some ⟨oc',od',.func fd',osl'⟩):fd=fd':=by rw[a] at b;cases b;rfl
theorem uF:Ok F F.r.d_are_history_rows 9 spRows:=by
 refine F.r.d_are_history_rows.go fun sc H Q hr h=>?_;obtain⟨l,r,a,rfl,hl,x,k⟩:=h
 refine⟨_,(am (bF (PW.pt (eF (ci (bH (aN bZ rfl F.r.T.n_isinstance bA (pa2 (pv 0) (cF (v:=.ty "list") rfl F.r.T.n_list eR rfl))))) (dL (ci (bH (aN (eP (hr.hd rfl)) rfl F.r.T.n_all j6 (pa1 (gQ (eh [] []) rfl (cZ (pv 0)) (fun _ _ _ _ _=>PTs.nil) (fun _ _ _ _ _=>(bM (uG F) hr (pa1 (pv 0))))))))))))
   (aw (aL cO))
   aW)
  (aw (aL (bM (mj F) hr (pa1 (gQ (eh [] []) rfl (cZ (pv 0)) (fun _ _ _ _ _=>PTs.nil) (fun _ _ _ _ _=>(pix (pR (K:=K) rfl) (pv 0) ai)))))))),?_⟩
 walk;refine⟨_,_,_,true,rfl,.lst hl,.inl ⟨"list",rfl,by kernel_rfl⟩,?_⟩;walk;refine comp_in ?_;walk;refine dQ (J:=Itl K l) (H1:=H) 1 (fun R z=>z) (fun D i H2=>aZ H H2/\H2 D=some (.lst (replicate i (.bl true)))) (fun D fD=>⟨aZ.upd fD,ay⟩) (fun D i H2 fD lt ⟨S2,eD⟩=>?_) (fun D H2 fD ⟨S2,eD⟩=>?_)
 ·have i0:i=0:=by lia
  subst i0;have hl2:=S2 _ _ hl;refine⟨hV hl2 one_pos,fun v H3 yl R zz=>?_⟩;obtain⟨rfl,ev⟩:=fE hl2 yl;cases ev;refine dk ?_;unfold pL;walk;refine⟨r,a,rfl,x.same S2,fun H4 S4=>?_⟩;exact⟨_,S4 _ _ eD,by decide,zz _ ⟨im (S2.trans S4) fD,ay⟩⟩
 ·refine⟨d9 (S2 _ _ hl),?_⟩;walk;refine⟨D,[true],rfl,eD,?_⟩;walk;refine cG ?_;walk;have hl2:=S2 _ _ hl;have x2:=x.same S2;refine comp_in ?_;walk;refine dQ (J:=Itl K l) (H1:=H2) 1 (fun R z=>z) (fun D i H3=>aZ H2 H3/\H3 D=some (.lst (replicate i (.int 0)))) (fun D fD=>⟨aZ.upd fD,ay⟩) (fun D i H3 fD lt ⟨S3,eD⟩=>?_) (fun D H3 fD ⟨S3,eD⟩=>?_)
  ·have i0:i=0:=by lia
   subst i0;have hl3:=S3 _ _ hl2;refine⟨hV hl3 one_pos,fun v H4 yl R zz=>?_⟩;obtain⟨rfl,ev⟩:=fE hl3 yl;cases ev;refine dk ?_;unfold pL;walk;refine oB (S3 _ _ x2.r) (da (j:=0) rfl) ?_;exact⟨_,eD,by decide,zz _ ⟨im S3 fD,ay⟩⟩
  ·refine⟨d9 (S3 _ _ hl2),?_⟩;walk;exact⟨D,0,rfl,eD,fun H4 S4=>k H4 (S2.trans (S3.trans S4))⟩
theorem uW {kV}{N ps:List Str}{k:Nat}
  (lk:K.lookup f=some ⟨oc,od,.func (fnOf x x (cf st) (bP st) (aO st) .none kV doc pm an cdv ct),osl⟩) (hcd:codeIn K cdv x=true) (S:FnScope N ps (aO st)) (len:∀vs H Q E,sp vs H Q E->vs.length=ps.length)
  (hbody:∀(A:Around) (outer:List Env) (s:Shared) (H:Hp) (vs:List V) (Q:VK) (E:XK),RoomG true k (A.deeper (PyProof.Rows.envOfC x (aO st) s.heap.objs.size f cdv))->sp vs H Q E ->
   ∃t,PSs (ir true CX0 P w K mg base N x (aO st) f cdv A outer s H E) (bP st) t/\t { nx:=fun _ H'=>Q .non H',rt:=Q } (start N vs) H) :
  FnOkG true P w K mg base CX0 (k+1) f (fnOf x x (cf st) (bP st) (aO st) .none kV doc pm an cdv ct) ps sp:=uV lk hcd S len hbody
theorem mY:Ok F F.r.d_ordered_deeds 3 (spOrd c):=by
 obtain⟨f,fd,D⟩:=F.r.d_ordered_deeds;obtain⟨f',oc,od,kV,doc,pm,an,ct,osl,m',lk,hcd,_⟩:=F.tb.fn;cases i6 D.m m';refine⟨f,fd,D,?_⟩;obtain⟨oc',od',kV',doc',pm',an',cdv',ct',osl',e,lk',hcd'⟩:=D.fn.ex;rw[<- yV lk lk'];clear lk' hcd' e
 refine uW (st:=top 39) lk hcd (N:=["rows","deeds"]) (ps:=["rows"]) ⟨rfl,rfl,rfl,by decide +kernel,rfl,by decide +kernel,by decide +kernel⟩ (fun vs H Q E h=>by cases h;subst_vars;rfl) fun A outer s H vs Q E hr hsp=>?_;obtain⟨l,r,a,rfl,hl,x,tb,nl,nr,na,k⟩:=hsp
 have sc:FnScope ["rows","deeds"] ["rows"] (aO (top 39)):=⟨rfl,rfl,rfl,by decide +kernel,rfl,by decide +kernel,by decide +kernel⟩;have hcd:(ir true CX0 P w K mg base ["rows","deeds"] "ordered_deeds" (aO (top 39)) f (.ref c.cc) A outer s H E).env.code=.ref c.cc:=rfl
 refine⟨_,(am (oI (i:=1) (eh [] []) rfl (cZ (pv 0)) (fun _ _ _ _ _=>PTs.nil) (fun _ _ _ _ _=>(qU (K:=K) rfl (bM (rE F) hr (pa1 (pv 0))))) (fun _ _ _ _ _=>PTs.nil) (fun _ _ _ _ _=>(pv 1)) sc.nd rfl rfl)
  (aw (aL (oQ (nz hr) rfl F.r.T.n_sorted eQ (pa1 (pv 1)) (um (wj (x:=⟨⟨147,36,147,40⟩,⟨147,42,147,46⟩,⟨147,47,147,48⟩,⟨147,42,147,49⟩⟩) (pos:=⟨147,29,147,49⟩) hcd F.tb.hC F.tb.hb F.tb.hg) wb))))),?_⟩
 walk;refine comp_in ?_;walk;refine dQ (J:=Itl K l) (H1:=H) 1 (fun R z=>z) (fun D i H2=>aZ H H2/\((i=0/\H2 D=some (.lst []))\/(i=1/\∃t,An3 (H t=none) (H2 t=some (.tup [.int 1,.int 0,.ref a,.int 1])) (H2 D=some (.lst [.ref t]))))) (fun D fD=>⟨aZ.upd fD,.inl ⟨rfl,ay⟩⟩) (fun D i H2 fD lt ⟨S2,y⟩=>?_) (fun D H2 fD ⟨S2,y⟩=>?_)
 ·rcases y with⟨rfl,eD⟩|⟨rfl,_⟩
  ·have hl2:=S2 _ _ hl;refine⟨hV hl2 one_pos,fun v H3 yl R zz=>?_⟩;obtain⟨rfl,ev⟩:=fE hl2 yl;cases ev;refine fun o=>dk ?_;unfold pNL yS;walk;refine⟨r,a,rfl,x.same S2,fun t H4 l2 ft S4 et fl2=>?_⟩;generalize eH:upd H4 l2 _=H5;have S5:aZ H4 H5:=eH▸aZ.upd fl2;have el2:H5 l2=some (.lst [.ref t]):=eH▸ay;clear eH;have eD5:=S5 _ _ (S4 _ _ eD);have et5:=S5 _ _ et;walk
   refine⟨fun j m σ' H6=>An3 (m=1 - j) (j<=1) ((j=0->σ'=[some (.ref r),o]++rst [] (L2.start ["rows","deeds"] [V.ref l])/\H6=H5)/\(j=1->(∃u,σ'=([some (.ref r),o]++rst [] (L2.start ["rows","deeds"] [V.ref l])).set 1 u)/\R H6/\H6 l2=some (.lst [.ref t]))),⟨1,rfl,zero_le _,⟨fun _=>⟨rfl,rfl⟩,fun z=>nomatch z⟩⟩,fun j m σ' H6 ⟨em,lj,w0,w1⟩=>?_⟩;by_cases j0:j=0
   ·subst j0;obtain⟨rfl,rfl⟩:=w0 rfl;refine .inr ⟨hV el2 one_pos,fun v H7 yl2=>?_⟩;obtain⟨rfl,ev⟩:=fE el2 yl2;cases ev;walk;have nl:l2≠D:=fun z=>by subst z;rw[eD5] at el2;cases el2
    have q1:=zz (upd _ D (.lst ([]++[.ref t]))) ⟨im (S2.trans (S4.trans S5)) fD,.inr ⟨rfl,t,S2.free ft,(aE (fun z=>by subst z;rw[eD5] at et5;cases et5)).trans et5,ay⟩⟩;refine⟨_,eD5,by decide,0,by lia,rfl,aD _,⟨fun z=>aY z (by decide),fun _=>⟨⟨_,rfl⟩,q1,(aE nl).trans el2⟩⟩⟩
   ·have j1:j=1:=by lia
    subst j1;obtain⟨q1,q2,q3⟩:=w1 rfl;exact .inl ⟨d9 q3,q1,q2⟩
  ·exact aY lt (Nat.lt_irrefl _)
 ·rcases y with⟨z,_⟩|⟨_,t,ft,et,eD⟩
  ·cases z
  ·refine⟨d9 (S2 _ _ hl),?_⟩;walk;unfold zB;have ndt:D≠t:=fun z=>by subst z;rw[eD] at et;cases et
   have nP:∀{b:Addr} {u:HO},H2 b=some u->(∀ps,u≠.tbl ps)->b≠c.PT:=fun {b u} e n z=>by
    subst z;have t2:=tb.kb S2;rcases t2 with e2|⟨c',e2,_⟩
    ·rw[e] at e2;cases e2;exact n _ rfl
    ·rw[e] at e2;cases e2;exact n _ rfl
   refine⟨tb.kb S2,fun g H3 fg tb3 lm k3=>?_⟩;have eD3:=k3 _ _ (nP eD fun _=>by simp) eD;have et3:=k3 _ _ (nP et fun _=>by simp) et;walk;refine⟨D,g,[t],[1],_,_,⟨rfl,rfl⟩,SqL.of eD3,rfl,Nat.lt_of_succ_le (le_of_ble_eq_true rfl),fun i u k e1 e2=>?_,lm,fun ps pp _ m fm=>?_⟩
   ·cases i with
    | zero=>cases e1;cases e2;exact⟨_,et3⟩
    | succ i=>cases e1
   ·cases List.perm_singleton.mp pp;have S3:aZ H3 (upd H3 m (.lst [.ref t])):=aZ.upd fm;have kb:KB c.PT H (upd H3 m (.lst [.ref t])):=fun b u z n=>S3 _ _ (k3 _ _ n (S2 _ _ z));refine k t m _ ft ?_ kb (iK.kb tb3 S3) (S3 _ _ et3) ay;cases z:H m with
    | none=>rfl
    | some u=>
     by_cases nm:m=c.PT
     ·subst nm;rcases tb3 with e2|⟨c',e2,_⟩<;>(rw[fm] at e2;cases e2)
     ·have:=k3 _ _ nm (S2 _ _ z);rw[fm] at this;cases this
inductive spAgr (c:Cs)(vs:List V)(H:Hp)(Q:VK)(E:XK):Prop
 | mk (x g a:Addr):vs=[.ref x,.ref a,.int 1]->IsP c H x g [(1,1)]->H a=some (.tup (Cl.vs (.put 1 2)))->(∀H',KB g H H'->Q (.bl true) H')->spAgr c vs H Q E
inductive spShow (c:Cs)(vs:List V)(H:Hp)(Q:VK)(E:XK):Prop
 | mk (p q l r a:Addr):vs=[.ref p,.ref l]->H p=some (.lst [.ref q])->H q=some (.tup [.int 1,.int 1])->H l=some (.lst [.ref r])->Row H r a->iK c H ->
   (∀H',KB c.PT H H'->iK c H'->Q (.bl true) H')->spShow c vs H Q E
theorem pj:Ox F F.r.d_agrees 9 (spAgr c):=by
 have C_Plain:=F.cP;refine F.r.d_agrees.gox fun sc H Q E hr h=>?_;obtain⟨x,g,a,rfl,Y,ha,k⟩:=h;obtain⟨dx,hx⟩:=Y.x;refine⟨_,(aw (aL (iT (bM (gq F) hr (pa1 (pv 1))) (cI (bO cw (yM (pv 0) C_Plain (wD F) eW hr (pa1 (pv 1))) (pv 2) (cm _)))))),?_⟩;walk;refine⟨_,.ref a,_,rfl,ow ha,fun H1 S1=>?_⟩;walk
 refine kZ (c:=false) (by decide +kernel) (cG ?_);walk;obtain⟨s,hs⟩:=jz (ps:=[(1,1)]) (by decide);refine⟨fun _=>False,x,g,[(1,1)],.ref a,.tuple (Cl.ds (.put 1 2)),rfl,⟨⟨dx,S1 _ _ hx⟩,S1 _ _ Y.g⟩,le_of_ble_eq_true rfl,by decide,ow (S1 _ _ ha),fun q e _ _ s so y H2 dv kb _=>?_,fun z=>aY z (by decide +kernel)⟩;cases q with
 | put k g'=>
  cases e;cases dv;walk;exact k H2 (KB.trans S1.kb kb)
 | find k=>cases e
 | take k=>cases e
 | span b lo hi=>cases b<;>cases e
theorem rq:Ox F F.r.d_shows_history 12 (spShow c):=by
 obtain⟨f,fd,XPlain⟩:=F.PX;have GPlain:=iX F XPlain;refine F.r.d_shows_history.gox fun sc H Q E hr h=>?_;obtain⟨p,q,l,r,a,rfl,hp,hq,hl,x,tb,k⟩:=h
 refine⟨_,(am (cE (wk (o7 F) eW hr (pa1 (pv 0))))
  (am (bF (ci (bH (bM (uF F) hr (pa1 (pv 1)))))
   (aw (aL cO))
   aW)
  (am (dX sc 2 (bM (mY F) hr (pa1 (pv 1))))
  (am (bF (ci (bH (bM (mj F) hr (pa1 (gQ (eh [] []) rfl (cZ (pv 2)) (fun _ _ _ _ _=>PTs.nil) (fun _ _ _ _ _=>(pix (pR (K:=K) rfl) (pv 0) ai)))))))
   (aw (aL cO))
   aW)
  (am (iz (i:=3) sc.nd rfl (Or.inr rfl) (gN XPlain.mak GPlain (hr.mono (by decide)) rfl XPlain.m XPlain.bi .nil eW.pass (pa1 (pv 0))))
  (aw (aL (aN (eP (hr.hd rfl)) rfl F.r.T.n_all j6 (pa1 (rj (eh ["store"] [3]) rfl (cZ (pv 2)) (fun _ _ _ _ _=>PTs.nil) (fun _ _ _ _ _=>(wl (pj F) oR hr (pa3 (pv 4) (pv 2) (pv 3)))))))))))))),?_⟩
 walk;have dvp:∀{H':Hp},aZ H H'->DV (fun _=>False) H' (.ref p) (.list [.tuple [.int 1,.int 1]]):=fun S=>.lst (fun z=>z) (S _ _ hp) (.cons (.tup (fun z=>z) (S _ _ hq) (.cons (.int _) (.cons (.int _) .nil))) .nil);refine⟨_,.ref p,_,rfl,dvp (aZ.refl _),by decide,fun _ H1 S1=>?_,fun z=>aY z (by decide +kernel)⟩;walk;refine⟨l,r,a,rfl,S1 _ _ hl,x.same S1,fun H2 S2=>?_⟩;have S02:=S1.trans S2
 have nP:∀{b:Addr} {u:HO},H b=some u->(∀ps,u≠.tbl ps)->b≠c.PT:=fun e n=>tb.ne e n;walk;refine⟨l,r,a,rfl,S02 _ _ hl,x.same S02,tb.kb S02,nP hl fun _=>by simp,nP x.r fun _=>by simp,nP x.a fun _=>by simp,fun t m H3 ft fm k3 tb3 et em=>?_⟩;have k03:∀{b:Addr} {u:HO},H b=some u->(∀ps,u≠.tbl ps)->H3 b=some u:=fun e n=>k3 _ _ (S02 _ _ e) (nP e n);walk;refine comp_in ?_;walk
 refine dQ (J:=Itl K m) (H1:=H3) 1 (fun R z=>z) (fun D i H4=>aZ H3 H4/\H4 D=some (.lst (replicate i (.int 1)))) (fun D fD=>⟨aZ.upd fD,ay⟩) (fun D i H4 fD lt ⟨S4,eD⟩=>?_) (fun D H4 fD ⟨S4,eD⟩=>?_)
 ·have i0:i=0:=by lia
  subst i0;have hm4:=S4 _ _ em;refine⟨hV hm4 one_pos,fun v H5 yl R zz=>?_⟩;obtain⟨rfl,ev⟩:=fE hm4 yl;cases ev;refine dk ?_;unfold pL;walk;exact⟨_,eD,by decide,zz _ ⟨im S4 fD,ay⟩⟩
 refine⟨d9 (S4 _ _ em),?_⟩;walk;refine⟨D,1,rfl,eD,fun H5 S5=>?_⟩;have S35:=S4.trans S5;have k05:∀{b:Addr} {u:HO},H b=some u->(∀ps,u≠.tbl ps)->H5 b=some u:=fun e n=>S35 _ _ (k03 e n);walk;intro y dy fy fdy nd;have S6:aZ H5 (upd (upd H5 dy (.own y)) y (.ins c.P dy [])):=fun b o q=>kO fy fdy q;generalize eH:upd (upd H5 dy (.own y)) y _=H6 at S6 ⊢
 have ey:H6 y=some (.ins c.P dy []):=eH▸ay;clear eH;have k06:∀{b:Addr} {u:HO},H b=some u->(∀ps,u≠.tbl ps)->H6 b=some u:=fun e n=>S6 _ _ (k05 e n)
 refine⟨fun _=>False,y,dy,.ref p,_,rfl,ey,.lst (fun z=>z) (k06 hp fun _=>by simp) (.cons (.tup (fun z=>z) (k06 hq fun _=>by simp) (.cons (.int 1) (.cons (.int 1) .nil))) .nil),by decide,fun _ ps ed pr pw H7 g S7 fg=>?_,fun z=>aY z (by decide +kernel)⟩;walk;refine⟨rfl,?_⟩
 have e11:ps=[(1,1)]:=by
  match ps,ed with
  | [(u,v)],ed=>
   have ed:[PyData.tuple [.int 1,.int 1]]=[PyData.tuple [.int u,.int v]]:=ed;injection ed with h _;injection h with h;injection h with h1 h;injection h1 with h1;injection h with h2 _;injection h2 with h2;subst h1 h2;rfl
  | [],ed=>cases ed
  | _::_::_,ed=>have:=bL List.length ed;simp[fQ] at this
 subst e11;have ngy:g≠y:=fun z=>by subst z;rw[S7 _ _ ey] at fg;cases fg
 generalize eH:upd (upd H7 g _) y _=H8
 have S8:aZ H5 H8:=fun b u e=>by
  rw[<- eH,aE (ao e fy),aE (ao (S7 _ _ (S6 _ _ e)) fg)];exact S7 _ _ (S6 _ _ e)
 have ey8:H8 y=some (.ins c.P dy [("good_by_key",.ref g)]):=eH▸ay;have eg8:H8 g=some (.dK (kL [(1,1)])):=by rw[<- eH,aE ngy,ay]
 clear eH;have g5:H5 g=none:=(S7.free fg:H6 g=none) |> S6.free
 have em5:=S35 _ _ em;have et5:=S35 _ _ et;have ea5:=k05 x.a fun _=>by simp
 walk;refine comp_in ?_;walk;refine dQ (J:=Itl K m) (H1:=H8) 1 (fun R z=>z) (fun D i H9=>An3 (KB g H8 H9) (i=0->aZ H8 H9) (H9 D=some (.lst (replicate i (.bl true))))) (fun D fD=>⟨(aZ.upd fD).kb,fun _=>aZ.upd fD,ay⟩) (fun D i H9 fD lt ⟨kb,S9,eD⟩=>?_) (fun D H9 fD ⟨kb,S9,eD⟩=>?_)
 ·have i0:i=0:=by lia
  subst i0;have S9:=S9 rfl;have hm9:=S9 _ _ (S8 _ _ em5);refine⟨hV hm9 one_pos,fun v H10 yl R zz=>?_⟩;obtain⟨rfl,ev⟩:=fE hm9 yl;cases ev;refine⟨t,_,_,_,_,rfl,SqT.of (S9 _ _ (S8 _ _ et5)),dk ?_⟩;unfold pL;walk;refine⟨y,g,a,rfl,⟨⟨dy,S9 _ _ ey8⟩,S9 _ _ eg8⟩,S9 _ _ (S8 _ _ ea5),fun H11 kb2=>?_⟩;have nDg:D≠g:=fun z=>by subst z;rw[eg8] at fD;cases fD
  refine⟨_,kb2 _ _ eD nDg,by decide,zz _ ⟨fun b u e n=>?_,fun z=>(nomatch z),ay⟩⟩;rw[aE (ao e fD)];exact kb2 _ _ (S9 _ _ e) n
 have S59:aZ H5 H9:=kb.same S8 g5;refine⟨d9 (S59 _ _ em5),?_⟩;walk;exact⟨D,[true],rfl,eD,k H9 (fun b u e n=>S59 _ _ (S35 _ _ (k3 _ _ (S02 _ _ e) n))) ((tb3.kb S35).kb S59)⟩
inductive spGood (vs:List V)(H:Hp)(Q:VK)(E:XK):Prop
 | mk (p:Addr)(n:Nat):vs=[.ref p]->Box H p n->n+2<=1000000->(∀g H',gB g->Box H' p (n+2)->KB p H H'->Q (.int g) H')->spGood vs H Q E
inductive spPairs (vs:List V)(H:Hp)(Q:VK)(E:XK):Prop
 | mk (p:Addr)(n:Nat)(m:Int):vs=[.ref p,.int m]->Box H p n->0<=m->m<=400->n+2000<=1000000 ->
   (∀l ts ps H',ps.length=m.toNat->ps.Pairwise plt->(∀x∈ps,PrR x)->H l=none->H' l=some (.lst (ts.map V.ref))->fj H' ts ps->(∀t∈ts,H t=none)->Box H' p (n+2000)->KB p H H'->Q (.ref l) H')->spPairs vs H Q E
theorem pf:Ok F F.r.d__law_good 2 spGood:=by
 refine F.r.d__law_good.go fun sc H Q hr h=>?_;obtain⟨p,n,rfl,b,hn,k⟩:=h
 refine⟨_,(am (dX sc 1 (bM (bG F) hr (pa2 (pv 0) ai)))
  (aw (aL (iU (pc gA (pv 1) ai) (pix bz (bD (pa3 (br cY (br dj ai ai) ai) (br cY ai (br dj ai ai)) ai)) (pv 1)) (br cY (bM (bG F) hr (pa2 (pv 0) ai)) ai))))),?_⟩
 walk;refine⟨p,5,n,rfl,b,by lia,by decide,by decide,fun r H1 r0 r1 b1 k1=>?_⟩;walk;refine iq (fun h0=>?_) (fun h0=>?_)
 ·have h1:=aU h0;walk;refine dS fun l H2 fl S2 e2=>?_;walk;obtain⟨z,hz,e⟩:=dN (ns:=[10 ^ toNat 9 - 1,1 - 10 ^ toNat 9,0]) r0 (by simp;lia);refine df e2 e ?_;refine k z H2 ?_ ((b1.same S2).mono (by lia)) (KB.trans k1 S2.kb);simp only[aV,aP,or_false] at hz;rcases hz with rfl|rfl|rfl<;>exact⟨by decide +kernel,by decide +kernel⟩
 ·walk;refine⟨p,41,n+1,rfl,b1,by lia,by decide,by decide,fun r2 H2 r20 r21 b2 k2=>?_⟩;walk;exact k _ H2 ⟨by lia,by lia⟩ b2 (KB.trans k1 k2)
theorem jM:Ok F F.r.d__law_pairs 4 spPairs:=by
 refine F.r.d__law_pairs.go fun sc H Q hr h=>?_;obtain⟨p,n,m,rfl,b,m0,m1,hn,k⟩:=h
 refine⟨_,(am (dX sc 2 (bM (bG F) hr (pa2 (pv 0) ai)))
  (am (dX sc 3 (pix bz (bD (pa4 ai ai ai ai)) (bM (bG F) hr (pa2 (pv 0) ai))))
  (am (dX sc 4 (br cY (bM (bG F) hr (pa2 (pv 0) ai)) ai))
  (am (bF (pc cw (pv 2) ai)
   (aw (dX sc 4 (oO lI (br dj ai ai))))
   aW)
  (am (bF (pc cw (pv 2) ai)
   (aw (dX sc 4 (br cY (br cY (br dj ai ai) ai) (br me (pv 1) (pv 3)))))
   aW)
  (am (dX sc 5 (bD ck))
  (am (gn PassesOwn.never rfl (jF rfl F.r.T.n_range (pa1 (pv 1))) (fk sc 6)
   (am (dX sc 4 (br dh (br dh (pv 4) ai) (bM (bG F) hr (pa2 (pv 0) (pv 3)))))
  (aw (cE (kG cg PySem.F.slot_list_append PySem.F.type_list_append cR (pv 5) (pa1 (bR (pa2 (pv 4) (bM (pf F) hr (pa1 (pv 0)))))))))))
  (aw (aL (pv 5)))))))))),?_⟩
 walk;refine⟨p,4,n,rfl,b,by lia,by decide,by decide,fun wy H1 w0 w1 b1 k1=>?_⟩;walk;refine dS fun l1 H2 f1 S1 e1=>?_;walk;have b2:=b1.same S1;refine⟨p,4,n+1,rfl,b2,by lia,by decide,by decide,fun r2 H3 r20 r21 b3 k3=>?_⟩;obtain⟨st,hst,est⟩:=dN (ns:=[1,2,5,1000]) r20 (by simp;lia)
 have hs:1<=st/\st<=1000:=by
  simp only[aV,aP,or_false] at hst;rcases hst with rfl|rfl|rfl|rfl<;>decide
 have e13:H3 l1=some (.lst [.int 1,.int 2,.int 5,.int 1000]):=k3 _ _ e1 (fun z=>by subst z;exact b1.ne f1 rfl);refine df e13 est ?_;walk;refine⟨p,60,n+2,rfl,b3,by lia,by decide,by decide,fun r4 H4 r40 r41 b4 k4=>?_⟩;walk;have mst:0<=m * st/\m * st<=400000:=⟨Int.mul_nonneg m0 (by lia),Int.le_trans (Int.mul_le_mul m1 hs.2 (by lia) (by decide)) (by decide)⟩
 have p9:(10:Int) ^ toNat 9=1000000000:=by decide +kernel
 rcases(show wy=0\/wy=1\/2<=wy by lia) with rfl|rfl|hw
 case' inl=>
  refine jt rfl ?_;walk;refine eB (by decide) ?_;walk;have kb:-1000000000 <= -(10:Int) ^ toNat 9/\-(10:Int) ^ toNat 9+m * st<=999999999:=by rw[p9];lia
  generalize -(10:Int) ^ toNat 9=k0 at *
 case' inr.inl=>
  refine eB (by decide) ?_;walk;refine jt rfl ?_;walk;refine q_i (.inl (by lia)) ?_;walk;have kb:-1000000000<=(10:Int) ^ toNat 9 - 1 - m * st/\(10:Int) ^ toNat 9 - 1 - m * st+m * st<=999999999:=by rw[p9];lia
  generalize (10:Int) ^ toNat 9 - 1 - m * st=k0 at *
 case' inr.inr=>
  refine eB (fun z=>by have:=V.int.inj z;lia) ?_;walk;refine eB (fun z=>by have:=V.int.inj z;lia) ?_;walk;have kb:-1000000000<=r4 - 40/\r4 - 40+m * st<=999999999:=by lia
  generalize r4 - 40=k0 at *
 all_goals
  refine dS fun l H5 fl S5 el=>?_;walk;refine tq (by lia) (by lia) ?_;have nlp:l≠p:=b4.ne fl
  refine oC (fun i σ H6=>∃(o2 o6:Option V) (key:Int) (ts:List Addr) (ps:List (Int×Int)),σ=[some (.ref p),some (.int m),o2,some (.int st),some (.int key),some (.ref l),o6]/\(-1000000000+(i:Int)<=key/\key+(m * st - (i:Int) * st)<=999999999)/\ps.length=i/\ps.Pairwise plt/\(∀x∈ps,PrR x/\x.1<=key)/\H6 l=some (.lst (ts.map V.ref))/\fj H6 ts ps/\(∀t∈ts,H4 t=none)/\Box H6 p (n+3+3 * i)/\KB p H4 H6)
   ⟨_,_,k0,[],[],rfl,⟨by lia,by rw[show ((0:Nat):Int) * st=0 by simp];lia⟩,rfl,.nil,(fun x z=>by cases z),el,⟨rfl,fun j t x e=>by cases e⟩,(fun t z=>by cases z),(b4.same S5).mono (by lia),S5.kb⟩ ?_ ?_
  ·rintro i σ H6 hi ⟨o2,o6,key,ts,ps,rfl,⟨kl,kh⟩,lps,pw,pr,el6,tu,fr,b6,k6⟩;have him:(i:Int)+1<=m:=by lia
   have e1:((i+1:Nat):Int) * st=(i:Int) * st+st:=by rw[Int.natCast_add,Int.add_mul];simp
   have e2:0<=m * st - ((i:Int) * st+st):=by
    have:=Int.mul_nonneg (show 0<=m - ((i:Int)+1) by lia) (show 0<=st by lia);rw[Int.sub_mul,Int.add_mul,Int.one_mul] at this;exact this
   walk;refine⟨p,st,n+3+3 * i,rfl,b6,by lia,by lia,by lia,fun r7 H7 r70 r71 b7 k7=>?_⟩;have el7:=k7 _ _ el6 nlp;walk;refine⟨p,n+3+3 * i+1,rfl,b7,by lia,fun g H8 gr b8 k8=>?_⟩;have el8:=k8 _ _ el7 nlp;walk;refine ef fun t H9 ft S9 et=>?_;have el9:=S9 _ _ el8;have k68:=KB.trans k6 (KB.trans k7 k8);have k69:=KB.trans k68 S9.kb;have ntl:t≠l:=fun z=>by subst z;rw[el8] at ft;cases ft
   have t5:H4 t=none:=bW k68 ft (b8.ne ft);have tnp:∀{u:Addr} {xs:List V},H6 u=some (.tup xs)->u≠p/\u≠l:=fun {u xs} e=>⟨fun z=>(by subst z;obtain⟨ys,ey⟩:=b6.lst;rw[e] at ey;cases ey),fun z=>(by subst z;rw[e] at el6;cases el6)⟩;walk;refine dJ el9 (by rw[au,tu.1,lps];exact aH (m:=401) (by lia) (by decide)) ?_;walk
   refine⟨_,_,key+1+r7,ts++[t],ps++[(key+1+r7,g)],rfl,⟨by lia,by rw[e1];lia⟩,by rw[aB,lps];rfl,?_,?_,?_,?_,?_,?_,?_⟩
   ·refine pairwise_append.mpr ⟨pw,.cons (fun _ z=>by cases z) .nil,fun x hx y hy=>?_⟩;cases a_.mp hy;have:=(pr x hx).2;show x.1<key+1+r7
    lia
   ·intro x hx;rcases ba.mp hx with hx|hx
    ·exact⟨(pr x hx).1,by have:=(pr x hx).2;lia⟩
    ·cases a_.mp hx;exact⟨⟨⟨by show (-999999999:Int)<=key+1+r7;lia,by show key+1+r7<=(999999999:Int);lia⟩,gr⟩,Int.le_refl _⟩
   ·rw[ay,dU];rfl
   ·refine fj.app (tu.keep fun b xs e=>?_) ?_
    ·rw[aE (tnp e).2];exact S9 _ _ (k8 _ _ (k7 _ _ e (tnp e).1) (tnp e).1)
    ·rw[aE ntl];exact et
   ·intro u hu;rcases ba.mp hu with hu|hu
    ·exact fr u hu
    ·cases a_.mp hu;exact t5
   ·exact((b8.same S9).to fun o e=>by rw[aE nlp.symm];exact e).mono (by lia)
   ·intro b o e nb;rw[aE (ao e fl)];exact k69 _ _ e nb
  ·rintro σ H6 ⟨o2,o6,key,ts,ps,rfl,_,lps,pw,pr,el6,tu,fr,b6,k6⟩;walk;have k04:KB p H H4:=KB.trans k1 (KB.trans S1.kb (KB.trans k3 k4));refine k l ts ps H6 lps pw (fun x hx=>(pr x hx).1) (bW k04 fl nlp) el6 tu (fun t ht=>?_) (b6.mono (by lia)) (KB.trans k04 k6);exact bW k04 (fr t ht) (b4.ne (fr t ht))
theorem qu (z:Int):gB (if (if z > 1 - 10 ^ toNat 9 then z else 1 - 10 ^ toNat 9)<10 ^ toNat 9 - 1 then (if z > 1 - 10 ^ toNat 9 then z else 1 - 10 ^ toNat 9) else 10 ^ toNat 9 - 1):=by
 have p9:(10:Int) ^ toNat 9=1000000000:=by decide +kernel
 rw[p9];unfold gB
 repeat' split
 all_goals lia
inductive spKey (vs:List V)(H:Hp)(Q:VK)(E:XK):Prop
 | mk (p a:Addr)(n:Nat)(ns:List Int):vs=[.ref p,.ref a]->Box H p n->n+10<=1000000->H a=some (.lst (ns.map V.int))->ns.length<=1000->a≠p->(∀k H',gB k->Box H' p (n+10)->KB p H H'->Q (.int k) H')->spKey vs H Q E
inductive spLCall (vs:List V)(H:Hp)(Q:VK)(E:XK):Prop
 | mk (p a:Addr)(n:Nat)(ns:List Int):vs=[.ref p,.ref a]->Box H p n->n+30<=1000000->H a=some (.lst (ns.map V.int))->ns.length<=1000->a≠p ->
   (∀q t H',Cl.In q->H t=none->H' t=some (.tup q.vs)->Box H' p (n+30)->KB p H H'->Q (.ref t) H')->spLCall vs H Q E
theorem o_:Ok F F.r.d__law_key 2 spKey:=by
 refine F.r.d__law_key.go fun sc H Q hr h=>?_;have hu:=hr.units0;obtain⟨p,a,n,ns,rfl,b,hn,ha,hz,nap,k⟩:=h
 refine⟨_,(am (dX sc 2 (bM (bG F) hr (pa2 (pv 0) ai)))
  (am (dX sc 3 (pix bz (bD (pa2 (br cY (bM (bG F) hr (pa2 (pv 0) ai)) ai) (pix bz (bD (pa2 (br cY ai (br dj ai ai)) (br cY (br dj ai ai) ai))) (bM (bG F) hr (pa2 (pv 0) ai))))) (cQ j4 rfl F.r.T.n_int mK (pa1 (bO cw (pv 2) ai (cm _))))))
  (am (bF (PW.pt (iy (pc (wq hu) (pv 1) (bD ck)) (gh (pc gA (pv 2) ai))))
   (aw (dX sc 3 (br dh (pix bz (pv 1) (bM (bG F) hr (pa2 (pv 0) (aN bE rfl F.r.T.n_len d7 (pa1 (pv 1)))))) (pix bz (bD (pa3 ai ai (br cY (bM (bG F) hr (pa2 (pv 0) ai)) ai))) (pv 2)))))
   aW)
  (aw (aL (aN (ig rfl) rfl F.r.T.n_min qA (pa2 (br cY (br dj ai ai) ai) (aN (gb rfl) rfl F.r.T.n_max mJ (pa2 (br cY ai (br dj ai ai)) (pv 3)))))))))),?_⟩
 walk;refine⟨p,5,n,rfl,b,by lia,by decide,by decide,fun wy H1 w0 w1 b1 k1=>?_⟩;walk;refine⟨p,60,n+1,rfl,b1,by lia,by decide,by decide,fun r2 H2 r20 r21 b2 k2=>?_⟩;walk;refine dS fun l1 H3 f1 S3 e1=>?_;have b3:=b2.same S3;walk;refine⟨p,2,n+2,rfl,b3,by lia,by decide,by decide,fun r4 H4 r40 r41 b4 k4=>?_⟩;have e14:=k4 _ _ e1 (b2.ne f1)
 obtain⟨z2,hz2,ez2⟩:=dN (ns:=[1 - 10 ^ toNat 9,10 ^ toNat 9 - 1]) r40 (by simp;lia);refine df e14 ez2 ?_;walk;refine dS fun l2 H5 f2 S5 e2=>?_;have b5:=b4.same S5;walk;refine .inr ⟨_,rfl,?_⟩;obtain⟨z,hz,ez⟩:=dN (ns:=[r2 - 40,z2]) (r:=if decide (V.int wy=V.int 4)=true then 1 else 0) (by split<;>decide) (by split<;>simp);refine df e2 ez ?_
 have k05:KB p H H5:=KB.trans k1 (KB.trans k2 (KB.trans S3.kb (KB.trans k4 S5.kb)));have ha5:=k05 _ _ ha nap;clear hz ez e2 hz2 ez2 e14 e1;generalize r2 - 40=r2' at *;walk;refine dS fun l3 H6 f3 S6 e3=>?_;have k06:=KB.trans k05 S6.kb;have ha6:=S6 _ _ ha5;have b6:=b5.same S6;refine⟨a,l3,ns.map V.int,[],rfl,rfl,SqL.of ha6,SqL.of e3,by cases ns<;>simp[yQ],?_⟩;walk;by_cases e0:ns=[]
 ·subst e0;refine kZ (c:=false) (by simp[se]) (cG ?_);walk;refine⟨_,_,rfl,?_⟩;walk;exact⟨_,_,rfl,k _ _ (qu z) (b6.mono (by lia)) k06⟩
 ·refine kZ (c:=true) (by rw[ak rfl,r_];simp[e0]) (dk ?_);walk;refine iq (fun h0=>?_) (fun h0=>?_)
  ·have h1:=aU h0;have hl:0<ns.length:=by cases ns with|nil=>exact aY rfl e0|cons _ _=>exact Nat.succ_pos _
   walk;refine⟨a,_,rfl,.inl (SqL.of ha6),?_⟩;rw[au];walk;refine⟨p,ns.length,n+3,rfl,b6,by lia,by lia,by lia,fun r7 H7 r70 r71 b7 k7=>?_⟩;obtain⟨z7,hz7,ez7⟩:=dN (ns:=ns) r70 (by lia);refine df (k7 _ _ ha6 nap) ez7 ?_;walk;refine⟨p,3,n+4,rfl,b7,by lia,by decide,by decide,fun r8 H8 r80 r81 b8 k8=>?_⟩;walk;refine dS fun l9 H9 f9 S9 e9=>?_;walk
   obtain⟨z9,hz9,ez9⟩:=dN (ns:=[0,0,r8 - 1]) w0 (by simp;lia);refine df e9 ez9 ?_;walk;refine⟨_,_,rfl,?_⟩;walk;exact⟨_,_,rfl,k _ _ (qu _) ((b8.same S9).mono (by lia)) (KB.trans k06 (KB.trans k7 (KB.trans k8 S9.kb)))⟩
  ·walk;refine⟨_,_,rfl,?_⟩;walk;exact⟨_,_,rfl,k _ _ (qu z) (b6.mono (by lia)) k06⟩
theorem rD:Ok F F.r.d__law_call 3 spLCall:=by
 refine F.r.d__law_call.go fun sc H Q hr h=>?_;obtain⟨p,a,n,ns,rfl,b,hn,ha,hz,nap,k⟩:=h
 refine⟨_,(am (dX sc 2 (bM (bG F) hr (pa2 (pv 0) ai)))
  (am (sQ (i:=3) (j:=4) rfl sc.nd rfl rfl (by decide) rfl rfl (pa2 (bM (o_ F) hr (pa2 (pv 0) (pv 1))) (bM (o_ F) hr (pa2 (pv 0) (pv 1)))) rfl)
  (am (bF (pc gA (pv 2) ai)
   (aw (aL (bR (pa2 bv (pv 3)))))
   aW)
  (am (bF (pc gA (pv 2) ai)
   (aw (aL (bR (pa3 bv (pv 3) (bM (pf F) hr (pa1 (pv 0)))))))
   aW)
  (am (bF (pc gA (pv 2) ai)
   (aw (aL (bR (pa2 bv (pv 3)))))
   aW)
  (am (sQ (i:=5) (j:=6) rfl sc.nd rfl rfl (by decide) rfl rfl (pa2 (aN (ig rfl) rfl F.r.T.n_min qA (pa2 (pv 3) (pv 4))) (aN (gb rfl) rfl F.r.T.n_max mJ (pa2 (pv 3) (pv 4)))) rfl)
  (am (bF (PW.pt (eF (pc cw (pv 5) (pv 6)) (dL (pc cw (bM (bG F) hr (pa2 (pv 0) ai)) ai))))
   (aw (aL (bR (pa3 (pix bz (bD (pa2 bv bv)) (br cY (pv 2) ai)) (pv 5) dY))))
   aW)
  (aw (aL (bR (pa3 (pix bz (bD (pa2 bv bv)) (br cY (pv 2) ai)) (pv 5) (pv 6)))))))))))),?_⟩
 walk;refine⟨p,9,n,rfl,b,by lia,by decide,by decide,fun wy H1 w0 w1 b1 k1=>?_⟩;walk;refine⟨p,a,n+1,ns,rfl,b1,by lia,k1 _ _ ha nap,hz,nap,fun ky H2 kr b2 k2=>?_⟩;walk;have k02:=KB.trans k1 k2;refine⟨p,a,n+11,ns,rfl,b2,by lia,k02 _ _ ha nap,hz,nap,fun ko H3 kor b3 k3=>?_⟩;have k03:=KB.trans k02 k3
 have ft:∀{t:Addr} {H':Hp},KB p H H'->Box H' p (n+21)->H' t=none->H t=none:=fun kb bx f=>bW kb f (bx.ne f);walk;refine iq (fun h0=>?_) (fun h0=>?_)
 ·walk;refine ef fun t H4 f4 S4 e4=>?_;exact k (.find ky) t H4 kr (ft k03 b3 f4) e4 ((b3.same S4).mono (by lia)) (KB.trans k03 S4.kb)
 walk;refine iq (fun h1=>?_) (fun h1=>?_)
 ·walk;refine⟨p,n+21,rfl,b3,by lia,fun g H4 gr b4 k4=>?_⟩;walk;have k04:=KB.trans k03 k4;refine ef fun t H5 f5 S5 e5=>?_;exact k (.put ky g) t H5 ⟨kr,gr⟩ (bW k04 f5 (b4.ne f5)) e5 ((b4.same S5).mono (by lia)) (KB.trans k04 S5.kb)
 walk;refine iq (fun h2=>?_) (fun h2=>?_)
 ·walk;refine ef fun t H4 f4 S4 e4=>?_;exact k (.take ky) t H4 kr (ft k03 b3 f4) e4 ((b3.same S4).mono (by lia)) (KB.trans k03 S4.kb)
 have hw:7<=wy:=by
  have:=of_decide_eq_false (Bool.eq_false_iff.mpr h2)
  lia
 obtain⟨bw,ew⟩:∃bw:Bool,atI [V.str "parts",V.str "whole"] (wy - 7)=some (.str (wSp bw)):=by
  rcases(show wy=7\/wy=8 by lia) with rfl|rfl
  ·exact⟨false,rfl⟩
  ·exact⟨true,rfl⟩
 walk;refine⟨_,_,rfl,?_⟩;walk;refine⟨_,_,rfl,?_⟩
 have lh:gB (if ko<ky then ko else ky)/\gB (if ko > ky then ko else ky)/\(if ko<ky then ko else ky)<=(if ko > ky then ko else ky):=by
  unfold gB at *;refine⟨?_,?_,?_⟩<;>(repeat' split)<;>lia
 generalize (if ko<ky then ko else ky)=lo at *;generalize (if ko > ky then ko else ky)=hi at *;obtain⟨lr,hr',lh⟩:=lh;walk;refine iq (fun h3=>?_) (fun h3=>?_)
 ·walk;refine dS fun l H4 f4 S4 e4=>?_;walk;refine df e4 ew ?_;walk;refine ef fun t H5 f5 S5 e5=>?_;exact k (.span bw lo none) t H5 ⟨lr,fun h z=>by cases z⟩ (ft k03 b3 (S4.free f5)) e5 (((b3.same S4).same S5).mono (by lia)) (KB.trans k03 (KB.trans S4.kb S5.kb))
 ·have ne:lo≠hi:=fun z=>h3 (by rw[z];exact aq rfl);walk;refine⟨p,4,n+21,rfl,b3,by lia,by decide,by decide,fun r4 H4 r40 r41 b4 k4=>?_⟩;have k04:=KB.trans k03 k4;walk;refine iq (fun h4=>?_) (fun h4=>?_)
  ·walk;refine dS fun l H5 f5 S5 e5=>?_;walk;refine df e5 ew ?_;walk;refine ef fun t H6 f6 S6 e6=>?_;exact k (.span bw lo none) t H6 ⟨lr,fun h z=>by cases z⟩ (bW k04 (S5.free f6) (b4.ne (S5.free f6))) e6 (((b4.same S5).same S6).mono (by lia)) (KB.trans k04 (KB.trans S5.kb S6.kb))
  ·walk;refine dS fun l H5 f5 S5 e5=>?_;walk;refine df e5 ew ?_;walk;refine ef fun t H6 f6 S6 e6=>?_;exact k (.span bw lo (some hi)) t H6 ⟨lr,fun h z=>by cases z;exact⟨hr',by lia⟩⟩ (bW k04 (S5.free f6) (b4.ne (S5.free f6))) e6 (((b4.same S5).same S6).mono (by lia)) (KB.trans k04 (KB.trans S5.kb S6.kb))
inductive spDone (vs:List V)(H:Hp)(Q:VK)(E:XK):Prop
 | mk (d a:Addr)(ps:List (Int×Int))(q:Cl):vs=[.ref d,.ref a]->H d=some (.dK (kL ps))->H a=some (.tup q.vs)->ps.length<=900->(ps.map (·.1)).Nodup ->
   (∀s,Srt s ps->∀y H',DV (Old H) H' y (Cl.ans ps s q)->KB d H H'->H' d=some (.dK (kL (Cl.next ps q)))->Q y H')->spDone vs H Q E
theorem qd {p:Int×Int}(nd:(ps.map (·.1)).Nodup)(h:p∈ps):ke ps p.1=some p.2:=by
 induction ps with
 | nil=>cases h
 | cons x ps ih=>
  unfold ke;rw[bX,eV] at nd;rcases aV.mp h with rfl|h
  ·simp
  ·have ne:x.1≠p.1:=fun z=>nd.1 (z▸List.mem_map_of_mem h);rw[List.find?_cons_of_neg (by simpa using ne)];exact ih nd.2 h
theorem lO (so:Srt s ps)(p:ns.Perm (ps.map (·.1)))(w:ns.Pairwise (· <= ·)):ns=s.map (·.1):=by
 refine(p.trans (so.1.map _).symm).eq_of_pairwise (fun a b _ _ h1 h2=>Int.le_antisymm h1 h2) w ?_;exact pairwise_map.mpr (so.2.imp fun h=>Int.le_of_lt h)
theorem sI {i:Nat}{p:Int×Int}(so:Srt s ps)(e:s[i]?=some p):p∈ps:=so.1.mem_iff.mp (bV e)
theorem rC:Ok F F.r.d__law_done 1 spDone:=by
 refine F.r.d__law_done.go fun sc H Q hr h=>?_;obtain⟨d,a,ps,q,rfl,hd,ha,lp,nd,k⟩:=h;obtain⟨s,hs⟩:=jz nd
 refine⟨_,(am (bF (iS gV (pix bT (pv 1) ai) (bR (pa2 bv bv)) (by with_unfolding_all rfl))
   (am (dX sc 2 (bD ck))
  (am (gn PassesOwn.never rfl (cZ (aN (fG (hr.hd rfl)) rfl F.r.T.n_sorted eQ (pa1 (pv 0)))) (fk sc 3)
   (aw (bF (PW.pt (iy (pc wr (pv 3) (pix bT (pv 1) ai)) (gh (PW.pt (eF (pc iB (pix bT (pv 1) ai) dY) (dL (pc gA (pv 3) (pix bT (pv 1) ai))))))))
   (aw (cE (kG cg PySem.F.slot_list_append PySem.F.type_list_append cR (pv 2) (pa1 (bR (pa2 (pv 3) (oP (lf hr) (pv 0) (pv 3) (fun _ _=>rfl))))))))
   aW)))
  (aw (aL (pv 2)))))
   aW)
  (am (dX sc 4 (lZ (lf hr) (pv 0) (pix bT (pv 1) ai) ⟨rfl,rfl,rfl,rfl⟩))
  (am (bF (pc cw (pix bT (pv 1) ai) bv)
   (aw (oJ (lf hr) (pv 0) (pix bT (pv 1) ai) (pix bT (pv 1) ai) rfl))
   aW)
  (am (bF (PW.pt (iy (pc cw (pix bT (pv 1) ai) bv) (gh (pc uz (pv 4) dY))))
   (aw (cE (rc (pv 0) (pix bT (pv 1) ai) ⟨rfl,rfl,rfl,rfl⟩)))
   aW)
  (aw (aL (pv 4))))))),?_⟩
 cases q with
 | find ky=>
  dsimp only[Cl.vs] at ha;walk;refine ef fun p H3 fp S3 ep=>?_;have hd3:=S3 _ _ hd;have ha3:=S3 _ _ ha;refine⟨p,_,rfl,.inr (SqT.of ep),rfl,rfl,?_⟩;walk;refine kZ (c:=false) rfl (cG ?_);walk;unfold gJ;walk;refine⟨d,rfl,.inl ⟨_,.inl hd3⟩,?_⟩;walk;refine⟨_,ju.k (k:=Sum.inl ky) hd3,?_⟩;rw[fi];walk;refine eB (by decide) ?_;walk;refine eB (by decide) ?_;walk
  exact k s hs _ H3 (vb _) S3.kb hd3
 | take ky=>
  dsimp only[Cl.vs] at ha;walk;refine ef fun p H3 fp S3 ep=>?_;have hd3:=S3 _ _ hd;have ha3:=S3 _ _ ha;refine⟨p,_,rfl,.inr (SqT.of ep),rfl,rfl,?_⟩;walk;refine kZ (c:=false) rfl (cG ?_);walk;unfold gJ;walk;refine⟨d,rfl,.inl ⟨_,.inl hd3⟩,?_⟩;walk;refine⟨_,ju.k (k:=Sum.inl ky) hd3,?_⟩;rw[fi];walk;refine eB (by decide) ?_;walk;refine jt rfl ?_;walk;cases eg:ke ps ky with
  | none=>
   refine⟨rfl,?_⟩;walk;refine iteNX rfl ?_;walk;refine k s hs _ H3 (by show DV _ _ _ (uy (ke ps ky));rw[eg];exact .non) S3.kb ?_;show _=some (HO.dK (kL (li ps ky)));rw[qh eg];exact hd3
  | some g=>
   refine⟨rfl,?_⟩;walk;refine cU (by exact fun z=>nomatch z) ?_;walk;unfold sF;walk;refine⟨d,rfl,.inl ⟨_,.inl hd3⟩,?_⟩;walk;refine⟨kL ps,Sum.inl ky,.int g,hd3,rfl,by rw[fi,eg];rfl,?_⟩;walk;exact k s hs _ _ (by show DV _ _ _ (uy (ke ps ky));rw[eg];exact .int g) (KB.trans S3.kb KB.refl.updP) (by rw[ay];exact bL (fun z=>some (HO.dK z)) (pQ ps ky))
 | put ky g=>
  dsimp only[Cl.vs] at ha;walk;refine ef fun p H3 fp S3 ep=>?_;have hd3:=S3 _ _ hd;have ha3:=S3 _ _ ha;refine⟨p,_,rfl,.inr (SqT.of ep),rfl,rfl,?_⟩;walk;refine kZ (c:=false) rfl (cG ?_);walk;unfold gJ;walk;refine⟨d,rfl,.inl ⟨_,.inl hd3⟩,?_⟩;walk;refine⟨_,ju.k (k:=Sum.inl ky) hd3,?_⟩;rw[fi];walk;refine jt rfl ?_;walk
  refine pO (k:=Sum.inl ky) hd3 (by rw[pP];exact lt_of_le_of_lt lp (by decide)) ?_;rw[sO];have nad:a≠d:=fun z=>by subst z;rw[hd] at ha;cases ha
  generalize eH:upd H3 d _=H5;have ha5:H5 a=some (.tup [.str "put",.int ky,.int g]):=by rw[<- eH,aE nad];exact ha3
  have hd5:H5 d=some (.dK (kL (oG ps ky g))):=by rw[<- eH,ay]
  have k5:KB d H H5:=by rw[<- eH];exact KB.trans S3.kb KB.refl.updP
  clear eH;walk;refine eB (by decide) ?_;walk;exact k s hs _ H5 (vb _) k5 hd5
 | span b lo hi=>
  dsimp only[Cl.vs] at ha;walk;refine ef fun p H3 fp S3 ep=>?_;have hd3:=S3 _ _ hd;have ha3:=S3 _ _ ha;refine⟨p,_,rfl,.inr (SqT.of ep),rfl,rfl,?_⟩;walk;refine kZ (c:=true) (by cases b<;>rfl) (dk ?_);walk;refine dS fun l H4 fl S4 el=>?_;have hd4:=S4 _ _ hd3;have ha4:=S4 _ _ ha3;walk;refine⟨d,_,ps.map (·.1),rfl,.inl hd4,jf ps,by rw[au];lia,fun ns' pm pw l5 f5=>?_⟩
  cases lO hs pm pw;generalize eH:upd H4 l5 _=H5;have S5:aZ H4 H5:=eH▸aZ.upd f5;have el5:H5 l5=some (.lst ((s.map (·.1)).map V.int)):=eH▸ay;clear eH;walk;have S35:=S4.trans S5;have nl5:l5≠l:=fun z=>by subst z;rw[el] at f5;cases f5
  refine lR (fun i σ H6=>∃(o3 o4:Option V) (us:List Addr),σ=[some (.ref d),some (.ref a),some (.ref l),o3,o4]/\aZ H3 H6/\H6 l=some (.lst (us.map V.ref))/\H6 l5=some (.lst ((s.map (·.1)).map V.int))/\fj H6 us ((s.take i).filter fun p=>stP lo hi p.1)/\(∀u∈us,H3 u=none))
   ⟨_,_,[],rfl,S35,S5 _ _ el,el5,⟨rfl,fun j t x e=>by cases e⟩,fun u z=>by cases z⟩ (fun i σ H6 _ ⟨_,_,_,_,_,_,e,_⟩=>e) ?_ ?_
  ·rintro i x σ H6 ex ⟨o3,o4,us,rfl,S6,eu,e5,tu,fr⟩;rw[map_map,aQ] at ex;cases ep:s[i]? with
   | none=>rw[ep] at ex;cases ex
   | some pr=>
    rw[ep] at ex;obtain rfl:x=.int pr.1:=(aG ex).symm;clear ex
    have no:stP lo hi pr.1=false->∀o3 o4:Option V,∃(o3' o4':Option V) (us:List Addr),[some (V.ref d),some (.ref a),some (.ref l),o3,o4]=[some (.ref d),some (.ref a),some (.ref l),o3',o4']/\aZ H3 H6/\H6 l=some (.lst (us.map V.ref))/\H6 l5=some (.lst ((s.map (·.1)).map V.int))/\fj H6 us ((s.take (i+1)).filter fun p=>stP lo hi p.1)/\(∀u∈us,H3 u=none):=fun z o3 o4=>by
     refine⟨o3,o4,us,rfl,S6,eu,e5,?_,fr⟩;rw[take_add_one,ep,filter_append];simp only[toList_some,filter_cons,z,filter_nil];rw[ah aj,cH];exact tu
    have lus:us.length<=1000:=by
     rw[tu.1];refine Nat.le_trans (eA _ _) ?_;rw[aF,hs.1.length_eq]
     lia
    have yes:stP lo hi pr.1=true->∀(t:Addr) (H7:Hp),H6 t=none->aZ H6 H7->H7 t=some (.tup [.int pr.1,.int pr.2])->∀o3 o4:Option V,∃(o3' o4':Option V) (us':List Addr),[some (V.ref d),some (.ref a),some (.ref l),o3,o4]=[some (.ref d),some (.ref a),some (.ref l),o3',o4']/\aZ H3 (upd H7 l (.lst (us.map V.ref++[.ref t])))/\upd H7 l (.lst (us.map V.ref++[.ref t])) l=some (.lst (us'.map V.ref))/\upd H7 l (.lst (us.map V.ref++[.ref t])) l5=some (.lst ((s.map (·.1)).map V.int))/\fj (upd H7 l (.lst (us.map V.ref++[.ref t]))) us' ((s.take (i+1)).filter fun p=>stP lo hi p.1)/\(∀u∈us',H3 u=none):=fun z t H7 ft S7 et o3 o4=>by
     have ntl:t≠l:=fun z=>by subst z;rw[eu] at ft;cases ft
     have nl:∀{u:Addr} {xs:List V},H6 u=some (.tup xs)->u≠l:=fun e z=>by subst z;rw[eu] at e;cases e
     refine⟨o3,o4,us++[t],rfl,fun b o e=>?_,by rw[ay,dU];rfl,?_,?_,fun u hu=>?_⟩
     ·rw[aE (ao e fl)];exact S7 _ _ (S6 _ _ e)
     ·rw[aE nl5];exact S7 _ _ e5
     ·rw[take_add_one,ep,filter_append];simp only[toList_some,filter_cons,z,filter_nil,if_true];refine fj.app (tu.keep fun b xs e=>?_) ((aE ntl).trans et);rw[aE (nl e)];exact S7 _ _ e
     ·rcases ba.mp hu with hu|hu
      ·exact fr u hu
      ·cases a_.mp hu;exact S6.free ft
    have ha6:=S6 _ _ ha3;have hd6:=S6 _ _ hd3;have hg:ik (kL ps) (Sum.inl pr.1)=some (.int pr.2):=by rw[fi,qd nd (sI hs ep)];rfl
    walk;cases z1:decide (lo<=pr.1) with
    | false=>
     refine cG ?_;walk;exact no (by unfold stP;rw[z1];rfl) _ _
    | true=>
     refine dk ?_;walk;cases hi with
     | none=>
      refine⟨rfl,?_⟩;walk;refine jt rfl ?_;walk;refine kW (k:=Sum.inl pr.1) hd6 hg ?_;walk;refine ef fun t H7 ft S7 et=>?_;walk;refine dJ (S7 _ _ eu) (by rw[au];exact lt_of_le_of_lt lus (by decide)) ?_;walk;exact yes (by unfold stP;rw[z1];rfl) t H7 ft S7 et _ _
     | some h=>
      refine⟨rfl,?_⟩;walk;refine eB (fun z=>nomatch z) ?_;walk;refine⟨_,h,rfl,rfl,?_⟩;walk;cases z2:decide (pr.1<h) with
      | false=>
       refine cG ?_;walk;exact no (by unfold stP;rw[z1];exact z2) _ _
      | true=>
       refine dk ?_;walk;refine kW (k:=Sum.inl pr.1) hd6 hg ?_;walk;refine ef fun t H7 ft S7 et=>?_;walk;refine dJ (S7 _ _ eu) (by rw[au];exact lt_of_le_of_lt lus (by decide)) ?_;walk;exact yes (by unfold stP;rw[z1];exact z2) t H7 ft S7 et _ _
  ·rintro σ H6 ⟨o3,o4,us,rfl,S6,eu,e5,tu,fr⟩;walk;rw[au,au,take_length] at tu;refine k s hs _ H6 ?_ (S3.trans S6).kb (S6 _ _ hd3);exact .lst (fun z=>z (S3.free fl)) eu (dt tu fun u z o=>o (S3.free (fr u z)))
theorem xB:bootBuiltins "str" = some (.type "str"):=by decide +kernel
theorem gg {p}{t:Option Expr}{l:Nat}:swapsWith (.List es p) t l env=pure false:=by rfl
structure Shw (k n:Nat)(d:PyData):Prop where
 sh:d.showable=true
 lv:d.leavesShort 40=true
 dp:d.depth<=k
 wt:d.weight<=n
def Au (H H':Hp)(v:V)(d:PyData):Prop:=DV (Old H) H' v d/\Shw 2 500 d
theorem bB (h1:d.showable=true:=by decide +kernel)(h2:d.leavesShort 40=true:=by decide +kernel)(h3:d.depth<=2:=by decide +kernel)(h4:d.weight<=500:=by decide +kernel):Shw 2 500 d:=⟨h1,h2,h3,h4⟩
section
variable {t:L2.TA}{j l:Int}{a b c:Nat}{q1 q2 q3 q4 q5:Pos}
theorem wo (h:PA X es t):PA X (.BinOp (.Constant (.int i) a q1) .Pow (.Constant (.int j) b q2) q3::es) (cN (tOp (rI x_ fun i j=>V.int (i ^ j.toNat)) (tC (V.int i)) (tC (V.int j))) t):=cJ (br dj ai ai) rfl h
theorem wp (h:PA X es t):PA X (.UnaryOp .USub (.BinOp (.Constant (.int i) a q1) .Pow (.Constant (.int j) b q2) q3) q4::es) (cN (tUn (rU fun i=>V.int (-i)) (tOp (rI x_ fun i j=>V.int (i ^ j.toNat)) (tC (V.int i)) (tC (V.int j)))) t):=cJ (oO lI (br dj ai ai)) rfl h
theorem wn (h:PA X es t):PA X (.BinOp (.BinOp (.Constant (.int i) a q1) .Pow (.Constant (.int j) b q2) q3) .Sub (.Constant (.int l) c q5) q4::es) (cN (tOp (rI0 fun i j=>V.int (i - j)) (tOp (rI x_ fun i j=>V.int (i ^ j.toNat)) (tC (V.int i)) (tC (V.int j))) (tC (V.int l))) t):=cJ (br cY (br dj ai ai) ai) rfl h
end
inductive spOdd (vs:List V)(H:Hp)(Q:VK)(E:XK):Prop
 | mk (p:Addr)(n:Nat):vs=[.ref p]->Box H p n->n+1<=1000000->(∀y d H',Au H H' y d->Box H' p (n+1)->KB p H H'->Q y H')->spOdd vs H Q E
inductive spNum (vs:List V)(H:Hp)(Q:VK)(E:XK):Prop
 | mk (N:Addr->Prop)(v:V)(d:PyData):vs=[v]->DV N H v d->Q (.bl (dc d)) H->spNum vs H Q E
theorem sW:Ok F F.r.d__law_odd 2 spOdd:=by
 refine F.r.d__law_odd.go fun sc H Q hr h=>?_;obtain⟨p,n,rfl,b,hn,k⟩:=h;refine'⟨_,?h,?r⟩
 case h=>
  refine' am ?a ?b
  case b=>exact(aw (aL (pix bz (pv 1) (bM (bG F) hr (pa2 (pv 0) ai)))))
  case a=>
   with_reducible refine' iz (i:=1) ?h0 ?h1 ?h2 ?e gg ?h3
   case h0=>exact sc.nd
   case h1=>rfl
   case h2=>exact Or.inl rfl
   case h3=>exact Or.inr rfl
   case e=>with_reducible exact bD (oU (oU (cX (cX (oS (dZ ck) (gR (dZ ck) (kI (wo (wp (wn (cX (ma (dZ (dZ ck))))))))))))))
 case r=>
 walk;refine dS fun l1 H1 f1 S1 e1=>?_;walk;refine ef fun l2 H2 f2 S2 e2=>?_;walk;intro d3 f3;generalize eH:upd H2 d3 _=H3;have S3:aZ H2 H3:=eH▸aZ.upd f3;have e3:H3 d3=some (.dK []):=eH▸ay;clear eH;walk;refine dS fun l4 H4 f4 S4 e4=>?_;walk;have b4:=(((b.same S1).same S2).same S3).same S4;have S04:=S1.trans (S2.trans (S3.trans S4))
 refine⟨p,14,n,rfl,b4,by lia,by decide,by decide,fun r H5 r0 r1 b5 k5=>?_⟩;obtain⟨v,hv,e⟩:=fH (xs:=[.bl true,.bl false,.str "",.str "0",.ref l1,.ref l2,.ref d3,.int (10 ^ toNat 9),.int (-10 ^ toNat 9),.int (10 ^ toNat 30 - 1),.str "find",.non,.int 0,.int 1]) r0 (by simp;lia);have kb:=KB.trans S04.kb k5;have x1:=k5 _ _ (S4 _ _ (S3 _ _ (S2 _ _ e1))) (b.ne f1)
 have x2:=k5 _ _ (S4 _ _ (S3 _ _ e2)) ((b.same S1).ne f2);have x3:=k5 _ _ (S4 _ _ e3) (((b.same S1).same S2).ne f3);have o1:¬Old H l1:=fun z=>z f1;have o2:¬Old H l2:=fun z=>z (S1.free f2);have o3:¬Old H d3:=fun z=>z ((S1.trans S2).free f3);refine df (k5 _ _ e4 ((((b.same S1).same S2).same S3).ne f4)) e ?_;simp only[aV,aP,or_false] at hv
 rcases hv with rfl|rfl|rfl|rfl|rfl|rfl|rfl|rfl|rfl|rfl|rfl|rfl|rfl|rfl
 ·exact k _ _ H5 ⟨.bl _,bB⟩ b5 kb
 ·exact k _ _ H5 ⟨.bl _,bB⟩ b5 kb
 ·exact k _ _ H5 ⟨.str _,bB⟩ b5 kb
 ·exact k _ _ H5 ⟨.str _,bB⟩ b5 kb
 ·exact k _ _ H5 ⟨.lst o1 x1 (.cons (.int _) .nil),bB⟩ b5 kb
 ·exact k _ _ H5 ⟨.tup o2 x2 (.cons (.int _) .nil),bB⟩ b5 kb
 ·exact k _ _ H5 ⟨.dct o3 x3 .nil,bB⟩ b5 kb
 ·exact k _ _ H5 ⟨.int _,bB⟩ b5 kb
 ·exact k _ _ H5 ⟨.int _,bB⟩ b5 kb
 ·exact k _ _ H5 ⟨.int _,bB⟩ b5 kb
 ·exact k _ _ H5 ⟨.str _,bB⟩ b5 kb
 ·exact k _ _ H5 ⟨.non,bB⟩ b5 kb
 ·exact k _ _ H5 ⟨.int _,bB⟩ b5 kb
 ·exact k _ _ H5 ⟨.int _,bB⟩ b5 kb
theorem kN:Ok F F.r.d__law_is_number 1 spNum:=by
 refine F.r.d__law_is_number.go fun sc H Q hr h=>?_;obtain⟨N,v,d,rfl,x,k⟩:=h;have i2:=mx (K:=K) x.thg
 refine⟨_,(aw (aL (dg (aN bZ rfl F.r.T.n_isinstance bA (pa2 (pv 0) (cF (v:=.ty "int") rfl F.r.T.n_int mK rfl))) (dg (bO gU (pv 0) cO (cm _)) (dg (bO gU (pv 0) cO (cm _)) (cI (l_ gA gA (oO lI (br dj ai ai)) (pv 0) (br dj ai ai)))))))),?_⟩;walk
 refine⟨_,_,_,_,rfl,x.thg,.inl ⟨"int",rfl,i2⟩,?_⟩;have p9:(10:Int) ^ toNat 9=1000000000:=by decide +kernel
 cases x with
 | int i=>
  walk;refine dk ?_;walk;refine⟨_,rfl,?_⟩;walk;refine cU (fun z=>nomatch z) ?_;walk;refine⟨_,rfl,?_⟩;walk;refine cU (fun z=>nomatch z) ?_;walk;have e1:decide (-10 ^ toNat 9<i)=decide (-999999999<=i):=decide_eq_decide.mpr (by rw[p9];lia);have e2:decide (i<10 ^ toNat 9)=decide (i<=999999999):=decide_eq_decide.mpr (by rw[p9];lia)
  have k':Q (.bl (decide (-999999999<=i)&&decide (i<=999999999))) H:=k;rw[e1];cases z:decide (-999999999<=i) with
  | false=>
   rw[z] at k';exact cG k'
  | true=>
   rw[z] at k';refine dk ?_;walk;rw[e2];exact k'
 | bl b=>
  walk;refine dk ?_;walk;refine⟨_,rfl,?_⟩;walk;cases b with
  | true=>
   refine iteNX rfl ?_;walk;exact k
  | false=>
   refine cU (fun z=>nomatch z) ?_;walk;refine⟨_,rfl,?_⟩;walk;refine iteNX rfl ?_;walk;exact k
 | _=>
  walk;exact cG k
inductive spIsCall (vs:List V)(H:Hp)(Q:VK)(E:XK):Prop
 | mk (N:Addr->Prop)(v:V)(d:PyData):vs=[v]->DV N H v d->(∀H',aZ H H'->Q (.bl (cW d)) H')->spIsCall vs H Q E
def i8 (z:Str):Int:=if z = "find" then 2 else if z = "take" then 2 else if z = "put" then 3 else if z = "parts" then 3 else if z = "whole" then 3 else 0
def wW:PyData->Bool|.str _=>true|_=>false
theorem rM (d:PyData):kitOne K (tyD d) (.type "str")=some (wW d):=by cases d<;>kernel_rfl
theorem u7 {d1 ds}(h:wW d1=false):cW (.tuple (d1::ds))=false:=by
 have t:∀z n,dA (.tuple (d1::ds)) z n=false:=fun z n=>by
  cases d1 with
  | str y=>cases h
  | _=>exact Bool.and_false _
 unfold cW;rw[t,t,t,t,t];rfl
theorem bu (y z:Str)(ds:List PyData)(n:Nat):dA (.tuple (.str y::ds)) z n=(decide (ds.length=n)&&decide (y=z)):=rfl
theorem nE {y:Str}{ds:List PyData}(h1:y ≠ "find")(h2:y ≠ "take")(h3:y ≠ "put")(h4:y ≠ "parts")(h5:y ≠ "whole"):cW (.tuple (.str y::ds))=false:=by
 unfold cW;rw[bu,bu,bu,bu,bu,aM h1,aM h2,aM h3,aM h4,aM h5];simp only[Bool.and_false,Bool.or_false];rfl
theorem uK (z:Str):((ik (gu [] [((Sum.inr "find" : Key),V.int 2),(Sum.inr "take",.int 2),(Sum.inr "put",.int 3),(Sum.inr "parts",.int 3),(Sum.inr "whole",.int 3)]) (Sum.inr z)).getD (.int 0))=.int (i8 z):=by
 have e:gu [] [((Sum.inr "find" : Key),V.int 2),(Sum.inr "take",.int 2),(Sum.inr "put",.int 3),(Sum.inr "parts",.int 3),(Sum.inr "whole",.int 3)]=[((Sum.inr "find" : Key),V.int 2),(Sum.inr "take",.int 2),(Sum.inr "put",.int 3),(Sum.inr "parts",.int 3),(Sum.inr "whole",.int 3)]:=by rfl
 rw[e];unfold i8;by_cases h1:z = "find"
 ·subst h1;rfl
 by_cases h2:z = "take"
 ·subst h2;rfl
 by_cases h3:z = "put"
 ·subst h3;rfl
 by_cases h4:z = "parts"
 ·subst h4;rfl
 by_cases h5:z = "whole"
 ·subst h5;rfl
 have n:∀{y:Str},z≠y->¬((Sum.inr y:Key)=Sum.inr z):=fun h e=>h (Sum.inr.inj e).symm;rw[ah h1,ah h2,ah h3,ah h4,ah h5,dH (n h1),dH (n h2),dH (n h3),dH (n h4),dH (n h5)];rfl
theorem qz (ds:List PyData):cW (.tuple (.str "find" :: ds))=(decide (ds.length=1)&&dc (ds.getD 0 .none)):=by
 unfold cW;rw[bu,bu,bu,bu,bu];cases decide (ds.length=1)<;>cases decide (ds.length=2)<;>rfl
theorem qv (ds:List PyData):cW (.tuple (.str "take" :: ds))=(decide (ds.length=1)&&dc (ds.getD 0 .none)):=by
 unfold cW;rw[bu,bu,bu,bu,bu];cases decide (ds.length=1)<;>cases decide (ds.length=2)<;>rfl
theorem sm (ds:List PyData):cW (.tuple (.str "put" :: ds))=(decide (ds.length=2)&&(dc (ds.getD 0 .none)&&dc (ds.getD 1 .none))):=by
 unfold cW;rw[bu,bu,bu,bu,bu];cases decide (ds.length=1)<;>cases decide (ds.length=2)<;>rfl
theorem nB (ds:List PyData):cW (.tuple (.str "parts" :: ds))=(decide (ds.length=2)&&kq (ds.getD 0 .none) (ds.getD 1 .none)):=by
 unfold cW;rw[bu,bu,bu,bu,bu];cases decide (ds.length=1)<;>cases decide (ds.length=2)<;>rfl
theorem ny (ds:List PyData):cW (.tuple (.str "whole" :: ds))=(decide (ds.length=2)&&kq (ds.getD 0 .none) (ds.getD 1 .none)):=by
 unfold cW;rw[bu,bu,bu,bu,bu];cases decide (ds.length=1)<;>cases decide (ds.length=2)<;>rfl
theorem neI {a b:Int}(h:a≠b):¬(V.int a=V.int b):=fun z=>h (V.int.inj z)
theorem pe:Ok F F.r.d__law_is_call 2 spIsCall:=by
 have T:=F.r.T;refine F.r.d__law_is_call.go fun sc H Q hr h=>?_;obtain⟨N,v,d,rfl,x,k⟩:=h;refine'⟨_,?h,?r⟩
 case h=>
  refine' am ?s0 ?h1
  case s0=>exact(bF (PW.pt (eF (ci (bH (aN bZ rfl T.n_isinstance bA (pa2 (pv 0) (cF (v:=.ty "tuple") rfl T.n_tuple e_ rfl))))) (eF (pc cw (aN bE rfl T.n_len d7 (pa1 (pv 0))) ai) (dL (ci (bH (aN bZ rfl T.n_isinstance bA (pa2 (pix bT (pv 0) ai) (cF (v:=.ty "str") rfl T.n_str xB rfl)))))))))
   (aw (aL cO))
   aW)
  case h1=>
   refine' am ?s1 ?h2
   case s1=>
    with_reducible refine' iz (i:=1) ?g0 ?g1 ?g2 ?e ?hs ?g3
    case g0=>exact sc.nd
    case g1=>rfl
    case g2=>exact Or.inl rfl
    case g3=>exact Or.inr rfl
    case e=>
     with_reducible refine' rg (lf hr) (ut (fS bv ai (fS bv ai (fS bv ai (fS bv ai (fS bv ai ul))))) ?b1 ?b2 ?b3 ?b4) ?e1 ai ?m
     case b1=>rfl
     case b2=>rfl
     case b3=>exact List.cons_ne_nil _ _
     case b4=>exact le_of_ble_eq_true rfl
     case e1=>exact(pix bT (pv 0) ai)
     case m=>exact⟨rfl,rfl,rfl,rfl⟩
    case hs=>rfl
   case h2=>
    refine' am ?s2 ?h3
    case s2=>exact(bF (PW.pt (eF (pc jJ (aN bE rfl T.n_len d7 (pa1 (pv 0))) (pv 1)) (dL (ci (bH (bM (kN F) hr (pa1 (pix bT (pv 0) ai))))))))
   (aw (aL cO))
   aW)
    case h3=>
     refine' am ?s3 ?h4
     case s3=>exact(bF (pc cw (pix bT (pv 0) ai) bv)
   (aw (aL (bM (kN F) hr (pa1 (pix bT (pv 0) ai)))))
   aW)
     case h4=>exact aw (aL (iT (bO cw (pv 1) ai (cm _)) (iT (bO iB (pix bT (pv 0) ai) dY (cm _)) (cI (dg (bM (kN F) hr (pa1 (pix bT (pv 0) ai))) (cI (bO gA (pix bT (pv 0) ai) (pix bT (pv 0) ai) (cm _))))))))
 case r=>
 have k0:=k H (aZ.refl _);walk;refine⟨v,_,_,_,rfl,x.thg,.inl ⟨"tuple",rfl,jg d⟩,?_⟩;cases x with
 | tup na e r=>
  walk;refine cG ?_;walk;refine⟨_,_,rfl,.inr (SqT.of e),?_⟩;cases r with
  | nil=>
   walk;refine jt rfl ?_;walk;exact k0
  | @cons v1 d1 vs ds r1 t=>
   walk;refine eB (fun z=>by have:=V.int.inj z;simp at this;lia) ?_;walk;refine oB e (da (j:=0) rfl) ?_;walk;refine⟨_,_,_,_,rfl,r1.thg,.inl ⟨"str",rfl,rM d1⟩,?_⟩;cases r1 with
   | str z=>
    walk;refine iteNX rfl ?_;walk;unfold sG;walk;intro d5 f5;walk;refine⟨ay,[(Sum.inr "find",.int 2),(Sum.inr "take",.int 2),(Sum.inr "put",.int 3),(Sum.inr "parts",.int 3),(Sum.inr "whole",.int 3)],rfl,le_of_ble_eq_true rfl,?_⟩;rw[tT];generalize eH:upd H d5 _=H5;have S5:aZ H H5:=eH▸aZ.upd f5
    have e5:H5 d5=some (.dK (gu [] [(Sum.inr "find",.int 2),(Sum.inr "take",.int 2),(Sum.inr "put",.int 3),(Sum.inr "parts",.int 3),(Sum.inr "whole",.int 3)])):=eH▸ay;clear eH;refine⟨d5,rfl,.inl ⟨_,.inl e5⟩,?_⟩;walk;refine oB (S5 _ _ e) (da (j:=0) rfl) ?_;walk;refine⟨_,ju.k (k:=Sum.inr z) e5,?_⟩;have e':=S5 _ _ e;have t':=mE t S5;have k5:=k H5 S5;have lv:=t.length
    rw[uK z];walk;refine⟨_,_,rfl,.inr (SqT.of e'),?_⟩;walk;by_cases hfind:z = "find"
    ·subst hfind;rw[qz] at k5;cases t' with
     | nil=>
      refine cU (neI (by decide)) ?_;walk;exact k5
     | @cons v1 d1 _ _ x1 t1=>
      cases t1 with
      | cons _ _=>
       refine cU (neI (by simp[i8];lia)) ?_;walk;exact k5
      | nil=>
       refine iteNX (aq rfl) ?_;walk;refine⟨_,_,_,rfl,x1,?_⟩;walk;have k6:Q (.bl (dc d1)) H5:=k5;cases y:dc d1 with
       | false=>
        rw[y] at k6;refine ng ?_;walk;exact k6
       | true=>
        rw[y] at k6;refine nh ?_;walk;refine eB (by decide) ?_;walk;refine jt rfl ?_;exact k6
    by_cases htake:z = "take"
    ·subst htake;rw[qv] at k5;cases t' with
     | nil=>
      refine cU (neI (by decide)) ?_;walk;exact k5
     | @cons v1 d1 _ _ x1 t1=>
      cases t1 with
      | cons _ _=>
       refine cU (neI (by simp[i8];lia)) ?_;walk;exact k5
      | nil=>
       refine iteNX (aq rfl) ?_;walk;refine⟨_,_,_,rfl,x1,?_⟩;walk;have k6:Q (.bl (dc d1)) H5:=k5;cases y:dc d1 with
       | false=>
        rw[y] at k6;refine ng ?_;walk;exact k6
       | true=>
        rw[y] at k6;refine nh ?_;walk;refine eB (by decide) ?_;walk;refine jt rfl ?_;exact k6
    by_cases hput:z = "put"
    ·subst hput;rw[sm] at k5;cases t' with
     | nil=>
      refine cU (neI (by decide)) ?_;walk;exact k5
     | @cons v1 d1 _ _ x1 t1=>
      cases t1 with
      | nil=>
       refine cU (neI (show (2:Int)≠3 by decide)) ?_;walk;exact k5
      | @cons v2 d2 _ _ x2 t2=>
       cases t2 with
       | cons _ _=>
        refine cU (neI (by simp[i8];lia)) ?_;walk;exact k5
       | nil=>
        refine iteNX (aq rfl) ?_;walk;refine⟨_,_,_,rfl,x1,?_⟩;walk;have k6:Q (.bl (dc d1&&dc d2)) H5:=k5;cases y:dc d1 with
        | false=>
         rw[y] at k6;refine ng ?_;walk;exact k6
        | true=>
         rw[y] at k6;refine nh ?_;walk;refine jt rfl ?_;walk;exact⟨_,_,_,rfl,x2,k6⟩
    by_cases hparts:z = "parts"
    ·subst hparts;rw[nB] at k5;cases t' with
     | nil=>
      refine cU (neI (by decide)) ?_;walk;exact k5
     | @cons v1 d1 _ _ x1 t1=>
      cases t1 with
      | nil=>
       refine cU (neI (show (2:Int)≠3 by decide)) ?_;walk;exact k5
      | @cons v2 d2 _ _ x2 t2=>
       cases t2 with
       | cons _ _=>
        refine cU (neI (by simp[i8];lia)) ?_;walk;exact k5
       | nil=>
        refine iteNX (aq rfl) ?_;walk;refine⟨_,_,_,rfl,x1,?_⟩;walk;have k6:Q (.bl (dc d1&&(uI d2||(dc d2&&gtD d2 d1)))) H5:=k5;cases y:dc d1 with
        | false=>
         rw[y] at k6;refine ng ?_;walk;exact k6
        | true=>
         rw[y] at k6;refine nh ?_;walk;refine eB (by decide) ?_;walk;refine eB (by decide) ?_;walk;obtain⟨i,rfl,rfl,_⟩:=hU x1 y;refine⟨rfl,?_⟩;walk;cases x2 with
         | non=>exact jt rfl k6
         | int j=>
          refine eB (fun z=>nomatch z) ?_;walk;refine⟨N,_,_,rfl,.int j,?_⟩;walk;cases y2:dc (.int j) with
          | false=>
           have k7:Q (.bl (dc (.int j)&&decide (j > i))) H5:=k6;rw[y2] at k7;exact cG k7
          | true=>
           have k7:Q (.bl (dc (.int j)&&decide (j > i))) H5:=k6;rw[y2] at k7;refine dk ?_;walk;exact k7
         | bl j=>
          refine eB (fun z=>nomatch z) ?_;walk;refine⟨N,_,_,rfl,.bl j,?_⟩;walk;exact cG k6
         | str j=>
          refine eB (fun z=>nomatch z) ?_;walk;refine⟨N,_,_,rfl,.str j,?_⟩;walk;exact cG k6
         | lst na e1 r|tup na e1 r|dct na e1 r=>
          refine eB (fun z=>nomatch z) ?_;walk;refine⟨N,_,_,rfl,(by first|exact .lst na e1 r|exact .tup na e1 r|exact .dct na e1 r),?_⟩;walk;exact cG k6
    by_cases hwhole:z = "whole"
    ·subst hwhole;rw[ny] at k5;cases t' with
     | nil=>
      refine cU (neI (by decide)) ?_;walk;exact k5
     | @cons v1 d1 _ _ x1 t1=>
      cases t1 with
      | nil=>
       refine cU (neI (show (2:Int)≠3 by decide)) ?_;walk;exact k5
      | @cons v2 d2 _ _ x2 t2=>
       cases t2 with
       | cons _ _=>
        refine cU (neI (by simp[i8];lia)) ?_;walk;exact k5
       | nil=>
        refine iteNX (aq rfl) ?_;walk;refine⟨_,_,_,rfl,x1,?_⟩;walk;have k6:Q (.bl (dc d1&&(uI d2||(dc d2&&gtD d2 d1)))) H5:=k5;cases y:dc d1 with
        | false=>
         rw[y] at k6;refine ng ?_;walk;exact k6
        | true=>
         rw[y] at k6;refine nh ?_;walk;refine eB (by decide) ?_;walk;refine eB (by decide) ?_;walk;obtain⟨i,rfl,rfl,_⟩:=hU x1 y;refine⟨rfl,?_⟩;walk;cases x2 with
         | non=>exact jt rfl k6
         | int j=>
          refine eB (fun z=>nomatch z) ?_;walk;refine⟨N,_,_,rfl,.int j,?_⟩;walk;cases y2:dc (.int j) with
          | false=>
           have k7:Q (.bl (dc (.int j)&&decide (j > i))) H5:=k6;rw[y2] at k7;exact cG k7
          | true=>
           have k7:Q (.bl (dc (.int j)&&decide (j > i))) H5:=k6;rw[y2] at k7;refine dk ?_;walk;exact k7
         | bl j=>
          refine eB (fun z=>nomatch z) ?_;walk;refine⟨N,_,_,rfl,.bl j,?_⟩;walk;exact cG k6
         | str j=>
          refine eB (fun z=>nomatch z) ?_;walk;refine⟨N,_,_,rfl,.str j,?_⟩;walk;exact cG k6
         | lst na e1 r|tup na e1 r|dct na e1 r=>
          refine eB (fun z=>nomatch z) ?_;walk;refine⟨N,_,_,rfl,(by first|exact .lst na e1 r|exact .tup na e1 r|exact .dct na e1 r),?_⟩;walk;exact cG k6
    have m0:i8 z=0:=by unfold i8;rw[ah hfind,ah htake,ah hput,ah hparts,ah hwhole]
    rw[nE hfind htake hput hparts hwhole] at k5;refine cU (neI (by rw[m0];simp;lia)) ?_;walk;exact k5
   | _=>
    walk;refine kZ (c:=true) rfl (dk ?_);walk;rw[u7 rfl] at k0;exact k0
 | _=>
  walk;refine dk ?_;walk;exact k0
theorem yN {k k0:Nat}{ps m e o}{t:L2.TA}(he:PE X o ta)(c:Cls X.K C)(F:qG X.prog X.w X.K X.mg X.base (CXo X.prog X.w) C m ps k sp)(hp:ei (CXo X.prog X.w) X E)(hr:jp k0 X.A)(ha:PA X (e::es) t)(hk:k<=k0:=by decide)
  (hst:starEach (e::es) X.env=(false,eval e X.env)::starEach es X.env:=by rfl) (hpl:(backTo pos (starEach es X.env)).any (·.1)=false:=by rfl)
  (ht:eval (.Call (.Attribute o m apos) (e::es) [] pos) X.env=(do
   let ov <- eval o X.env
   standAt apos.atName
   let(f,first) <- holding [ov] (getMethod ov m pl)
   callWith pos f first (backTo pos (starEach (e::es) X.env)) (backToKw pos (keywordEach [] X.env))):=by rfl) :
  PE X (.Call (.Attribute o m apos) (e::es) [] pos) (kn C m sp [] E ta t):=by
 obtain⟨f,fd,M,B,G⟩:=F;exact kE he c M G (hr.mono hk) B .nil hp ha hst hpl ht
theorem jH (hK:X.K=K){e f}(he:PE X e ta)(hb:attributeBase e f X.env (eval e X.env)=eval e X.env):PE X (.Attribute e f pos) (nY K ta f):=by subst hK;exact q8 he hb
theorem v4 {tb}{fs:List (Str×V)}{f}{i:Nat}(hs:σ[i]?=some (some (.ref e)))(he:H e=some (ExO C e (some dx) ar tb))(hd:H dx=some (XdO dx fs))(g:ExG K C)(na:cM K C f)(l:fs.lookup f=some y)(q:Q y H):nY K (xN i) f σ H Q:=⟨.ref e,hs,e,C,dx,ar,tb,fs,y,rfl,he,hd,g,na,l,q⟩
inductive spTold2 (c:Cs)(vs:List V)(H:Hp)(Q:VK)(E:XK):Prop
 | mk (N:Addr->Prop)(x g:Addr)(ps:List (Int×Int))(v:V)(d:PyData):vs=[.ref x,v]->IsP c H x g ps->ps.length<=900->(ps.map (·.1)).Nodup->DV N H v d ->
   (∀q,d=.tuple (Cl.ds q)->cW d=true->Cl.In q->∀s,Srt s ps->∀y l H',DV (Old H) H' y (Cl.ans ps s q)->KB g H H'->H' g=some (.dK (kL (Cl.next ps q)))->H l=none->H' l=some (.lst [.str "told",y])->Q (.ref l) H') ->
   (cW d=false->∀l H',H l=none->aZ H H'->H' l=some (.lst [.str "none",v])->Q (.ref l) H')->spTold2 c vs H Q E
theorem rB:Ok F F.r.d__law_told 9 (spTold2 c):=by
 obtain⟨fC,fdC,xC⟩:=F.eC;have C_Plain:=F.cP;refine F.r.d__law_told.go fun sc H Q hr h=>?_;obtain⟨N,x,g,ps,v,d,rfl,Y,lp,nd,dv,k1,k2⟩:=h;obtain⟨dx,hx⟩:=Y.x;refine'⟨_,(aw (sP rfl rfl ?b0 (sR (i:=2) xC.xC rfl xC.mC sc.nd rfl rfl rfl ?s0 (jG F.xT rfl xC.mT ?s1 oN)))),?r⟩
 case b0=>exact(fun E ps xe hp=>aw (aL (bD (pa2 bv (yN (pv 0) C_Plain (wD F) hp hr (pa1 (pv 1)))))))
 case s0=>exact(fun e=>aw (aL (bD (pa2 bv (jH (K:=K) rfl (pv 2) rfl)))))
 case s1=>exact(fun e=>aw (aL (bD (pa2 bv dY))))
 case r=>
 unfold yf;walk;refine⟨N,x,g,ps,v,d,rfl,Y,lp,nd,dv,fun q e cd qi s so y H1 dy kb hg1=>?_,fun cd e H' he S r=>jZ he S r fun σ hσ dx ar b H2 S2 g1 g2=>⟨true,xC.self,?_⟩⟩
 ·walk;refine dS fun l H2 fl S2 e2=>?_;exact k1 q e cd qi s so y l H2 (cx dy S2) (KB.trans kb S2.kb) (S2 _ _ hg1) (bW kb fl fun z=>by subst z;rw[hg1] at fl;cases fl) e2
 ·rw[ak rfl];walk;refine v4 (getElem?_set_self (by rw[show σ.length=3 from hσ];decide)) g1 g2 xC.g (xC.no _ (by simp)) rfl ?_;walk;refine dS fun l H3 fl S3 e3=>?_;exact k2 cd l H3 (S2.free fl) (S2.trans S3) e3
inductive spMade (c:Cs)(vs:List V)(H:Hp)(Q:VK)(E:XK):Prop
 | mk (N:Addr->Prop)(v:V)(d:PyData):vs=[v]->DV N H v d->(fQ d).length<=2000 ->
   (cB d=true->∀l H',H l=none->aZ H H'->H' l=some (.lst [.str "made",.non])->Q (.ref l) H') ->
   (cB d=false->∀l H',H l=none->aZ H H'->H' l=some (.lst [.str "none",v])->Q (.ref l) H')->spMade c vs H Q E
theorem o8:Ok F F.r.d__law_made 10 (spMade c):=by
 obtain⟨fC,fdC,xC⟩:=F.eK;obtain⟨f,fd,XPlain⟩:=F.PX;have GPlain:=iX F XPlain;refine F.r.d__law_made.go fun sc H Q hr h=>?_;obtain⟨N,v,d,rfl,dv,hz,k1,k2⟩:=h;refine'⟨_,(am (sP rfl rfl ?b0 (sR (i:=1) xC.xC rfl xC.mC sc.nd rfl rfl rfl ?s0 (jG F.xT rfl xC.mT ?s1 oN))) (aw (aL (bD (pa2 bv dY))))),?r⟩
 case b0=>exact(fun E ps xe hp=>aw (cE (gN XPlain.mak GPlain (hr.mono (by decide)) rfl XPlain.m XPlain.bi .nil hp (pa1 (pv 0)))))
 case s0=>exact(fun e=>aw (aL (bD (pa2 bv (jH (K:=K) rfl (pv 1) rfl)))))
 case s1=>exact(fun e=>aw (aL (bD (pa2 bv dY))))
 case r=>
 walk;unfold yf;walk;intro y dy fy fdy nd;have S6:aZ H (upd (upd H dy (.own y)) y (.ins c.P dy [])):=fun b o q=>kO fy fdy q;generalize eH:upd (upd H dy (.own y)) y _=H6 at S6 ⊢;have ey:H6 y=some (.ins c.P dy []):=eH▸ay;clear eH
 refine⟨N,y,dy,v,d,rfl,ey,cx dv S6,hz,fun pd ps ed pr pw H7 g S7 fg=>?_,fun pd e H' he S r=>jZ (S6.free he) (S6.trans S) r fun σ hσ dx ar b H2 S2 g1 g2=>⟨true,xC.self,?_⟩⟩
 ·refine⟨rfl,?_⟩;generalize eH:upd (upd H7 g _) y _=H8
  have S8:aZ H H8:=fun b u e=>by
   rw[<- eH,aE (ao e fy),aE (ao (S7 _ _ (S6 _ _ e)) fg)];exact S7 _ _ (S6 _ _ e)
  clear eH;walk;exact dS fun l H9 fl S9 e9=>k1 pd l H9 (S8.free fl) (S8.trans S9) e9
 ·rw[ak rfl];walk;refine v4 (getElem?_set_self (by rw[show σ.length=2 from hσ];decide)) g1 g2 xC.g (xC.no _ (by simp)) rfl ?_;walk;exact dS fun l H3 fl S3 e3=>k2 pd l H3 (S2.free fl) (S2.trans S3) e3
theorem wM {z:Int}{k:Nat}(h:z.natAbs<2 ^ k)(hk:0<k):z.natAbs.log2<k:=by
 by_cases e:z.natAbs=0
 ·rw[e];simpa using hk
 ·exact(Nat.log2_lt e).mpr h
structure Nm (i:Int)(w:Nat):Prop where
 l:i.natAbs.log2<1920
 s:(PyData.int i).shown.length<=40
 w:(if (i==0)=true then 0 else i.natAbs.log2+1)+1<=w
theorem yR {k:Nat}(h:i.natAbs<2 ^ k)(hk:0<k)(h2:k<=100):Nm i (k+1):=by
 have l:=wM h hk;have p:(2:Nat) ^ k<=2 ^ 100:=Nat.pow_le_pow_right (by decide) h2;have q:(2:Nat) ^ 100<10 ^ 31:=by decide
 refine⟨by lia,?_,by split<;>lia⟩;have e:=int_text_length_le10 (k:=31) (by decide) (a:=i) (by lia);show (Str.ofString (toString i)).length<=40;rw[ofString_length]
 lia
theorem jN (h:gB i):Nm i 31:=yR (k:=30) (by obtain⟨a,b⟩:=h;lia) (by decide) (by decide)
theorem oV (h:∀p∈ps,PrR p)(l:ps.length<=1000):Okd 65000 (.list (ps.map pD)):=by
 have row:PyData.showableAll (ps.map pD)=true/\PyData.leavesShortAll 40 (ps.map pD)=true/\PyData.depthAll (ps.map pD)<=3/\PyData.weightAll (ps.map pD)<=64 * ps.length:=by
  clear l
  induction ps with
  | nil=>exact⟨rfl,rfl,by simp[PyData.depthAll],by simp[PyData.weightAll]⟩
  | cons p ps ih=>
   obtain⟨a,b,c,e⟩:=ih fun q hq=>h q (aX _ hq);have hp:=h p (bt ..);have n1:=jN hp.1;have n2:=jN hp.2;have w1:=n1.w;have w2:=n2.w;simp only[bX,PyData.showableAll,PyData.leavesShortAll,PyData.depthAll,PyData.weightAll,pD,PyData.showable,PyData.leavesShort,PyData.depth,PyData.weight,aR]
   refine⟨by rw[a,aq n1.l,aq n2.l];rfl,by rw[b,aq n1.s,aq n2.s];rfl,by lia,by lia⟩
 obtain⟨a,b,c,e⟩:=row;refine⟨a,b,?_,?_⟩
 ·simp only[PyData.depth];lia
 ·simp only[PyData.weight];lia
theorem ww (x:Okd n d)(h:n<=m):Okd m d:=⟨x.sh,x.lv,x.dp,Nat.le_trans x.wt h⟩
inductive spStands (c:Cs)(vs:List V)(H:Hp)(Q:VK)(E:XK):Prop
 | mk (x g d:Addr)(ps:List (Int×Int)):vs=[.ref x,.ref d]->IsP c H x g ps->H d=some (.dK (kL ps))->ps.length<=1000->(ps.map (·.1)).Nodup->(∀p∈ps,PrR p)->(∀H',aZ H H'->Q (.bl true) H')->spStands c vs H Q E
theorem jL:Ok F F.r.d__law_stands 4 (spStands c):=by
 have T:=F.r.T;have C_Plain:=F.cP;refine F.r.d__law_stands.go fun sc H Q hr h=>?_;obtain⟨x,g,d,ps,rfl,Y,hd,lp,nd,pr,k⟩:=h;obtain⟨s,hs⟩:=jz nd
 refine⟨_,(am (mU (i:=2) (eh ["_law_store"] [1]) rfl (cZ (aN (fG (hr.hd rfl)) rfl T.n_sorted eQ (pa1 (pv 1)))) (fun _ _ _ _ _=>PTs.nil) (fun _ _ _ _ _=>(bR (pa2 (pv 0) (oP (lf hr) (pv 1) (pv 0) (fun _ _=>rfl))))) sc.nd rfl rfl)
  (am (gn PassesOwn.never rfl (jF rfl T.n_range (pa1 ai)) (fk sc 3)
   (am (dX sc 4 (wg (pv 0) C_Plain (mh F) hr))
  (am (bF (PW.pt (eF (ci (bH (aN bZ rfl T.n_isinstance bA (pa2 (pv 4) (cF (v:=.ty "list") rfl T.n_list eR rfl))))) (dL (pc jJ (aN (cp hr.gd hr.units) rfl T.n_repr dR (pa1 (pv 4))) (aN (cp hr.gd hr.units) rfl T.n_repr dR (pa1 (pv 2)))))))
   (aw (aL cO))
   aW)
  (aw (cE (kG cg PySem.F.slot_list_append PySem.F.type_list_append cR (pv 4) (pa1 (bR (pa2 ai ai)))))))))
  (aw (aL cO)))),?_⟩
 walk;refine comp_in ?_;walk;refine⟨d,_,ps.map (·.1),rfl,.inl hd,jf ps,by rw[au];exact lp,fun ns' pm pw l5 f5=>?_⟩;cases lO hs pm pw;generalize eH:upd H l5 _=H1;have S1:aZ H H1:=eH▸aZ.upd f5;have e5:H1 l5=some (.lst ((s.map (·.1)).map V.int)):=eH▸ay;clear eH;have ls:s.length<=1000:=by rw[hs.1.length_eq];exact lp
 walk;refine dQ (J:=Itl K l5) (H1:=H1) s.length (fun R z=>z) (fun D i H2=>aZ H1 H2/\∃us,H2 D=some (.lst (us.map V.ref))/\fj H2 us (s.take i)) (fun D fD=>⟨aZ.upd fD,[],ay,⟨rfl,fun j t x e=>by cases e⟩⟩) (fun D i H2 fD lt ⟨S2,us,eD,tD⟩=>?_) (fun D H2 fD ⟨S2,us,eD,tD⟩=>?_)
 ·have ep:s[i]?=some s[i]:=List.getElem?_eq_getElem lt;have hp:s[i]∈ps:=sI hs ep;generalize s[i]=p at ep hp;have e52:=S2 _ _ e5;refine⟨hV e52 (by rw[au,au];exact lt),fun v H3 yl R zz=>?_⟩;obtain⟨rfl,ev⟩:=fE e52 yl;rw[map_map,aQ,ep] at ev;obtain rfl:v=.int p.1:=(aG ev).symm;refine dk ?_;unfold pL;walk
  refine kW (k:=Sum.inl p.1) (S2 _ _ (S1 _ _ hd)) (by rw[fi,qd nd hp];rfl) ?_;walk;refine ef fun t H7 ft S7 et=>?_;have ntD:t≠D:=fun z=>by subst z;rw[eD] at ft;cases ft
  have nD:∀{u:Addr} {xs:List V},H3 u=some (.tup xs)->u≠D:=fun e z=>by subst z;rw[eD] at e;cases e
  refine⟨_,S7 _ _ eD,by rw[au,tD.1,aF];exact lt_of_le_of_lt (m:=1000) (by lia) (by decide),zz _ ⟨im (S2.trans S7) fD,us++[t],by rw[ay,dU];rfl,?_⟩⟩;rw[take_add_one,ep];refine fj.app (tD.keep fun b xs e=>?_) ((aE ntD).trans et);rw[aE (nD e)];exact S7 _ _ e
 ·refine⟨by have:=d9 (K:=K) (S2 _ _ e5);rwa[au,au] at this,?_⟩;rw[take_length] at tD;have S02:=S1.trans S2;walk;refine tq (by decide) (by decide) ?_;have prs:∀p∈s,PrR p:=fun p hp=>pr p (hs.1.mem_iff.mp hp);have okd:Okd 100000 (.list (s.map pD)):=ww (oV prs ls) (by decide)
  have dvD:∀{H':Hp},aZ H2 H'->DV (fun _=>False) H' (.ref D) (.list (s.map pD)):=fun S=>.lst (fun z=>z) (S _ _ eD) (dt (tD.keep fun b xs e=>S _ _ e) fun _ _ z=>z);refine oC (fun i σ H3=>∃(o3 o4:Option V),σ=[some (.ref x),some (.ref d),some (.ref D),o3,o4]/\aZ H2 H3) ⟨_,_,rfl,aZ.refl _⟩ ?_ ?_
  ·rintro i σ H3 hi ⟨o3,o4,rfl,S3⟩;obtain⟨dx,hx⟩:=Y.x;have hx3:=S3 _ _ (S02 _ _ hx);walk;refine⟨x,g,ps,rfl,⟨⟨dx,hx3⟩,S3 _ _ (S02 _ _ Y.g)⟩,lp,nd,fun s' so l ts H7 fl S7 el tu fr=>?_⟩;cases lM hs so;walk;refine⟨_,_,_,true,rfl,.lst el,.inl ⟨"list",rfl,by kernel_rfl⟩,?_⟩;walk;refine⟨.ref l,fun _=>False,_,rfl,.lst (fun z=>z) el (dt tu fun _ _ z=>z),okd,?_⟩;walk
   refine⟨.ref D,fun _=>False,_,rfl,dvD (S3.trans S7),okd,?_⟩;walk;refine iteNX (aq rfl) ?_;walk;refine ef fun t H8 ft S8 et=>?_;walk;refine dJ (S8 _ _ el) (by rw[au,tu.1];exact lt_of_le_of_lt ls (by decide)) ?_;walk;exact⟨_,_,rfl,im (S3.trans (S7.trans S8)) (S3.free fl)⟩
  ·rintro σ H3 ⟨o3,o4,rfl,S3⟩;walk;exact k H3 (S02.trans S3)
structure House (c:Cs)(H:Hp)(x g d:Addr)(ps:List (Int×Int)):Prop where
 p:IsP c H x g ps
 d:H d=some (.dK (kL ps))
 l:ps.length<=1000
 nd:(ps.map (·.1)).Nodup
 r:∀p∈ps,PrR p
inductive spHouse (c:Cs)(vs:List V)(H:Hp)(Q:VK)(E:XK):Prop
 | mk (p:Addr)(n:Nat):vs=[.ref p]->Box H p n->n+3000<=1000000 ->
   (∀t x g d ps H',House c H' x g d ps->ps.length<=400->H t=none->H x=none->H g=none->H d=none->g≠d->H' t=some (.tup [.ref x,.ref d])->Box H' p (n+3000)->KB p H H'->Q (.ref t) H')->spHouse c vs H Q E
theorem sV:∀{ps qs:List (Int×Int)},ps.map pD=qs.map pD->ps=qs
 | [],[],_=>rfl
 | [],_::_,h=>nomatch h
 | _::_,[],h=>nomatch h
 | (a,b)::ps,(c,d)::qs,h=>by
  have h0:PyData.tuple [.int a,.int b]::ps.map pD=PyData.tuple [.int c,.int d]::qs.map pD:=h;injection h0 with h1 h2;injection h1 with h1;injection h1 with h3 h1;injection h3 with h3;injection h1 with h4 _;injection h4 with h4;subst h3 h4;rw[sV h2]
theorem jI (hd:iF d=true)(ed:fQ d=ps.map pD)(pw:ps.Pairwise plt)(pr:∀p∈ps,PrR p):cB d=true:=by
 unfold cB;rw[hd,ed,Bool.true_and,and_eq_true];refine⟨?_,aq ?_⟩
 ·rw[all_map,all_eq_true];intro p hp;obtain⟨⟨a,b⟩,c,e⟩:=pr p hp;show (dc (.int p.1)&&dc (.int p.2))=true;show (inR _ _ p.1&&inR _ _ p.2)=true;rw[uR a b,uR c e];rfl
 ·rw[ja,pairwise_map];exact pw
theorem kS (dv:DV N H5 v d)(hd:iF d=true)(ed:fQ d=ps.map pD)(pw:ps.Pairwise plt)(pr:∀p∈ps,PrR p)(lz:ps.length<=1000)
  (k:∀y g H8,H5 y=none->H5 g=none->aZ H5 H8->IsP c H8 y g ps->Q (.ref y) H8):xG c.P (spPI c) [] E Q [v] H5:=by
 intro y dy fy fdy _;have S6:aZ H5 (upd (upd H5 dy (.own y)) y (.ins c.P dy [])):=fun b o q=>kO fy fdy q;generalize eH:upd (upd H5 dy (.own y)) y _=H6 at S6 ⊢;have ey:H6 y=some (.ins c.P dy []):=eH▸ay;clear eH;have pd:=jI hd ed pw pr;refine⟨N,y,dy,v,d,rfl,ey,cx dv S6,by rw[ed,au];lia,fun _ ps' ed' _ _ H7 g S7 fg=>?_,fun z=>by rw[pd] at z;cases z⟩
 cases sV (ed.symm.trans ed');have ngy:g≠y:=fun z=>by subst z;rw[S7 _ _ ey] at fg;cases fg
 refine⟨rfl,k y g _ fy (S6.free (S7.free fg)) (fun b u e=>?_) ⟨⟨dy,ay⟩,by rw[aE ngy,ay]⟩⟩;rw[aE (ao e fy),aE (ao (S7 _ _ (S6 _ _ e)) fg)];exact S7 _ _ (S6 _ _ e)
theorem lu (el:jo tp H5 l (ts.map V.ref))(tu:fj H5 ts ps)(nd:(ps.map (·.1)).Nodup)(k:∀d,H5 d=none->Q (.ref d) (upd H5 d (.dK (kL ps)))):∃tp,sN tp [.ref l] H5 Q:=by
 refine⟨tp,l,ts,kL ps,rfl,el,tu.1.trans (pP ps).symm,?_,fun i t k u e1 e2=>?_,k⟩
 ·rw[jf];exact(pairwise_map.mpr ((List.nodup_iff_pairwise_ne.mp nd).imp fun h e=>h (Sum.inl.inj e)))
 ·unfold kL at e2;rw[aQ] at e2;cases ep:ps[i]? with
  | none=>rw[ep] at e2;cases e2
  | some p=>
   rw[ep] at e2;cases e2;exact tu.2 i t p e1 ep
theorem mi:Ok F F.r.d__law_house 10 (spHouse c):=by
 obtain⟨f,fd,XPlain⟩:=F.PX;have GPlain:=iX F XPlain;refine F.r.d__law_house.go fun sc H Q hr h=>?_;obtain⟨p,n,rfl,b,hn,k⟩:=h
 refine⟨_,(am (dX sc 1 (bO cw (bM (bG F) hr (pa2 (pv 0) ai)) ai (cm _)))
  (am (dX sc 2 (bM (jM F) hr (pa2 (pv 0) (iU (bH (pv 1)) ai (bM (bG F) hr (pa2 (pv 0) ai))))))
  (am (bF (pc cw (bM (bG F) hr (pa2 (pv 0) ai)) ai)
   (aw (aL (bR (pa2 (gN XPlain.mak GPlain (hr.mono (by decide)) rfl XPlain.m XPlain.bi .nil oR (pa1 (cQ jm rfl F.r.T.n_tuple e_ (pa1 (pv 2))))) (cQ (eZ (hr.hd rfl)) rfl F.r.T.n_dict jn (pa1 (pv 2)))))))
   aW)
  (am (dX sc 3 (cQ gy rfl F.r.T.n_list eR (pa1 (pv 2))))
  (am (dX sc 4 (gN XPlain.mak GPlain (hr.mono (by decide)) rfl XPlain.m XPlain.bi .nil oR (pa1 (pv 3))))
  (am (cE (sU cg PySem.F.slot_list_clear PySem.F.type_list_clear mq (pv 3)))
  (aw (aL (bR (pa2 (pv 4) (cQ (eZ (hr.hd rfl)) rfl F.r.T.n_dict jn (pa1 (pv 2))))))))))))),?_⟩
 walk;refine⟨p,16,n,rfl,b,by lia,by decide,by decide,fun r1 H1 r10 r11 b1 k1=>?_⟩;walk;refine' iq (fun _=>?h1) (fun _=>?h2)
 case' h1=>
  walk;have kb0:=k1;have bb:Box H1 p (n+2):=b1.mono (by lia);have m0:(0:Int)<=400/\(400:Int)<=400:=by decide
  clear b1 k1;generalize H1=H2 at *
 case' h2=>
  walk;refine⟨p,31,n+1,rfl,b1,by lia,by decide,by decide,fun m H2 m0 m1 b2 k2=>?_⟩;walk;have kb0:=KB.trans k1 k2;have bb:Box H2 p (n+2):=b2;have m0:0<=m/\m<=400:=⟨m0,by lia⟩
 all_goals
  refine⟨p,n+2,_,rfl,bb,m0.1,m0.2,by lia,fun l ts ps H3 lps pw pr fl el tu fr b3 k3=>?_⟩;have l400:ps.length<=400:=by rw[lps];have:=m0.2;lia
  have nd:(ps.map (·.1)).Nodup:=by
   rw[List.nodup_iff_pairwise_ne,pairwise_map];exact pw.imp fun h=>Int.ne_of_lt h
  walk;refine⟨p,2,n+2+2000,rfl,b3,by lia,by decide,by decide,fun r4 H4 r40 r41 b4 k4=>?_⟩;walk;have k04:=KB.trans kb0 (KB.trans k3 k4);have nlp:l≠p:=(bb.ne fl);have el4:=k4 _ _ el nlp;have nP:∀{u:Addr} {xs:List V},H3 u=some (.tup xs)->u≠p:=fun e z=>by subst z;obtain⟨ys,ey⟩:=b3.lst;rw[e] at ey;cases ey
  have tu4:fj H4 ts ps:=tu.keep fun b xs e=>k4 _ _ e (nP e);have pd:∀{H':Hp},aZ H4 H'->∀{a:Addr},H' a=some (.lst (ts.map V.ref))->DV (fun _=>False) H' (.ref a) (.list (ps.map pD)):=fun S a e=>.lst (fun z=>z) e (dt (tu4.keep fun b xs e=>S _ _ e) fun _ _ z=>z)
  have pdt:∀{H':Hp},aZ H4 H'->∀{a:Addr},H' a=some (.tup (ts.map V.ref))->DV (fun _=>False) H' (.ref a) (.tuple (ps.map pD)):=fun S a e=>.tup (fun z=>z) e (dt (tu4.keep fun b xs e=>S _ _ e) fun _ _ z=>z);have fr0:∀{a:Addr} {H':Hp},aZ H4 H'->H' a=none->H a=none:=fun S f=>bW k04 (S.free f) (b4.ne (S.free f));refine iq (fun _=>?_) (fun _=>?_)
  ·walk;refine⟨l,_,rfl,.inl ⟨SqL.of el4,fun l5 f5=>?_⟩⟩;generalize eH:upd H4 l5 _=H5;have S5:aZ H4 H5:=eH▸aZ.upd f5;have e5:H5 l5=some (.tup (ts.map V.ref)):=eH▸ay;clear eH;walk;refine kS (pdt S5 e5) rfl rfl pw pr (by lia) fun y g H8 fy fg S8 Y=>?_;have S48:=S5.trans S8;walk;refine lu (tp:=false) (S48 _ _ el4) (tu4.keep fun b xs e=>S48 _ _ e) nd fun d fd=>?_
   generalize eH:upd H8 d _=H9;have S9:aZ H8 H9:=eH▸aZ.upd fd;have ed:H9 d=some (.dK (kL ps)):=eH▸ay;clear eH;walk;refine ef fun t H10 ft S10 et=>?_;have S810:=S9.trans S10;obtain⟨dx,hx⟩:=Y.x;have S410:=S48.trans S810
   exact k t y g d ps H10 ⟨⟨⟨dx,S810 _ _ hx⟩,S810 _ _ Y.g⟩,S10 _ _ ed,by lia,nd,pr⟩ l400 (fr0 (S48.trans S9) ft) (fr0 S5 fy) (fr0 S5 fg) (fr0 S48 fd) (fun z=>by subst z;rw[Y.g] at fd;cases fd) et (((b4.same S410)).mono (by lia)) (KB.trans k04 S410.kb)
  ·walk;refine⟨l,_,rfl,.inl (SqL.of el4),fun l5 f5=>?_⟩;generalize eH:upd H4 l5 _=H5;have S5:aZ H4 H5:=eH▸aZ.upd f5;have e5:H5 l5=some (.lst (ts.map V.ref)):=eH▸ay;clear eH;walk;refine kS (pd S5 e5) rfl rfl pw pr (by lia) fun y g H8 fy fg S8 Y=>?_;have S48:=S5.trans S8;have e58:=S8 _ _ e5;have ny5:y≠l5:=fun z=>by subst z;rw[e5] at fy;cases fy
   have ng5:g≠l5:=fun z=>by subst z;rw[e5] at fg;cases fg
   walk;unfold yi;walk;refine⟨.inl ⟨rfl,_,SqL.of e58⟩,l5,_,rfl,rfl,e58,?_⟩;have S49:aZ H4 (upd H8 l5 (.lst [])):=im S48 f5;obtain⟨dx,hx⟩:=Y.x;have hx9:upd H8 l5 (.lst []) y=some (.ins c.P dx [("good_by_key",.ref g)]):=(aE ny5).trans hx;have hg9:upd H8 l5 (.lst []) g=some (.dK (kL ps)):=(aE ng5).trans Y.g;generalize upd H8 l5 (.lst [])=H9 at *;walk
   refine lu (tp:=false) (S49 _ _ el4) (tu4.keep fun b xs e=>S49 _ _ e) nd fun d fd=>?_;generalize eH:upd H9 d _=H10;have S10:aZ H9 H10:=eH▸aZ.upd fd;have ed:H10 d=some (.dK (kL ps)):=eH▸ay;clear eH;walk;refine ef fun t H11 ft S11 et=>?_;have S911:=S10.trans S11;have S411:=S49.trans S911
   exact k t y g d ps H11 ⟨⟨⟨dx,S911 _ _ hx9⟩,S911 _ _ hg9⟩,S11 _ _ ed,by lia,nd,pr⟩ l400 (fr0 (S49.trans S10) ft) (fr0 S5 fy) (fr0 S5 fg) (fr0 S49 fd) (fun z=>by subst z;rw[hg9] at fd;cases fd) et ((b4.same S411).mono (by lia)) (KB.trans k04 S411.kb)
theorem vn:UnR X (unaryOp .USub) (fun x H Q=>x=.int 1/\Q (.int (-1)) H):=fun pins s σ H x v Q I r ⟨e,q⟩=>lI pins s σ H x v Q I r ⟨1,e,q⟩
def Mu (H:Hp)(b:Addr):Prop:=∃o,H b=some o/\∀xs,o≠.tup xs
theorem yU (e:H' b=some (.tup xs))(k:∀o,H b=some o->(∀ys,o≠.tup ys)->H' b=some o):¬Mu H b:=fun⟨o,eo,n⟩=>by
 have:=k o eo n;rw[e] at this;cases this;exact n _ rfl
theorem ku {k n:Nat}:∀{ds:List PyData},(∀d∈ds,Shw k n d)->PyData.showableAll ds=true/\PyData.leavesShortAll 40 ds=true/\PyData.depthAll ds<=k/\PyData.weightAll ds<=(n+1) * ds.length
 | [],_=>⟨rfl,rfl,by simp[PyData.depthAll],by simp[PyData.weightAll]⟩
 | d::ds,h=>by
  obtain⟨a,b,c,e⟩:=ku fun x hx=>h x (aX d hx);have hd:=h d (bt ..);have:=hd.dp;have:=hd.wt;simp only[PyData.showableAll,PyData.leavesShortAll,PyData.depthAll,PyData.weightAll,aR];refine⟨by rw[a,hd.sh];rfl,by rw[b,hd.lv];rfl,by lia,by rw[Nat.mul_add];lia⟩
theorem qL {k:Nat}{ds:List PyData}(h:∀d∈ds,Shw k n d):Shw (k+1) ((n+1) * ds.length+1) (.tuple ds):=by
 obtain⟨a,b,c,e⟩:=ku h;refine⟨a,b,?_,?_⟩
 ·simp only[PyData.depth];lia
 ·simp only[PyData.weight];lia
theorem qM {k:Nat}{ds:List PyData}(h:∀d∈ds,Shw k n d):Shw (k+1) ((n+1) * ds.length+1) (.list ds):=by
 obtain⟨a,b,c,e⟩:=ku h;refine⟨a,b,?_,?_⟩
 ·simp only[PyData.depth];lia
 ·simp only[PyData.weight];lia
theorem Shw.up {k l:Nat}(x:Shw k n d)(h1:k<=l)(h2:n<=m):Shw l m d:=⟨x.sh,x.lv,Nat.le_trans x.dp h1,Nat.le_trans x.wt h2⟩
theorem Shw.okd {k:Nat}(x:Shw k n d)(h:k<=20)(h2:n<=100000):Okd 100000 d:=⟨x.sh,x.lv,Nat.le_trans x.dp h,Nat.le_trans x.wt h2⟩
theorem cD (h:gB i):Shw 2 500 (.int i):=by
 have n:=jN h;have:=n.w;refine⟨by simp only[PyData.showable];exact aq n.l,by simp only[PyData.leavesShort];exact aq n.s,by simp[PyData.depth],?_⟩;simp only[PyData.weight]
 lia
theorem tL (q:Cl):DVs N H q.vs q.ds:=by
 cases q with
 | span b lo hi=>cases hi with
  | none=>exact .cons (.str _) (.cons (.int _) (.cons .non .nil))
  | some h=>exact .cons (.str _) (.cons (.int _) (.cons (.int _) .nil))
 | find k=>exact .cons (.str _) (.cons (.int _) .nil)
 | take k=>exact .cons (.str _) (.cons (.int _) .nil)
 | put k g=>exact .cons (.str _) (.cons (.int _) (.cons (.int _) .nil))
theorem tK {q:Cl}(h:q.In):∀d∈q.ds,Shw 2 500 d:=by
 cases q with
 | find k=>intro d hd;simp only[Cl.ds,aV,aP,or_false] at hd;rcases hd with rfl|rfl<;>first|exact bB|exact cD h
 | take k=>intro d hd;simp only[Cl.ds,aV,aP,or_false] at hd;rcases hd with rfl|rfl<;>first|exact bB|exact cD h
 | put k g=>intro d hd;simp only[Cl.ds,aV,aP,or_false] at hd;rcases hd with rfl|rfl|rfl<;>first|exact cD h.1|exact cD h.2|exact bB
 | span b lo hi=>
  intro d hd;simp only[Cl.ds,aV,aP,or_false] at hd;rcases hd with rfl|rfl|rfl
  ·cases b<;>exact bB
  ·exact cD h.1
  ·cases hi with
   | none=>exact bB
   | some i=>exact cD (h.2 i rfl).1
def gk (N:Addr->Prop)(H:Hp)(vs:List V):Prop:=∀v∈vs,∃d,DV N H v d/\Shw 2 500 d
theorem gk.ds {N:Addr->Prop}{H:Hp}:∀{vs:List V},gk N H vs->∃ds,DVs N H vs ds/\∀d∈ds,Shw 2 500 d
 | [],_=>⟨[],.nil,fun _ z=>by cases z⟩
 | v::vs,h=>by
  obtain⟨d,x,s⟩:=h v (bt ..);obtain⟨ds,xs,ss⟩:=gk.ds fun u hu=>h u (aX v hu);refine⟨d::ds,.cons x xs,fun e he=>?_⟩;rcases aV.mp he with rfl|he
  ·exact s
  ·exact ss e he
theorem gk.sub {vs us}(h:gk N H vs)(s:∀v∈us,v∈vs):gk N H us:=fun v hv=>h v (s v hv)
theorem gk.app {vs us}(h:gk N H vs)(g:gk N H us):gk N H (vs++us):=fun v hv=>(ba.mp hv).elim (h v) (g v)
theorem gk.keep {vs}(h:gk N H vs)(k:∀a o,¬N a->H a=some o->H' a=some o):gk N H' vs:=fun v hv=>let⟨d,x,s⟩:=h v hv;⟨d,x.keep k fun _ z=>z,s⟩
theorem d_ {lo hi:Option Int}:∀v∈lB xs lo hi,v∈xs:=fun v hv=>by
 unfold lB at hv
 first|exact mem_of_mem_drop (mem_of_mem_take hv)|exact mem_of_mem_take (mem_of_mem_drop hv)
theorem f_ {q:Cl}(h:q.In):gk N H q.vs:=by
 cases q with
 | span b lo hi=>
  intro v hv;simp only[Cl.vs,aV,aP,or_false] at hv;rcases hv with rfl|rfl|rfl
  ·exact⟨_,.str _,by cases b<;>exact bB⟩
  ·exact⟨_,.int _,cD h.1⟩
  ·cases hi with
   | none=>exact⟨_,.non,bB⟩
   | some i=>exact⟨_,.int _,cD (h.2 i rfl).1⟩
 | find k|take k=>
  intro v hv;simp only[Cl.vs,aV,aP,or_false] at hv;rcases hv with rfl|rfl
  ·exact⟨_,.str _,bB⟩
  ·exact⟨_,.int _,cD h⟩
 | put k g=>
  intro v hv;simp only[Cl.vs,aV,aP,or_false] at hv;rcases hv with rfl|rfl|rfl
  ·exact⟨_,.str _,bB⟩
  ·exact⟨_,.int _,cD h.1⟩
  ·exact⟨_,.int _,cD h.2⟩
theorem m8 (bx:Box H' p n)(kb:KB p H H')(e:H' b=some (.tup xs)):¬Mu H b:=yU e fun o eo no=>by
 by_cases z:b=p
 ·subst z;obtain⟨ys,ey⟩:=bx.lst;rw[e] at ey;cases ey
 ·exact kb _ _ eo z
inductive spSpoilt (vs:List V)(H:Hp)(Q:VK)(E:XK):Prop
 | mk (p a:Addr)(n:Nat)(q:Cl):vs=[.ref p,.ref a]->Box H p n->n+10<=1000000->H a=some (.tup q.vs)->q.In->(∀y d H',DV (Mu H) H' y d->Shw 3 5000 d->Box H' p (n+10)->KB p H H'->Q y H')->spSpoilt vs H Q E
theorem oW:Ok F F.r.d__law_spoilt 3 spSpoilt:=by
  refine F.r.d__law_spoilt.go fun sc H Q hr h=>?_;obtain⟨p,a,n,q,rfl,b,hn,ha,qi,k⟩:=h;refine'⟨_,?h,?r⟩
  case h=>
    refine' am ?s ?t
    case s=>exact(dX sc 2 (bM (bG F) hr (pa2 (pv 0) (br dh (aN bE rfl F.r.T.n_len d7 (pa1 (pv 1))) ai))))
    case t=>
     refine' am ?s ?t
     case s=>exact(dX sc 3 (bM (bG F) hr (pa2 (pv 0) ai)))
     case t=>
      refine' am ?s ?t
      case s=>exact(bF (pc cw (pv 3) ai)
      (aw (aL (br d8 (bU dO (pv 1) cr (cq (pv 2))) (bU dO (pv 1) (cq (br dh (pv 2) ai)) cr))))
      aW)
      case t=>
       refine' am ?s ?t
       case s=>exact(bF (pc cw (pv 3) ai)
      (aw (aL (br d8 (br d8 (bU dO (pv 1) cr (cq (pv 2))) (bR (pa1 (bM (sW F) hr (pa1 (pv 0)))))) (bU dO (pv 1) (cq (pv 2)) cr))))
      aW)
       case t=>
        refine' am ?s ?t
        case s=>
          refine' bF (pc cw (pv 3) ai) ?b aW
          case b=>
            with_reducible refine' aw ?r1
            case r1=>
              with_reducible refine' aL ?r2
              case r2=>
                with_reducible refine' br d8 ?ra ?rb
                case rb=>exact(bU dO (pv 1) (cq ai) cr)
                case ra=>
                  with_reducible refine' bR ?rt
                  case rt=>
                    with_reducible refine' cJ ?re ?rs ck
                    case rs=>rfl
                    case re=>
                      with_reducible refine' qY bz ?l ?i ?pi
                      case i=>exact(bM (bG F) hr (pa2 (pv 0) ai))
                      case pi=>exact fun _ _=>rfl
                      case l=>with_reducible exact bD (cX (cX (cX (cX (cX (cX (cX (cX ck))))))))
        case t=>
         refine' am ?s ?t
         case s=>exact(bF (pc cw (pv 3) ai)
      (aw (aL (cQ gy rfl F.r.T.n_list eR (pa1 (pv 1)))))
      aW)
         case t=>
          refine' am ?s ?t
          case s=>exact(bF (pc cw (pv 3) ai)
      (aw (aL (br d8 (bU dO (pv 1) cr (cq ai)) (ur (bU dO (pv 1) (cq ai) cr) (oO vn ai)))))
      aW)
          case t=>
           refine' am ?s ?t
           case s=>
             refine' bF (pc cw (pv 3) ai) ?b aW
             case b=>
               with_reducible refine' aw ?r1
               case r1=>
                 with_reducible refine' aL ?r2
                 case r2=>
                   with_reducible refine' qY bz ?l ?i ?pi
                   case i=>exact(bM (bG F) hr (pa2 (pv 0) ai))
                   case pi=>exact fun _ _=>rfl
                   case l=>with_reducible exact bD (ma (gR ck (oS ck (kI (cX (dZ (oU (gR (cX ck) (gR (cX ck) (gR (cX ck) ck))))))))))
           case t=>
            exact aw (aL (br d8 (br d8 (bU dO (pv 1) cr (cq (pv 2))) (bR (pa1 (bM (sW F) hr (pa1 (pv 0)))))) (bU dO (pv 1) (cq (br dh (pv 2) ai)) cr)))
  case r=>
  have vl:q.vs.length<=3:=by cases q<;>exact le_of_ble_eq_true rfl
  have nap:a≠p:=fun z=>by subst z;obtain⟨ys,ey⟩:=b.lst;rw[ha] at ey;cases ey
  have tp:∀{H':Hp} {u:Addr} {xs:List V} {m:Nat},H' u=some (.tup xs)->Box H' p m->u≠p:=fun e bx z=>by subst z;obtain⟨ys,ey⟩:=bx.lst;rw[e] at ey;cases ey
  have fin:∀(y:Addr) (xs:List V) (H':Hp),H' y=some (.tup xs)->gk (Mu H) H' xs->xs.length<=8->Box H' p (n+10)->KB p H H'->Q (.ref y) H':=fun y xs H' e al ln bx kb=>by
    obtain⟨ds,dv,ss⟩:=al.ds;refine k (.ref y) (.tuple ds) H' (.tup (m8 bx kb e) e dv) ((qL ss).up (by decide) ?_) bx kb;have:=dv.length;have:ds.length<=8:=by lia
    lia
  walk;refine⟨a,_,rfl,.inr (SqT.of ha),?_⟩;walk;refine⟨p,(q.vs.length:Int)+1,n,rfl,b,by lia,by lia,by lia,fun wx H1 wx0 wx1 b1 k1=>?_⟩;walk;refine⟨p,8,n+1,rfl,b1,by lia,by decide,by decide,fun wy H2 w0 w1 b2 k2=>?_⟩;have K2:=KB.trans k1 k2;have ha2:=K2 _ _ ha nap;walk;refine iq (fun h0=>?_) (fun h0=>?_)
  · walk
    refine⟨a,_,rfl,ha2,fun p1 H3 S3 e1=>?_⟩;walk;refine⟨a,_,rfl,S3 _ _ ha2,fun p2 H4 S4 e2=>?_⟩;walk;refine⟨p1,p2,_,_,rfl,rfl,S4 _ _ e1,e2,Nat.le_trans (add_le_add (Nat.le_trans (bg _ _ _) vl) (Nat.le_trans (bg _ _ _) vl)) (by decide),fun p3 H5 S5 e3=>?_⟩;have S25:=S3.trans (S4.trans S5)
    refine fin p3 _ H5 e3 ((gk.sub (f_ qi) d_).app (gk.sub (f_ qi) d_)) ?_ ((b2.same S25).mono (by lia)) (KB.trans K2 S25.kb);rw[aB];exact Nat.le_trans (add_le_add (Nat.le_trans (bg _ _ _) vl) (Nat.le_trans (bg _ _ _) vl)) (by decide)
  walk;refine iq (fun h1=>?_) (fun h1=>?_)
  · walk
    refine⟨a,_,rfl,ha2,fun p1 H3 S3 e1=>?_⟩;have B2:=b2.same S3;have K2:=KB.trans K2 S3.kb;walk;refine⟨p,n+2,rfl,B2,by lia,fun y d H4 yd b4 k4=>?_⟩;have k24:=KB.trans K2 k4
    have yA:gk (Mu H) H4 [y]:=fun v hv=>by
      cases a_.mp hv;refine⟨d,yd.1.keep (fun _ _ _ e=>e) fun b ⟨o,eo,_⟩ z=>?_,yd.2⟩;by_cases zp:b=p
      · subst zp
        obtain⟨ys,ey⟩:=B2.lst;rw[z] at ey;cases ey
      · rw[K2 _ _ eo zp] at z;cases z
    have e14:=k4 _ _ e1 (tp e1 B2);walk;refine ef fun p5 H5 f5 S5 e5=>?_;walk;refine⟨p1,p5,_,_,rfl,rfl,S5 _ _ e14,e5,by show _+1<=_;exact Nat.le_trans (add_le_add_right (Nat.le_trans (bg _ _ _) vl) 1) (by decide),fun p6 H6 S6 e6=>?_⟩;have k26:=KB.trans k24 (S5.trans S6).kb;have B6:Box H6 p (n+3):=(b4.same (S5.trans S6));walk;refine⟨a,_,rfl,k26 _ _ ha nap,fun p7 H7 S7 e7=>?_⟩;walk
    refine⟨p6,p7,_,_,rfl,rfl,S7 _ _ e6,e7,?_,fun p8 H8 S8 e8=>?_⟩
    · rw[aB]
      have h1:=Nat.le_trans (bg q.vs none (some wx)) vl;exact Nat.le_trans (add_le_add (add_le_add_right h1 1) (Nat.le_trans (bg _ _ _) vl)) (by decide)
    have S68:=S7.trans S8;have S48:=(S5.trans S6).trans S68;refine fin p8 _ H8 e8 (((gk.sub (f_ qi) d_).app (yA.keep fun b o no e=>S48 _ _ e)).app (gk.sub (f_ qi) d_)) ?_ ((B6.same S68).mono (by lia)) (KB.trans k26 S68.kb);rw[aB,aB];have h1:=Nat.le_trans (bg q.vs none (some wx)) vl;have h2:=fun lo hi=>Nat.le_trans (bg q.vs lo hi) vl
    exact Nat.le_trans (add_le_add (add_le_add_right h1 1) (h2 _ _)) (by decide)
  walk;refine iq (fun h2=>?_) (fun h2=>?_)
  · walk
    refine dS fun l1 H3 f1 S3 e1=>?_;walk;refine⟨p,8,n+2,rfl,b2.same S3,by lia,by decide,by decide,fun r4 H4 r40 r41 b4 k4=>?_⟩;obtain⟨v,hv,ev⟩:=fH (xs:=[.str "find",.str "put",.str "take",.str "parts",.str "whole",.str "Put",.str "join",.str "sink"]) r40 (by simp;lia)
    have vA:∀{H':Hp},gk (Mu H) H' [v]:=fun u hu=>by
      cases a_.mp hu;simp only[aV,aP,or_false] at hv;rcases hv with rfl|rfl|rfl|rfl|rfl|rfl|rfl|rfl<;>exact⟨_,.str _,bB⟩
    refine df (k4 _ _ e1 (b2.ne f1)) ev ?_;have K4:=KB.trans K2 (KB.trans S3.kb k4);walk;refine ef fun p5 H5 f5 S5 e5=>?_;walk;refine⟨a,_,rfl,S5 _ _ (K4 _ _ ha nap),fun p6 H6 S6 e6=>?_⟩;walk;refine⟨p5,p6,_,_,rfl,rfl,S6 _ _ e5,e6,Nat.le_trans (Nat.add_le_add_left (Nat.le_trans (bg _ _ _) vl) 1) (by decide),fun p7 H7 S7 e7=>?_⟩;have S47:=S5.trans (S6.trans S7)
    refine fin p7 _ H7 e7 (vA.app (gk.sub (f_ qi) d_)) ?_ ((b4.same S47).mono (by lia)) (KB.trans K4 S47.kb);rw[aB];exact Nat.le_trans (Nat.add_le_add_left (Nat.le_trans (bg _ _ _) vl) 1) (by decide)
  walk;refine iq (fun h3=>?_) (fun h3=>?_)
  · walk
    refine⟨a,_,rfl,.inr (SqT.of ha2),fun l fl=>?_⟩;have S3:aZ H2 (upd H2 l (.lst q.vs)):=aZ.upd fl;have lo:H l=none:=bW K2 fl (b2.ne fl);refine k (.ref l) (.list q.ds) _ (.lst (fun⟨o,eo,_⟩=>by rw[lo] at eo;cases eo) ay (tL q)) ((qM (tK qi)).up (by decide) ?_) ((b2.same S3).mono (by lia)) (KB.trans K2 S3.kb);have:q.ds.length<=3:=by cases q<;>exact le_of_ble_eq_true rfl
    lia
  walk;refine iq (fun h4=>?_) (fun h4=>?_)
  · walk
    refine⟨a,_,rfl,ha2,fun p1 H3 S3 e1=>?_⟩;walk;unfold vo;walk;refine⟨a,_,rfl,S3 _ _ ha2,fun p2 H4 S4 e2=>?_⟩;refine⟨p2,_,rfl,SqT.of e2,fun p3 f3=>?_⟩;generalize eH:upd H4 p3 _=H5;have S5:aZ H4 H5:=eH▸aZ.upd f3;have e3:H5 p3=some (.tup (lB q.vs (some 1) none).reverse):=eH▸ay;clear eH;refine⟨p1,p3,_,_,rfl,rfl,S5 _ _ (S4 _ _ e1),e3,?_,fun p4 H6 S6 e4=>?_⟩
    · rw[length_reverse]
      exact Nat.le_trans (add_le_add (Nat.le_trans (bg _ _ _) vl) (Nat.le_trans (bg _ _ _) vl)) (by decide)
    have S26:=S3.trans (S4.trans (S5.trans S6));refine fin p4 _ H6 e4 ((gk.sub (f_ qi) d_).app (gk.sub (f_ qi) fun v hv=>d_ v (mem_reverse.mp hv))) ?_ ((b2.same S26).mono (by lia)) (KB.trans K2 S26.kb);rw[aB,length_reverse];exact Nat.le_trans (add_le_add (Nat.le_trans (bg _ _ _) vl) (Nat.le_trans (bg _ _ _) vl)) (by decide)
  walk;refine iq (fun h5=>?_) (fun h5=>?_)
  · walk
    refine ef fun t1 H3 f1 S3 e1=>?_;walk;refine dS fun l2 H4 f2 S4 e2=>?_;walk;intro d3 f3;generalize eH:upd H4 d3 _=H5;have S5:aZ H4 H5:=eH▸aZ.upd f3;have e3:H5 d3=some (.dK []):=eH▸ay;clear eH;walk;refine ef fun t4 H6 f4 S6 e4=>?_;walk;refine ef fun t5 H7 f5 S7 e5=>?_;walk;refine ef fun t6 H8 f6 S8 e6=>?_;walk;refine dS fun l7 H9 f7 S9 e7=>?_
    have S29:=S3.trans (S4.trans (S5.trans (S6.trans (S7.trans (S8.trans S9)))));have b9:=b2.same S29;walk;refine⟨p,10,n+2,rfl,b9,by lia,by decide,by decide,fun r8 H10 r80 r81 b10 k10=>?_⟩;obtain⟨v,hv,ev⟩:=fH (xs:=[.non,.ref t1,.ref l2,.ref d3,.str "find",.int 7,.bl true,.ref t4,.ref t5,.ref t6]) r80 (by simp;lia);have K10:=KB.trans K2 (KB.trans S29.kb k10)
    have B10:Box H10 p (n+10):=b10.mono (by lia)
    have new:∀{u:Addr} {H':Hp},aZ H2 H'->H' u=none->¬Mu H u:=fun {u H'} S f ⟨o,eo,_⟩=>by
      have:=bW K2 (S.free f) (b2.ne (S.free f));rw[this] at eo;cases eo
    have bx:∀{u:Addr} {o:HO},H9 u=some o->(∀xs,o≠.lst xs)->H10 u=some o:=fun e no=>k10 _ _ e fun z=>by subst z;obtain⟨ys,ey⟩:=b9.lst;rw[e] at ey;cases ey;exact no _ rfl
    have x1:=bx (S9 _ _ (S8 _ _ (S7 _ _ (S6 _ _ (S5 _ _ (S4 _ _ e1)))))) fun _=>by simp
    have x2:=k10 _ _ (S9 _ _ (S8 _ _ (S7 _ _ (S6 _ _ (S5 _ _ e2))))) ((b2.same S3).ne f2);have x3:=bx (S9 _ _ (S8 _ _ (S7 _ _ (S6 _ _ e3)))) fun _=>by simp
    have x4:=bx (S9 _ _ (S8 _ _ (S7 _ _ e4))) fun _=>by simp
    have x5:=bx (S9 _ _ (S8 _ _ e5)) fun _=>by simp
    have x6:=bx (S9 _ _ e6) fun _=>by simp
    have S24:=S3.trans S4;have up:∀{d:PyData},Shw 2 500 d->Shw 3 5000 d:=fun s=>s.up (by decide) (by decide);refine df (k10 _ _ e7 ((b2.same (S3.trans (S4.trans (S5.trans (S6.trans (S7.trans S8)))))).ne f7)) ev ?_;simp only[aV,aP,or_false] at hv;rcases hv with rfl|rfl|rfl|rfl|rfl|rfl|rfl|rfl|rfl|rfl
    · exact k _ _ H10 .non (up bB) B10 K10
    · exact k _ _ H10 (.tup (m8 B10 K10 x1) x1 .nil) (up bB) B10 K10
    · exact k _ _ H10 (.lst (new S3 f2) x2 .nil) (up bB) B10 K10
    · exact k _ _ H10 (.dct (new S24 f3) x3 .nil) (up bB) B10 K10
    · exact k _ _ H10 (.str _) (up bB) B10 K10
    · exact k _ _ H10 (.int _) (up bB) B10 K10
    · exact k _ _ H10 (.bl _) (up bB) B10 K10
    · exact k _ _ H10 (.tup (m8 B10 K10 x4) x4 (.cons (.str _) .nil)) (up bB) B10 K10
    · exact k _ _ H10 (.tup (m8 B10 K10 x5) x5 (.cons (.str _) .nil)) (up bB) B10 K10
    · exact k _ _ H10 (.tup (m8 B10 K10 x6) x6 (.cons (.str _) .nil)) (up bB) B10 K10
  walk;refine⟨a,_,rfl,ha2,fun p1 H3 S3 e1=>?_⟩;have B2:=b2.same S3;have K2:=KB.trans K2 S3.kb;walk;refine⟨p,n+2,rfl,B2,by lia,fun y d H4 yd b4 k4=>?_⟩;have k24:=KB.trans K2 k4
  have yA:gk (Mu H) H4 [y]:=fun v hv=>by
    cases a_.mp hv;refine⟨d,yd.1.keep (fun _ _ _ e=>e) fun b ⟨o,eo,_⟩ z=>?_,yd.2⟩;by_cases zp:b=p
    · subst zp
      obtain⟨ys,ey⟩:=B2.lst;rw[z] at ey;cases ey
    · rw[K2 _ _ eo zp] at z;cases z
  have e14:=k4 _ _ e1 (tp e1 B2);walk;refine ef fun p5 H5 f5 S5 e5=>?_;walk;refine⟨p1,p5,_,_,rfl,rfl,S5 _ _ e14,e5,by show _+1<=_;exact Nat.le_trans (add_le_add_right (Nat.le_trans (bg _ _ _) vl) 1) (by decide),fun p6 H6 S6 e6=>?_⟩;have k26:=KB.trans k24 (S5.trans S6).kb;have B6:Box H6 p (n+3):=(b4.same (S5.trans S6));walk;refine⟨a,_,rfl,k26 _ _ ha nap,fun p7 H7 S7 e7=>?_⟩;walk
  refine⟨p6,p7,_,_,rfl,rfl,S7 _ _ e6,e7,?_,fun p8 H8 S8 e8=>?_⟩
  · rw[aB]
    have h1:=Nat.le_trans (bg q.vs none (some wx)) vl;exact Nat.le_trans (add_le_add (add_le_add_right h1 1) (Nat.le_trans (bg _ _ _) vl)) (by decide)
  have S68:=S7.trans S8;have S48:=(S5.trans S6).trans S68;refine fin p8 _ H8 e8 (((gk.sub (f_ qi) d_).app (yA.keep fun b o no e=>S48 _ _ e)).app (gk.sub (f_ qi) d_)) ?_ ((B6.same S68).mono (by lia)) (KB.trans k26 S68.kb);rw[aB,aB];have h1:=Nat.le_trans (bg q.vs none (some wx)) vl;have h2:=fun lo hi=>Nat.le_trans (bg q.vs lo hi) vl
  exact Nat.le_trans (add_le_add (add_le_add_right h1 1) (h2 _ _)) (by decide)
def Kp3 (p g d:Addr)(H H':Hp):Prop:=∀b o,H b=some o->b≠p->b≠g->b≠d->H' b=some o
inductive spStep (c:Cs)(vs:List V)(H:Hp)(Q:VK)(E:XK):Prop
 | mk (p x g d:Addr)(ps:List (Int×Int))(n:Nat):vs=[.ref p,.ref x,.ref d]->Box H p n->n+60<=1000000->House c H x g d ps->ps.length<=800->g≠d -> 
   (∀ps' H',House c H' x g d ps'->ps'.length<=ps.length+1->Box H' p (n+60)->Kp3 p g d H H'->Q (.bl true) H')->spStep c vs H Q E
theorem iZ:∀(ds:List PyData),PyData.showableAll (ds++[.str "more"])=PyData.showableAll ds/\PyData.leavesShortAll 40 (ds++[.str "more"])=PyData.leavesShortAll 40 ds/\PyData.depthAll (ds++[.str "more"])=PyData.depthAll ds/\PyData.weightAll (ds++[.str "more"])=PyData.weightAll ds+5
 | []=>⟨rfl,by decide +kernel,by decide +kernel,by decide +kernel⟩
 | d::ds=>by
  obtain⟨a,b,c,e⟩:=iZ ds;refine⟨?_,?_,?_,?_⟩
  ·simp only[cons_append,PyData.showableAll,a]
  ·simp only[cons_append,PyData.leavesShortAll,b]
  ·simp only[cons_append,PyData.depthAll,c]
  ·simp only[cons_append,PyData.weightAll,e];omega
theorem xu:∀{q q':Cl},Cl.ds q=Cl.ds q'->q=q':=fun {q q'} h=>by
 cases q with
 | span b lo hi=>cases q' with
  | span b' lo' hi'=>cases b<;>cases b'<;>cases hi<;>cases hi'<;>cases h<;>rfl
  | _=>cases b<;>cases h
 | _=>cases q' with
  | span b lo hi=>cases b<;>cases h
  | _=>cases h<;>rfl
theorem xv (ps:List (Int×Int)):(PyData.list (ps.map pD)).depth<=4:=by
 have:PyData.depthAll (ps.map pD)<=3:=by
  induction ps with
  | nil=>simp[PyData.depthAll]
  | cons p ps ih=>
   simp only[bX,PyData.depthAll,pD,PyData.depth]
   lia
 simp only[PyData.depth]
 lia
theorem xf {k g:Int}(h:ke ps k=some g):∃p∈ps,p.2=g:=by
 unfold ke at h;obtain⟨p,hp,e⟩:=dF.mp h;exact⟨p,List.mem_of_find?_eq_some hp,e⟩
theorem t_ {k:Int}(pr:∀p∈ps,PrR p):Shw 4 65000 (uy (ke ps k)):=by
 cases h:ke ps k with
 | none=>exact Shw.up bB (by decide) (by decide)
 | some g=>
  obtain⟨p,hp,rfl⟩:=xf h;exact(cD (pr p hp).2).up (by decide) (by decide)
theorem tU {q:Cl}(so:Srt s ps)(pr:∀p∈ps,PrR p)(l:ps.length<=1000):Okd 100000 (.list [.str "told",Cl.ans ps s q]):=by
 have a:Shw 4 65000 (Cl.ans ps s q):=by
  cases q with
  | span b lo hi=>
   have o:=oV (ps:=s.filter fun p=>stP lo hi p.1) (fun p hp=>pr p (so.1.mem_iff.mp (u_.mp hp).1)) (Nat.le_trans (eA _ _) (by rw[so.1.length_eq];exact l));exact⟨o.sh,o.lv,xv _,o.wt⟩
  | _=>exact t_ pr
 have t:=a.wt;have u:=a.dp;have h1:(PyData.str "told").weight<=10:=by decide +kernel
 have h2:(PyData.str "told").depth<=1:=by decide +kernel
 have h3:(PyData.str "told").leavesShort 40=true:=by decide +kernel
 have h4:(PyData.str "told").showable=true:=by decide +kernel
 refine⟨?_,?_,?_,?_⟩
 ·simp only[PyData.showable,PyData.showableAll] at h4 ⊢;rw[a.sh];rfl
 ·simp only[PyData.leavesShort,PyData.leavesShortAll] at h3 ⊢;rw[a.lv,h3];rfl
 ·simp only[PyData.depth,PyData.depthAll] at h2 ⊢
  lia
 ·simp only[PyData.weight,PyData.weightAll] at h1 ⊢
  lia
theorem uJ {q:Cl}(nd:(ps.map (·.1)).Nodup)(pr:∀p∈ps,PrR p)(qi:q.In):(Cl.next ps q).length<=ps.length+1/\((Cl.next ps q).map (·.1)).Nodup/\∀p∈Cl.next ps q,PrR p:=by
 cases q with
 | find k=>exact⟨le_succ _,nd,pr⟩
 | span b lo hi=>exact⟨le_succ _,nd,pr⟩
 | take k=>exact⟨Nat.le_succ_of_le (sf ps k),u4 k nd,fun p hp=>pr p (u_.mp hp).1⟩
 | put k g=>
  refine⟨uj ps k g,v7 k g nd,fun p hp=>?_⟩;have hp:p∈oG ps k g:=hp;unfold oG at hp;split at hp
  ·obtain⟨p',hp',e⟩:=jv.mp hp;by_cases z:p'.1=k
   ·rw[ak z] at e;subst e;exact⟨(pr p' hp').1,qi.2⟩
   ·rw[ah z] at e;subst e;exact pr p' hp'
  ·rcases ba.mp hp with hp|hp
   ·exact pr p hp
   ·cases a_.mp hp;exact⟨qi.1,qi.2⟩
theorem sB:∀(ds:List PyData),ds.length<=PyData.weightAll ds
 | []=>zero_le _
 | d::ds=>by
  have:=sB ds;simp only[PyData.weightAll,aR]
  lia
theorem rF {ds}(s:Shw 3 5000 (.list ds)):Shw 3 9000 (.list (ds++[.str "more"])):=by
 obtain⟨a,b,c,e⟩:=iZ ds;have h1:=s.sh;have h2:=s.lv;have h3:=s.dp;have h4:=s.wt;simp only[PyData.showable,PyData.leavesShort,PyData.depth,PyData.weight] at h1 h2 h3 h4;refine⟨?_,?_,?_,?_⟩<;>simp only[PyData.showable,PyData.leavesShort,PyData.depth,PyData.weight]
 ·rw[a];exact h1
 ·rw[b];exact h2
 ·rw[c];exact h3
 ·rw[e];lia
theorem pA (s:Shw 3 9000 d):Okd 100000 (.list [.str "none",d]):=by
 refine(qM (k:=3) (n:=9000) fun x hx=>?_).okd (by decide) (by show 9001 * 2+1<=100000;decide);simp only[aV,aP,or_false] at hx;rcases hx with rfl|rfl
 ·exact Shw.up bB (by decide) (by decide)
 ·exact s
theorem uD:Ok F F.r.d__law_step_right 10 (spStep c):=by
 have T:=F.r.T;refine F.r.d__law_step_right.go fun sc H Q hr h=>?_;obtain⟨p,x,g,d,ps,n,rfl,b,hn,Y,lp,ngd,k⟩:=h;obtain⟨s,hs⟩:=jz Y.nd;obtain⟨dx,hx⟩:=Y.p.x;have hg:=Y.p.g;have hd:=Y.d
 refine⟨_,(am (dX sc 3 (bM (bG F) hr (pa2 (pv 0) ai)))
  (am (dX sc 4 (bM (rD F) hr (pa2 (pv 0) (aN (fG (hr.hd rfl)) rfl T.n_sorted eQ (pa1 (pv 2))))))
  (am (dX sc 5 (iU (pc cw (pv 3) ai) (bM (oW F) hr (pa2 (pv 0) (pv 4))) (pv 4)))
  (am (dX sc 6 (aN (cp hr.gd hr.units) rfl T.n_repr dR (pa1 (pv 5))))
  (am (dX sc 7 (bM (rB F) hr (pa2 (pv 1) (pv 5))))
  (am (dX sc 8 (bD (pa2 bv (pv 5))))
  (am (bF (bH (bM (pe F) hr (pa1 (pv 5))))
   (aw (dX sc 8 (bD (pa2 bv (bM (rC F) hr (pa2 (pv 2) (pv 5)))))))
   aW)
  (am (bF (PW.pt (eF (pc jJ (aN (cp hr.gd hr.units) rfl T.n_repr dR (pa1 (pv 7))) (aN (cp hr.gd hr.units) rfl T.n_repr dR (pa1 (pv 8)))) (dL (pc jJ (aN (cp hr.gd hr.units) rfl T.n_repr dR (pa1 (pv 5))) (pv 6)))))
   (aw (aL cO))
   aW)
  (am (bF (PW.pt (iy (bH (aN bZ rfl T.n_isinstance bA (pa2 (pix bz (pv 7) ai) (cF (v:=.ty "list") rfl T.n_list eR rfl)))) (gh (pc cw (pix bz (pv 7) ai) bv))))
   (aw (cE (sU cg PySem.F.slot_list_clear PySem.F.type_list_clear mq (pix bz (pv 7) ai))))
   (aw (bF (bH (aN bZ rfl T.n_isinstance bA (pa2 (pv 5) (cF (v:=.ty "list") rfl T.n_list eR rfl))))
   (am (cE (kG cg PySem.F.slot_list_append PySem.F.type_list_append cR (pv 5) (pa1 bv)))
  (aw (aL (bO cw (aN (cp hr.gd hr.units) rfl T.n_repr dR (pa1 (pv 7))) (aN (cp hr.gd hr.units) rfl T.n_repr dR (pa1 (bD (pa2 bv (pv 5))))) (cm _)))))
   aW)))
  (aw (aL cO))))))))))),?_⟩
 walk;refine⟨p,3,n,rfl,b,by lia,by decide,by decide,fun r1 H1 r10 r11 b1 k1=>?_⟩;have pne:∀{u:Addr} {o:HO},H u=some o->(∀xs,o≠.lst xs)->u≠p:=fun e no z=>by subst z;obtain⟨ys,ey⟩:=b.lst;rw[e] at ey;cases ey;exact no _ rfl
 have nxp:=pne hx fun _=>by simp
 have ngp:=pne hg fun _=>by simp
 have ndp:=pne hd fun _=>by simp
 walk;refine⟨d,_,ps.map (·.1),rfl,.inl (k1 _ _ hd ndp),jf ps,by rw[au];lia,fun ns' pm pw l5 f5=>?_⟩;have lns:ns'.length<=1000:=by rw[pm.length_eq,au];lia
 generalize eH:upd H1 l5 _=H2;have S2:aZ H1 H2:=eH▸aZ.upd f5;have e5:H2 l5=some (.lst (ns'.map V.int)):=eH▸ay;clear eH;walk;refine⟨p,l5,n+1,ns',rfl,b1.same S2,by lia,e5,lns,b1.ne f5,fun q t H3 qi ft et b3 k3=>?_⟩;have K3:=KB.trans k1 (KB.trans S2.kb k3);walk;refine' iq (fun h0=>?h1) (fun h0=>?h2)
 case' h1=>
  walk;refine⟨p,t,n+31,q,rfl,b3,by lia,et,qi,fun y yd H4 dv sw b4 k4=>?_⟩;have K4:=KB.trans K3 k4
  have dv:DV (Mu H) H4 y yd:=dv.keep (fun _ _ _ e=>e) fun b' ⟨o,eo,no⟩=>by
   by_cases zp:b'=p
   ·subst zp;obtain⟨ys,ey⟩:=b3.lst;exact⟨_,ey,fun xs=>by simp⟩
   ·exact⟨o,K3 _ _ eo zp,no⟩
  have b4:Box H4 p (n+50):=b4.mono (by lia);walk
 case' h2=>
  walk;have b4:Box H3 p (n+50):=b3.mono (by lia);have dv:DV (Mu H) H3 (.ref t) (.tuple q.ds):=.tup (m8 b3 K3 et) et (tL q);have sw:Shw 3 5000 (.tuple q.ds):=(qL (tK qi)).up (by decide) (by have:q.ds.length<=3:=(by cases q<;>exact le_of_ble_eq_true rfl);lia);have K4:=K3;clear k3 K3 b3 et ft;generalize V.ref t=y at *;generalize PyData.tuple q.ds=yd at *;generalize H3=H4 at *
 all_goals
  have mg':Mu H g:=⟨_,hg,fun _=>by simp⟩;have md:Mu H d:=⟨_,hd,fun _=>by simp⟩;have okt:Okd 100000 yd:=sw.okd (by decide) (by decide);have okn:=pA (sw.up (aD _) (by decide));have hx4:=K4 _ _ hx nxp;have hg4:=K4 _ _ hg ngp;have hd4:=K4 _ _ hd ndp;refine⟨y,_,yd,rfl,dv,okt,?_⟩;walk
  refine⟨_,x,g,ps,y,yd,rfl,⟨⟨dx,hx4⟩,hg4⟩,by lia,Y.nd,dv,fun q2 eq2 cd qi2 s2 so2 y1 l6 H6 dy1 kb6 hg6 fl6 e6=>?_,fun cd l6 H6 fl6 S6 e6=>?_⟩
  ·walk;refine dS fun l7 H7 f7 S7 e7=>?_;have dv7:DV (Mu H) H7 y yd:=(dv.keep (fun b o no e=>kb6 _ _ e fun z=>no (z▸mg')) fun _ z=>z).keep (fun b o _ e=>S7 _ _ e) fun _ z=>z;walk;refine⟨_,y,yd,rfl,dv7,fun H8 S8=>?_⟩;rw[cd];have S68:=S7.trans S8;have dv8:=cx dv7 S8;obtain⟨a,q',rfl,na,ea,ed,qi'⟩:=qw dv8 cd;cases xu (PyData.tuple.inj (ed.symm.trans eq2));walk
   refine⟨d,a,ps,q2,rfl,S68 _ _ (kb6 _ _ hd4 ngd.symm),ea,by lia,Y.nd,fun s3 so3 y2 H9 dy2 kb9 hd9=>?_⟩;cases lM so2 so3;walk;refine dS fun l10 H10 f10 S10 e10=>?_;walk;have okt2:=tU (q:=q2) so2 Y.r (by lia);have dold:Old H4 d:=fun z=>by rw[hd4] at z;cases z
   have gold:Old H4 g:=fun z=>by rw[hg4] at z;cases z
   have y1D:DV (Old H4) H10 y1 (Cl.ans ps s2 q2):=dy1.keep (fun b o no e=>S10 _ _ (kb9 _ _ (S68 _ _ e) fun z=>no (z▸dold))) fun _ z=>z;have y2D:=cx dy2 S10;have n6d:l6≠d:=fun z=>by subst z;rw[hd4] at fl6;cases fl6
   have e610:=S10 _ _ (kb9 _ _ (S68 _ _ e6) n6d);refine⟨.ref l6,_,_,rfl,.lst (fun z=>z fl6) e610 (.cons (.str _) (.cons y1D .nil)),okt2,?_⟩;walk;have f8:H8 l10=none:=bW kb9 f10 fun z=>by subst z;rw[hd9] at f10;cases f10
   refine⟨.ref l10,_,_,rfl,.lst (fun z=>z f8) e10 (.cons (.str _) (.cons y2D .nil)),okt2,?_⟩;walk;refine iteNX (aq rfl) ?_;walk;have dv10:DV (Mu H) H10 (.ref a) yd:=dv8.keep (fun b o no e=>S10 _ _ (kb9 _ _ e fun z=>no (z▸md))) fun _ z=>z;refine⟨.ref a,_,yd,rfl,dv10,okt,?_⟩;walk;refine iteNX (aq rfl) ?_;walk
   have k10:∀{b:Addr} {o:HO},H4 b=some o->b≠g->b≠d->H10 b=some o:=fun e n1 n2=>S10 _ _ (kb9 _ _ (S68 _ _ (kb6 _ _ e n1)) n2);have nxg:x≠g:=fun z=>by subst z;rw[hg4] at hx4;cases hx4
   have nxd:x≠d:=fun z=>by subst z;rw[hd4] at hx4;cases hx4
   have hx10:=k10 hx4 nxg nxd;have hg10:H10 g=some (.dK (kL (Cl.next ps q2))):=S10 _ _ (kb9 _ _ (S68 _ _ hg6) ngd);have hd10:H10 d=some (.dK (kL (Cl.next ps q2))):=S10 _ _ hd9;obtain⟨nl,nn,np⟩:=uJ Y.nd Y.r qi2;have b10:Box H10 p (n+60):=(b4.to fun o e=>k10 e ngp.symm ndp.symm).mono (by lia);have kp:Kp3 p g d H H10:=fun b o e n1 n2 n3=>k10 (K4 _ _ e n1) n2 n3
   refine⟨_,_,_,_,rfl,y1D.thg,.inl ⟨"list",rfl,eX _⟩,?_⟩;walk;cases zl:pU (Cl.ans ps s2 q2) with
   | false=>
    refine cG ?_;walk;refine⟨_,_,_,_,rfl,dv10.thg,.inl ⟨"list",rfl,eX yd⟩,?_⟩;rw[show pU yd=false by rw[eq2];rfl];walk;exact k _ H10 ⟨⟨⟨dx,hx10⟩,hg10⟩,hd10,by lia,nn,np⟩ nl b10 kp
   | true=>
    refine dk ?_;walk;refine jt rfl ?_;walk;unfold yi;walk;generalize ea0:Cl.ans ps s2 q2=an at y1D zl;cases y1D with
    | @lst u us ds nu eu ru=>
     have ou:∀{b:Addr} {o:HO},H4 b=some o->b≠u:=fun e z=>by subst z;exact nu (fun w=>by rw[e] at w;cases w)
     refine⟨.inl ⟨rfl,_,SqL.of eu⟩,u,_,rfl,rfl,eu,?_⟩;have k11:∀{b:Addr} {o o':HO},H4 b=some o->H10 b=some o'->upd H10 u (.lst []) b=some o':=fun e e'=>(aE (ou e)).trans e';walk;have bo:∃o,H4 p=some o:=let⟨_,e⟩:=b4.lst;⟨_,e⟩;obtain⟨_,bo⟩:=bo
     exact k _ _ ⟨⟨⟨dx,k11 hx4 hx10⟩,k11 hg4 hg10⟩,k11 hd4 hd10,by lia,nn,np⟩ nl (b10.to fun o e=>k11 bo e) fun b o e n1 n2 n3=>k11 (K4 _ _ e n1) (kp b o e n1 n2 n3)
    | _=>cases zl
  ·walk;refine dS fun l7 H7 f7 S7 e7=>?_;have S47:=S6.trans S7;walk;refine⟨_,y,yd,rfl,cx dv S47,fun H8 S8=>?_⟩;rw[cd];have S48:=S47.trans S8
   have l6H:¬Mu H l6:=fun⟨o,eo,_⟩=>by
    have:=bW K4 fl6 (b4.ne fl6);rw[this] at eo;cases eo
   have l7H:¬Mu H l7:=fun⟨o,eo,_⟩=>by
    have:=bW K4 (S6.free f7) (b4.ne (S6.free f7));rw[this] at eo;cases eo
   have e68:=S8 _ _ (S7 _ _ e6);have e78:=S8 _ _ e7;have dv8:=cx dv S48;walk;refine⟨.ref l6,_,_,rfl,.lst l6H e68 (.cons (.str _) (.cons dv8 .nil)),okn,?_⟩;walk;refine⟨.ref l7,_,_,rfl,.lst l7H e78 (.cons (.str _) (.cons dv8 .nil)),okn,?_⟩;walk;refine iteNX (aq rfl) ?_;walk;refine⟨y,_,yd,rfl,dv8,okt,?_⟩;walk;refine iteNX (aq rfl) ?_;walk
   have Y8:House c H8 x g d ps:=⟨⟨⟨dx,S48 _ _ hx4⟩,S48 _ _ hg4⟩,S48 _ _ hd4,Y.l,Y.nd,Y.r⟩;have b8:Box H8 p (n+60):=(b4.same S48).mono (by lia);have kp:Kp3 p g d H H8:=fun b o e n1 _ _=>S48 _ _ (K4 _ _ e n1);refine⟨_,_,_,_,rfl,dv8.thg,.inl ⟨"list",rfl,eX yd⟩,?_⟩;walk;cases zl:pU yd with
   | false=>
    refine cG ?_;walk;refine⟨_,_,_,_,rfl,dv8.thg,.inl ⟨"list",rfl,eX yd⟩,?_⟩;rw[zl];walk;exact k ps H8 Y8 (le_succ _) b8 kp
   | true=>
    refine dk ?_;walk;refine eB (by decide) ?_;walk;refine⟨_,_,_,_,rfl,dv8.thg,.inl ⟨"list",rfl,eX yd⟩,?_⟩;rw[zl];walk;cases dv with
    | @lst a xs ds na e r=>
     have e8:=S48 _ _ e;have n6:l6≠a:=(ao e fl6).symm;have n7:l7≠a:=(ao (S6 _ _ e) f7).symm
     have ap:a≠p:=fun z=>by
      subst z;exact na (by obtain⟨ys,ey⟩:=b.lst;exact⟨_,ey,fun _=>by simp⟩)
     have ag:a≠g:=fun z=>na (z▸mg');have ad:a≠d:=fun z=>na (z▸md);have ax:a≠x:=fun z=>na (z▸⟨_,hx,fun _=>by simp⟩);have r8:=(mE r S48).avoid dv8 (by simp only[PyData.depth];lia);walk
     have lxs:xs.length<=5000:=by
      have:=sw.wt;simp only[PyData.weight] at this;have:=sB ds;have:=r.length
      lia
     refine dJ e8 (lt_of_le_of_lt lxs (by decide)) ?_;have okm:=pA (rF sw);have ea9:upd H8 a (.lst (xs++[.str "more"])) a=some (.lst (xs++[.str "more"])):=ay;have k89:∀{b:Addr} {o:HO},b≠a->H8 b=some o->upd H8 a (.lst (xs++[.str "more"])) b=some o:=fun n e=>(aE n).trans e;generalize upd H8 a (.lst (xs++[.str "more"]))=H9 at *
     have r9:DVs (Mu H) H9 (xs++[.str "more"]) (ds++[.str "more"]):=(r8.keep (fun b o no e=>k89 (fun z=>no (.inr z)) e) fun b z=>.inl z).append (.cons (.str _) .nil);have dv9:DV (Mu H) H9 (.ref a) (.list (ds++[.str "more"])):=.lst na ea9 r9;walk;refine⟨.ref l6,_,_,rfl,.lst l6H (k89 n6 e68) (.cons (.str _) (.cons dv9 .nil)),okm,?_⟩;walk;refine dS fun l10 H10 f10 S10 e10=>?_
     have l10H:¬Mu H l10:=fun⟨o,eo,_⟩=>by
      by_cases z:l10=p
      ·subst z;obtain⟨ys,ey⟩:=b8.lst;rw[k89 (dG ap) ey] at f10;cases f10
      ·have e4:=S48 _ _ (K4 _ _ eo z);by_cases z2:l10=a
       ·subst z2;rw[ea9] at f10;cases f10
       ·rw[k89 z2 e4] at f10;cases f10
     walk;refine⟨.ref l10,_,_,rfl,.lst l10H e10 (.cons (.str _) (.cons (cx dv9 S10) .nil)),okm,?_⟩;walk;rw[aq rfl];have nx:∀{u:Addr} {o:HO},H u=some o->(∀ys,o≠.tup ys)->u≠a:=fun e no z=>na (z▸⟨_,e,no⟩)
     refine k ps H10 ⟨⟨⟨dx,S10 _ _ (k89 ax.symm (S48 _ _ hx4))⟩,S10 _ _ (k89 ag.symm (S48 _ _ hg4))⟩,S10 _ _ (k89 ad.symm (S48 _ _ hd4)),Y.l,Y.nd,Y.r⟩ (le_succ _) ((b8.to fun o e=>k89 ap.symm e).same S10) fun b o eo n1 n2 n3=>S10 _ _ (k89 (fun z=>?_) (S48 _ _ (K4 _ _ eo n1)));subst z;have:=K4 _ _ eo n1;rw[e] at this;cases this;exact na ⟨_,eo,fun _=>by simp⟩
    | _=>cases zl
theorem wH {z}(h:z∈fQ d)(n:fU z=false):cB d=false:=by
 unfold cB
 have:(fQ d).all fU=false:=by
  rw[List.all_eq_false];exact⟨z,h,by rw[n];exact aj⟩
 rw[this,Bool.false_and,Bool.and_false]
theorem pB (e:fQ d=ps.map pD)(n:¬(ps.map (·.1)).Pairwise (· < ·)):cB d=false:=by
 unfold cB;rw[e,ja,aM n,Bool.and_false,Bool.and_false]
inductive Thing (N:Addr->Prop)(H:Hp):V->PyData->Prop
 | lst {a:Addr} {xs:List V} {ds:List PyData}:N a->H a=some (.lst xs)->DVs N H xs ds->Thing N H (.ref a) (.list ds)
 | oth {v:V} {d:PyData}:pU d=false->DV N H v d->Thing N H v d
theorem Thing.keep (x:Thing N H v d)(k:∀b o,¬N b->H b=some o->H' b=some o)(k2:∀b o,v=.ref b->H b=some o->H' b=some o):Thing N H' v d:=by
 cases x with
 | lst n e r=>exact .lst n (k2 _ _ rfl e) (r.keep k fun _ z=>z)
 | oth n r=>exact .oth n (r.keep k fun _ z=>z)
theorem Thing.dv (x:Thing N H v d):DV (fun _=>False) H v d:=by
 cases x with
 | lst n e r=>exact .lst (fun z=>z) e (r.keep (fun _ _ _ e=>e) fun _ z=>z.elim)
 | oth n r=>exact r.keep (fun _ _ _ e=>e) fun _ z=>z.elim
structure TOk (d:PyData):Prop where
 n:cB d=false
 l:(fQ d).length<=2000
 s:Shw 4 70000 d
theorem jO {ds}(s:Shw 4 70000 (.list ds)):Okd 100000 (.list (ds++[.str "more"])):=by
 obtain⟨a,b,c,e⟩:=iZ ds;have h1:=s.sh;have h2:=s.lv;have h3:=s.dp;have h4:=s.wt;simp only[PyData.showable,PyData.leavesShort,PyData.depth,PyData.weight] at h1 h2 h3 h4;refine⟨?_,?_,?_,?_⟩<;>simp only[PyData.showable,PyData.leavesShort,PyData.depth,PyData.weight]
 ·rw[a];exact h1
 ·rw[b];exact h2
 ·rw[c];lia
 ·rw[e];lia
theorem ix {p:Int×Int}(h:PrR p):Shw 3 2000 (pD p):=(qL (k:=2) (n:=500) fun d hd=>by
 simp only[aV,aP,or_false] at hd;rcases hd with rfl|rfl
 ·exact cD h.1
 ·exact cD h.2).up (by decide) (by simp)
theorem iO {ds:List PyData}(h:∀d∈ds,Shw 3 2000 d)(l:ds.length<=34):Shw 4 70000 (.list ds):=(qM h).up (aD _) (by lia)
theorem vF (h:∀p∈ps,PrR p)(l:ps.length<=30):Shw 4 70000 (.dict (ps.map fun p=>(.int p.1,.int p.2))):=by
 have row:PyData.showableKv (ps.map fun p=>(PyData.int p.1,PyData.int p.2))=true/\PyData.leavesShortKv 40 (ps.map fun p=>(PyData.int p.1,PyData.int p.2))=true/\PyData.depthKv (ps.map fun p=>(PyData.int p.1,PyData.int p.2))<=3/\PyData.weightKv (ps.map fun p=>(PyData.int p.1,PyData.int p.2))<=64 * ps.length:=by
  clear l
  induction ps with
  | nil=>exact⟨rfl,rfl,by simp[PyData.depthKv],by simp[PyData.weightKv]⟩
  | cons p ps ih=>
   obtain⟨a,b,c,e⟩:=ih fun q hq=>h q (aX _ hq);have hp:=h p (bt ..);have n1:=jN hp.1;have n2:=jN hp.2;have w1:=n1.w;have w2:=n2.w;simp only[bX,PyData.showableKv,PyData.leavesShortKv,PyData.depthKv,PyData.weightKv,PyData.showable,PyData.leavesShort,PyData.depth,PyData.weight,aR]
   refine⟨by rw[a,aq n1.l,aq n2.l];rfl,by rw[b,aq n1.s,aq n2.s];rfl,by lia,by lia⟩
 obtain⟨a,b,c,e⟩:=row;refine⟨a,b,?_,?_⟩
 ·simp only[PyData.depth];lia
 ·simp only[PyData.weight];lia
theorem tH {N:Addr->Prop}{H:Hp}:∀ps:List (Int×Int),DKs N H (kL ps) (ps.map fun p=>(.int p.1,.int p.2))
 | []=>.nil
 | p::ps=>.cons (k:=Sum.inl p.1) (.int p.2) (tH ps)
theorem pC {qs}{p q:Int×Int}{rs}(e:fQ d=(ps++p::qs++q::rs).map pD)(k:q.1<=p.1):cB d=false:=by
 refine pB e fun h=>?_;have:=(pairwise_append.mp (pairwise_map.mp h)).2.2 p (by simp) q (by simp);exact Int.not_lt.mpr k this
theorem gE {N:Addr->Prop}{H:Hp}:∀{vs:List V} {ds:List PyData} (i:Nat),DVs N H vs ds->DVs N H (vs.take i) (ds.take i)
 | _,_,0,_=>.nil
 | _,_,_+1,.nil=>.nil
 | _,_,i+1,.cons r t=>.cons r (gE i t)
theorem gF {N:Addr->Prop}{H:Hp}:∀{vs:List V} {ds:List PyData} (i:Nat),DVs N H vs ds->DVs N H (vs.drop i) (ds.drop i)
 | _,_,0,r=>r
 | _,_,_+1,.nil=>.nil
 | _,_,i+1,.cons _ t=>gF i t
theorem ub {t:TS}{n bk ct:St->Hp->Prop}(R:St->Hp->Prop)(mk:∀N:St->Hp->Prop,(∀σ' H',R σ' H'->N σ' H')->t ⟨N,rt,bk,ct⟩ σ H)(q:∀σ' H',R σ' H'->n σ' H'):t ⟨n,rt,bk,ct⟩ σ H:=mk n q
structure Things (H0 H:Hp)(L:Addr)(as:List Addr)(vs:List V):Prop where
 e:H L=some (.lst vs)
 out:L∉as
 nd:vs.Nodup
 fr:∀a∈as,H0 a=none
 th:∀v∈vs,∃d,Thing (· ∈ as) H v d/\TOk d
theorem ui (h:H a=some (.lst xs))(hb:H b=some (.lst []))(q:Q (.bl xs.isEmpty) H):yI K false (.ref a) (.ref b) H Q:=by
 refine⟨a,b,xs,[],rfl,rfl,SqL.of h,SqL.of hb,fun _ j x y _ e=>(by cases e),?_⟩;cases xs with
 | nil=>exact q
 | cons x xs=>exact q
theorem qH (h:fj H ts ps):fj H ts.reverse ps.reverse:=by
 refine⟨by rw[length_reverse,length_reverse];exact h.1,fun i t p e1 e2=>?_⟩;have hi:i<ts.length:=by have:=(aA.mp e1).1;rwa[length_reverse] at this
 rw[List.getElem?_reverse hi] at e1;rw[List.getElem?_reverse (by rw[<- h.1];exact hi),<- h.1] at e2;exact h.2 _ t p e1 e2
theorem ox (pw:ps.Pairwise plt)(pr:∀p∈ps,PrR p)(n:ps≠[]):cB (.list (ps.reverse.map pD))=decide (ps.length=1):=by
 match ps,n with
 | [p],_=>exact jI (d:=.list ([p].reverse.map pD)) rfl rfl pw pr
 | p::q::rs,_=>
  rw[aM (by simp)];refine pB (ps:=(p::q::rs).reverse) rfl fun h=>?_;rw[List.map_reverse,List.pairwise_reverse] at h;have h1:p.1<q.1:=(List.pairwise_cons.mp pw).1 q (by simp);have h2:=(List.pairwise_cons.mp h).1 q.1 (by simp);exact Int.lt_asymm h1 h2
inductive spRef (vs:List V)(H:Hp)(Q:VK)(E:XK):Prop
 | mk (p l:Addr)(n:Nat)(ts:List Addr)(ps:List (Int×Int)):vs=[.ref p,.ref l]->Box H p n->n+10<=1000000->H l=some (.lst (ts.map V.ref))->fj H ts ps->ps.Pairwise plt->(∀x∈ps,PrR x)->ps.length<=30->l≠p->(∀H',Box H' p (n+10)->KB p H H'->Q (.bl true) H')->spRef vs H Q E
def At (H:Hp)(p:Addr)(v:V)(d:PyData):Prop:=An3 (DV (fun b=>H b=none\/b=p) H v d) (fU d=false) (Shw 3 2000 d)
theorem mX:Ok F F.r.d__law_pairs_refused 11 spRef:=by
  have T:=F.r.T;refine F.r.d__law_pairs_refused.go fun sc H Q hr h=>?_;obtain⟨p,l,n,ts,ps,rfl,b,hn,el,tu,pw,pr,lp,nlp,k⟩:=h;have hu:=hr.units0;refine'⟨_,?h,?r⟩
  case h=>
    refine' am ?s ?t
    case s=>exact(dX sc 2 (bM (bG F) hr (pa2 (pv 0) (br dh (aN bE rfl T.n_len d7 (pa1 (pv 1))) ai))))
    case t=>
     refine' am ?s ?t
     case s=>exact(gp (pix bz (br fV (br fV (bU eE (pv 1) (cq (pv 2)) cr) (pv 1)) (bD (pa1 (bR (pa2 ai ai))))) ai) (fh rfl (bq (fk sc 3) (bq (fk sc 4) dB))))
     case t=>
      refine' am ?s ?t
      case s=>
        refine' dX sc 5 ?e
        case e=>
          with_reducible refine' qY bz ?l ?i ?pi
          case i=>exact(bM (bG F) hr (pa2 (pv 0) ai))
          case pi=>exact fun _ _=>rfl
          case l=>with_reducible exact bD (oU (ma (cX (oS (dZ ck) (wo ck)))))
      case t=>
       refine' am ?s ?t
       case s=>
         with_reducible refine' iz (i:=6) ?h0 ?h1 ?h2 ?e gg ?h3
         case h0=>exact sc.nd
         case h1=>rfl
         case h2=>exact Or.inl rfl
         case h3=>exact Or.inr rfl
         case e=>
          with_reducible refine' bD ?l
          case l=>
           with_reducible refine' cJ ?e0 ?s0 ?r0
           case s0=>rfl
           case e0=>exact(bR (pa2 (pv 5) (pv 4)))
           case r0=>
            with_reducible refine' cJ ?e0 ?s0 ?r0
            case s0=>rfl
            case e0=>exact(bR (pa2 (pv 3) (pv 5)))
            case r0=>
             with_reducible refine' cJ ?e0 ?s0 ?r0
             case s0=>rfl
             case e0=>exact(bR (pa1 (pv 3)))
             case r0=>
              with_reducible refine' cJ ?e0 ?s0 ?r0
              case s0=>rfl
              case e0=>exact(bR (pa3 (pv 3) (pv 4) ai))
              case r0=>
               with_reducible refine' cJ ?e0 ?s0 ?r0
               case s0=>rfl
               case e0=>exact(bD (pa2 (pv 3) (pv 4)))
               case r0=>
                with_reducible refine' cJ ?e0 ?s0 ?r0
                case s0=>rfl
                case e0=>exact(pv 5)
                case r0=>
                 with_reducible exact ck
       case t=>
        refine' am ?s ?t
        case s=>exact(dX sc 7 (br fV (br fV (bU eE (pv 1) cr (cq (pv 2))) (bD (pa1 (pix bz (pv 6) (bM (bG F) hr (pa2 (pv 0) ai)))))) (bU eE (pv 1) (cq (pv 2)) cr)))
        case t=>
         refine' am ?s ?t
         case s=>
           with_reducible refine' iz (i:=8) ?h0 ?h1 ?h2 ?e gg ?h3
           case h0=>exact sc.nd
           case h1=>rfl
           case h2=>exact Or.inl rfl
           case h3=>exact Or.inr rfl
           case e=>
            with_reducible refine' bD ?l
            case l=>
             with_reducible refine' cJ ?e0 ?s0 ?r0
             case s0=>rfl
             case e0=>exact(pv 7)
             case r0=>
              with_reducible refine' ma ?r0
              case r0=>
               with_reducible refine' kI ?r0
               case r0=>
                with_reducible refine' cX ?r0
                case r0=>
                 with_reducible refine' cJ ?e0 ?s0 ?r0
                 case s0=>rfl
                 case e0=>exact(br fV (pv 1) (bD (pa2 (bR (pa2 (pv 3) (pv 4))) (bR (pa2 (pv 3) ai)))))
                 case r0=>
                  with_reducible refine' cJ ?e0 ?s0 ?r0
                  case s0=>rfl
                  case e0=>exact(cQ (eZ (hr.hd rfl)) rfl T.n_dict jn (pa1 (pv 1)))
                  case r0=>
                   with_reducible refine' oU ?r0
                   case r0=>
                    with_reducible exact ck
         case t=>
          refine' am ?s ?t
          case s=>exact(bF (pc rn (aN bE rfl T.n_len d7 (pa1 (pv 1))) ai)
      (am (dX sc 9 (bM (bG F) hr (pa2 (pv 0) (br cY (aN bE rfl T.n_len d7 (pa1 (pv 1))) ai))))
    (am (cE (kG cg PySem.F.slot_list_append PySem.F.type_list_append cR (pv 8) (pa1 (br fV (br fV (bU eE (pv 1) cr (cq (pv 9))) (bD (pa2 (pix bz (pv 1) (br dh (pv 9) ai)) (pix bz (pv 1) (pv 9))))) (bU eE (pv 1) (cq (br dh (pv 9) ai)) cr)))))
    (aw (cE (kG cg PySem.F.slot_list_append PySem.F.type_list_append cR (pv 8) (pa1 (br fV (br fV (bU eE (pv 1) cr (cq (br dh (pv 9) ai))) (bD (pa1 (bR (pa2 (pix bT (pix bz (pv 1) (pv 9)) ai) ai))))) (bU eE (pv 1) (cq (br dh (pv 9) ai)) cr))))))))
      aW)
          case t=>
           refine' am ?s ?t
           case s=>exact(gn PassesOwn.never rfl (cZ (pv 8)) (fk sc 10)
      (am (dX sc 11 (bM (o8 F) hr (pa1 (pv 10))))
    (am (bF (bH (aN bZ rfl T.n_isinstance bA (pa2 (pv 10) (cF (v:=.ty "list") rfl T.n_list eR rfl))))
      (aw (cE (kG cg PySem.F.slot_list_append PySem.F.type_list_append cR (pv 10) (pa1 bv))))
      aW)
    (aw (bF (PW.pt (eF (pc jJ (pix bz (pv 11) ai) bv) (dL (pc jJ (aN (cp hr.gd hr.units) rfl T.n_repr dR (pa1 (pix bz (pv 11) ai))) (aN (cp hr.gd hr.units) rfl T.n_repr dR (pa1 (pv 10)))))))
      (aw (aL cO))
      aW)))))
           case t=>exact aw (aL (iT (bO (wv hu) (pv 1) (bD ck) (cm _)) (cI (bO cw (pix bz (bM (o8 F) hr (pa1 (we (pv 1) (oO vn ai)))) ai) (pix bz (bD (pa2 bv bv)) (cQ j4 rfl T.n_int mK (pa1 (bO cw (aN bE rfl T.n_len d7 (pa1 (pv 1))) ai (cm _))))) (cm _)))))
  case r=>
  have lts:ts.length=ps.length:=tu.1;have big:∀m,m<=1000->m<=sizeLine:=fun m hm=>Nat.le_trans hm (by decide);walk;refine⟨l,_,rfl,.inl (SqL.of el),?_⟩;walk;rw[au];refine⟨p,(ts.length:Int)+1,n,rfl,b,by lia,by lia,by lia,fun at0 H1 a0 a1 b1 k1=>?_⟩;have el1:=k1 _ _ el nlp;walk;refine qP el1 a0 fun l2 f2=>?_;generalize eH:upd H1 l2 _=H2;have S2:aZ H1 H2:=eH▸aZ.upd f2;have e2:=eG eH
  clear eH;have el2:=S2 _ _ el1;walk;refine iQ e2 el2 (big _ (by simp only[bf,au];lia)) fun l3 f3=>?_;generalize eH:upd H2 l3 _=H3;have S3:aZ H2 H3:=eH▸aZ.upd f3;have e3:=eG eH;clear eH;walk;refine ef fun t4 H4 f4 S4 e4=>?_;walk;refine dS fun l5 H5 f5 S5 e5=>?_;walk
  refine iQ (S5 _ _ (S4 _ _ e3)) e5 (big _ (by simp only[aB,bf,au,aR,bC];lia)) fun l6 f6=>?_;generalize eH:upd H5 l6 _=H6;have S6:aZ H5 H6:=eH▸aZ.upd f6;have e6:=eG eH;clear eH;have S16:aZ H1 H6:=S2.trans (S3.trans (S4.trans (S5.trans S6)))
  have tu1:fj H1 ts ps:=tu.keep fun b xs e=>k1 _ _ e fun z=>by subst z;obtain⟨ys,ey⟩:=b.lst;rw[e] at ey;cases ey
  walk;obtain⟨v6,hv6,ev6⟩:=fH (xs:=(ts.map V.ref).drop at0.toNat++ts.map V.ref++[V.ref t4]) (r:=0) (Int.le_refl 0) (by simp;lia)
  obtain⟨u6,pg,rfl,eu6,prg⟩:∃u pg,v6=.ref u/\H6 u=some (.tup [.int pg.1,.int pg.2])/\PrR pg:=by
    have one:∀v∈ts.map V.ref,∃u pg,v=.ref u/\H6 u=some (.tup [.int pg.1,.int pg.2])/\PrR pg:=fun v hv=>by
      obtain⟨u,hu,rfl⟩:=jv.mp hv;obtain⟨i,hi,rfl⟩:=List.mem_iff_getElem.mp hu;have hp:ps[i]?=some (ps[i]'(lts▸hi)):=List.getElem?_eq_getElem _;exact⟨_,_,rfl,S16 _ _ (tu1.2 i _ _ (List.getElem?_eq_getElem hi) hp),pr _ (bV hp)⟩
    rcases ba.mp hv6 with hv|hv
    · rcases ba.mp hv with hv|hv
      · exact one _ (mem_of_mem_drop hv)
      · exact one _ hv
    · cases a_.mp hv
      exact⟨t4,(3,4),rfl,S6 _ _ (S5 _ _ e4),⟨by decide,by decide⟩,⟨by decide,by decide⟩⟩
  refine df e6 ev6 ?_;walk;refine dS fun l7 H7 f7 S7 e7=>?_;walk;refine dS fun l8 H8 f8 S8 e8=>?_;walk;have B8:Box H8 p (n+1):=b1.same (S16.trans (S7.trans S8));refine⟨p,5,n+1,rfl,B8,by lia,by decide,by decide,fun r9 H9 r90 r91 b9 k9=>?_⟩;have n7p:l7≠p:=(b1.same S16).ne f7;have e79:=k9 _ _ (S8 _ _ e7) n7p
  obtain⟨ov,hov,eov⟩:=fH (xs:=[.bl true,.non,.str "",.ref l7,.int (10 ^ toNat 9)]) r90 (by simp;lia)
  obtain⟨od,odv,okd,ops,osh⟩:∃od,An4 (DV (fun b=>H9 b=none\/b=p) H9 ov od) (dc od=false) (fU od=false) (Shw 2 500 od):=by
    simp only[aV,aP,or_false] at hov;rcases hov with rfl|rfl|rfl|rfl|rfl
    · exact⟨_,.bl _,by decide +kernel,by decide +kernel,bB⟩
    · exact⟨_,.non,by decide +kernel,by decide +kernel,bB⟩
    · exact⟨_,.str _,by decide +kernel,by decide +kernel,bB⟩
    · exact⟨_,.lst (fun z=>z.elim (fun z=>by rw[e79] at z;cases z) n7p) e79 (.cons (.int 0) .nil),by decide +kernel,by decide +kernel,bB⟩
    · exact⟨_,.int _,by decide +kernel,by decide +kernel,bB⟩
  refine df (k9 _ _ e8 ((b1.same (S16.trans S7)).ne f8)) eov ?_;walk;refine ef fun t10 H10 f10 S10 e10=>?_;walk;refine ef fun t11 H11 f11 S11 e11=>?_;walk;refine ef fun t12 H12 f12 S12 e12=>?_;walk;refine ef fun t13 H13 f13 S13 e13=>?_;walk;refine dS fun l14 H14 f14 S14 e14=>?_;walk;refine dS fun l15 H15 f15 S15 e15=>?_
  have S915:aZ H9 H15:=S10.trans (S11.trans (S12.trans (S13.trans (S14.trans S15))));have kk:∀{i:Int},gB i->Shw 2 500 (.int i):=fun h=>cD h
  have odds:∀v∈[V.ref t10,.ref t11,.ref t12,.ref t13,.ref l14,ov],∃d,At H15 p v d:=by
    have od5:=odv.keep (N':=fun b=>H15 b=none\/b=p) (fun b o _ e=>S915 _ _ e) fun b hb=>hb.imp S915.free id;have no:∀{H':Hp} {u:Addr} {o:HO},aZ H9 H'->H' u=none->H15 u=some o->¬(H15 u=none\/u=p):=fun S f e z=>z.elim (fun z=>by rw[e] at z;cases z) ((b9.same S).ne f);have x10:=S15 _ _ (S14 _ _ (S13 _ _ (S12 _ _ (S11 _ _ e10))));have x11:=S15 _ _ (S14 _ _ (S13 _ _ (S12 _ _ e11)))
    have x12:=S15 _ _ (S14 _ _ (S13 _ _ e12));have x13:=S15 _ _ (S14 _ _ e13);have x14:=S15 _ _ e14;have sh:∀{ds:List PyData},(∀d∈ds,Shw 2 500 d)->ds.length<=3->Shw 3 2000 (.tuple ds):=fun h z=>(qL h).up (aD _) (by lia);intro v hv;simp only[aV,aP,or_false] at hv;rcases hv with rfl|rfl|rfl|rfl|rfl|rfl
    · exact⟨.tuple [od,.int pg.2],.tup (no (aZ.refl _) f10 x10) x10 (.cons od5 (.cons (.int _) .nil)),by show (dc od&&_)=false;rw[okd];rfl,sh (by simp only[aV,aP,or_false,forall_eq_or_imp,forall_eq];exact⟨osh,kk prg.2⟩) (by simp)⟩
    · exact⟨.tuple [.int pg.1,od],.tup (no S10 f11 x11) x11 (.cons (.int _) (.cons od5 .nil)),by show (_&&dc od)=false;rw[okd,Bool.and_false],sh (by simp only[aV,aP,or_false,forall_eq_or_imp,forall_eq];exact⟨kk prg.1,osh⟩) (by simp)⟩
    · exact⟨.tuple [.int pg.1],.tup (no (S10.trans S11) f12 x12) x12 (.cons (.int _) .nil),rfl,sh (by simp only[aV,aP,or_false,forall_eq_or_imp,forall_eq];exact kk prg.1) (by simp)⟩
    · exact⟨.tuple [.int pg.1,.int pg.2,.int 0],.tup (no (S10.trans (S11.trans S12)) f13 x13) x13 (.cons (.int _) (.cons (.int _) (.cons (.int _) .nil))),rfl,sh (by simp only[aV,aP,or_false,forall_eq_or_imp,forall_eq];exact⟨kk prg.1,kk prg.2,bB⟩) (by simp)⟩
    · exact⟨.list [.int pg.1,.int pg.2],.lst (no (S10.trans (S11.trans (S12.trans S13))) f14 x14) x14 (.cons (.int _) (.cons (.int _) .nil)),rfl,(qM (k:=2) (n:=500) (by simp only[aV,aP,or_false,forall_eq_or_imp,forall_eq];exact⟨kk prg.1,kk prg.2⟩)).up (aD _) (by simp)⟩
    · exact⟨od,od5,ops,osh.up (by decide) (by decide)⟩
  have b15:=b9.same S915;have K15:=KB.trans k1 (KB.trans (S16.trans (S7.trans S8)).kb (KB.trans k9 S915.kb));have el15:=K15 _ _ el nlp;have f1p:∀{u:Addr},H15 u=none->H u=none:=fun f=>bW K15 f (b15.ne f);clear odv okd ops osh hov eov ev6 hv6 e6;walk;refine uh el15 a0 fun l16 f16=>?_;generalize eH:upd H15 l16 _=H16;have S16':aZ H15 H16:=eH▸aZ.upd f16;have e16:=eG eH;clear eH;walk
  have b16:=b15.same S16';refine⟨p,6,n+2,rfl,b16,by lia,by decide,by decide,fun r17 H17 r170 r171 b17 k17=>?_⟩;obtain⟨zv,hzv,ezv⟩:=fH (xs:=[V.ref t10,.ref t11,.ref t12,.ref t13,.ref l14,ov]) r170 (by simp;lia);obtain⟨zd,zdv,zno,zsh⟩:=odds _ hzv;refine df (k17 _ _ (S16' _ _ e15) ((b9.same (S10.trans (S11.trans (S12.trans (S13.trans S14))))).ne f15)) ezv ?_;walk
  refine dS fun l18 H18 f18 S18 e18=>?_;walk;refine iQ (S18 _ _ (k17 _ _ e16 (b15.ne f16))) e18 (big _ (by simp only[aF,au,aR,bC];lia)) fun l19 f19=>?_;generalize eH:upd H18 l19 _=H19;have S19:aZ H18 H19:=eH▸aZ.upd f19;have e19:=eG eH;clear eH;have el19:=S19 _ _ (S18 _ _ (k17 _ _ (S16' _ _ el15) nlp));walk;refine qP el19 a0 fun l20 f20=>?_
  generalize eH:upd H19 l20 _=H20;have S20:aZ H19 H20:=eH▸aZ.upd f20;have e20:=eG eH;clear eH;walk;refine iQ (S20 _ _ e19) e20 (big _ (by simp only[aB,aF,bf,au,aR,bC];lia)) fun a1 f21=>?_;generalize eH:upd H20 a1 _=H21;have S21:aZ H20 H21:=eH▸aZ.upd f21;have e21:=eG eH;clear eH;walk;unfold nZ;intro d3 f22
  generalize eH:upd H21 d3 _=H22;have S22:aZ H21 H22:=eH▸aZ.upd f22;have e22:=eG eH;clear eH;walk;refine ef fun t23 H23 f23 S23 e23=>?_;walk;refine ef fun t24 H24 f24 S24 e24=>?_;walk;refine dS fun l25 H25 f25 S25 e25=>?_;walk;have S1925:aZ H19 H25:=S20.trans (S21.trans (S22.trans (S23.trans (S24.trans S25))));have el25:=S1925 _ _ el19
  refine iQ el25 e25 (big _ (by simp only[au,aR,bC];lia)) fun a5 f26=>?_;generalize eH:upd H25 a5 _=H26;have S26:aZ H25 H26:=eH▸aZ.upd f26;have e26:=eG eH;clear eH;have K1525:KB p H15 H25:=KB.trans S16'.kb (KB.trans k17 (S18.trans (S19.trans S1925)).kb);have K26:KB p H H26:=KB.trans K15 (KB.trans K1525 S26.kb)
  have nb:∀{u:Addr} {xs:List V},H u=some (.tup xs)->u≠p:=fun e z=>by subst z;obtain⟨ys,ey⟩:=b.lst;rw[e] at ey;cases ey
  have nd:(ps.map (·.1)).Nodup:=by
    rw[List.nodup_iff_pairwise_ne,pairwise_map];exact pw.imp fun h=>Int.ne_of_lt h
  walk;refine lu (tp:=false) (S26 _ _ el25) (tu.keep fun b xs e=>K26 _ _ e (nb e)) nd fun d6 f27=>?_;generalize eH:upd H26 d6 _=H27;have S27:aZ H26 H27:=eH▸aZ.upd f27;have e27:=eG eH;clear eH;walk;refine dS fun l28 H28 f28 S28 e28=>?_;walk_at "o";refine sK fun _ _=>?_;have S2228:aZ H22 H28:=S23.trans (S24.trans (S25.trans (S26.trans (S27.trans S28))))
  have S1828:aZ H18 H28:=S19.trans (S20.trans (S21.trans (S22.trans S2228)));have K1528:KB p H15 H28:=KB.trans S16'.kb (KB.trans k17 (S18.trans S1828).kb);have k28:KB p H H28:=KB.trans K15 K1528;have b28:Box H28 p (n+3):=b17.same (S18.trans S1828);have el28:=k28 _ _ el nlp;have tu28:fj H28 ts ps:=tu.keep fun b xs e=>k28 _ _ e (nb e);have k27:KB p H H27:=KB.trans K26 S27.kb
  have tu27:fj H27 ts ps:=tu.keep fun b xs e=>S27 _ _ (K26 _ _ e (nb e));have S1728:aZ H17 H28:=S18.trans S1828;have fa1:H15 a1=none:=bW (KB.trans S16'.kb (KB.trans k17 (S18.trans (S19.trans S20)).kb)) f21 ((b17.same (S18.trans (S19.trans S20))).ne f21);have fa5:H15 a5=none:=bW K1525 f26 ((b17.same (S18.trans (S19.trans S1925))).ne f26)
  have S2227:aZ H22 H27:=S23.trans (S24.trans (S25.trans (S26.trans S27)));have S1827:aZ H18 H27:=S19.trans (S20.trans (S21.trans (S22.trans S2227)));have K1527:KB p H15 H27:=KB.trans S16'.kb (KB.trans k17 (S18.trans S1827).kb);have b27:Box H27 p (n+3):=b17.same (S18.trans S1827)
  have x1:H27 a1=some (.lst ((ts.map V.ref).take at0.toNat++[zv]++(ts.map V.ref).drop at0.toNat)):=S2227 _ _ (S22 _ _ e21);have x3:H27 d3=some (.dK []):=S2227 _ _ e22;have x5:H27 a5=some (.lst (ts.map V.ref++[.ref t23,.ref t24])):=S27 _ _ e26;have x6:H27 d6=some (.dK (kL ps)):=e27;have x23:=S27 _ _ (S26 _ _ (S25 _ _ (S24 _ _ e23)));have x24:=S27 _ _ (S26 _ _ (S25 _ _ e24))
  have shP:∀d∈ps.map pD,Shw 3 2000 d:=fun d hd=>by
    obtain⟨q,hq,rfl⟩:=jv.mp hd;exact ix (pr q hq)
  have lst_ne:∀{H':Hp} {as:List Addr} {u:Addr} {o:HO},(∀a∈as,∃xs,H' a=some (.lst xs))->H' u=some o->(∀xs,o≠.lst xs)->u∉as:=fun ha e no hu=>by
    obtain⟨xs,ex⟩:=ha _ hu;rw[e] at ex;cases ex;exact no _ rfl
  have tsP:∀{H':Hp} {as:List Addr},KB p H27 H'->(∀a∈as,∃xs,H' a=some (.lst xs))->DVs (· ∈ as) H' (ts.map V.ref) (ps.map pD):=fun kb ha=>by
    have tu':=tu27.keep fun b xs e=>kb _ _ e fun z=>by subst z;obtain⟨ys,ey⟩:=b27.lst;rw[e] at ey;cases ey
    refine dt tu' fun t ht=>?_;obtain⟨i,hi,rfl⟩:=List.mem_iff_getElem.mp ht;exact lst_ne ha (tu'.2 i _ _ (List.getElem?_eq_getElem hi) (List.getElem?_eq_getElem (lts▸hi))) fun _=>by simp
  have TB:∀{H':Hp} {u:Addr} {o:HO},KB p H27 H'->H15 u=none->H27 u=some o->H' u=some o:=fun kb f e=>kb _ _ e (b15.ne f)
  have things:∀(H':Hp) (as:List Addr),KB p H27 H'->a1∈as->a5∈as->(∀a∈as,H15 a=none)->(∀a∈as,∃xs,H' a=some (.lst xs))->∀v∈[V.ref a1,.non,.ref d3,.str "",.ref a5,.ref d6,.bl true],∃d,Thing (· ∈ as) H' v d/\TOk d:=by
    intro H' as kb m1 m5 fr ha v hv;have nL:∀{u:Addr} {o:HO},H27 u=some o->(∀xs,o≠.lst xs)->H' u=some o:=fun e no=>kb _ _ e fun z=>by subst z;obtain⟨ys,ey⟩:=b27.lst;rw[e] at ey;cases ey;exact no _ rfl
    have y3:=nL x3 fun _=>by simp
    have y6:=nL x6 fun _=>by simp
    have y23:=nL x23 fun _=>by simp
    have y24:=nL x24 fun _=>by simp
    have tsd:=tsP kb ha;simp only[aV,aP,or_false] at hv;rcases hv with rfl|rfl|rfl|rfl|rfl|rfl|rfl
    · have zdv':DV (· ∈ as) H' zv zd:=zdv.keep (fun b o nb e=>kb _ _ (K1527 _ _ e fun z=>nb (.inr z)) fun z=>nb (.inr z)) fun b hb=>.inl (fr b hb)
      refine⟨.list ((ps.map pD).take at0.toNat++[zd]++(ps.map pD).drop at0.toNat),.lst m1 (TB kb fa1 x1) (((gE _ tsd).append (.cons zdv' .nil)).append (gF _ tsd)),wH (z:=zd) (by simp[fQ]) zno,?_,iO (fun d hd=>?_) ?_⟩
      · simp only[fQ,aB,aF,bf,au,aR,bC];lia
      · rcases ba.mp hd with hd|hd
        · rcases ba.mp hd with hd|hd
          · exact shP d (mem_of_mem_take hd)
          · cases a_.mp hd;exact zsh
        · exact shP d (mem_of_mem_drop hd)
      · simp only[aB,aF,bf,au,aR,bC];lia
    · exact⟨_,.oth rfl .non,rfl,zero_le _,Shw.up bB (by decide) (by decide)⟩
    · exact⟨_,.oth rfl (.dct (lst_ne ha y3 fun _=>by simp) y3 .nil),rfl,zero_le _,Shw.up bB (by decide) (by decide)⟩
    · exact⟨_,.oth rfl (.str _),rfl,zero_le _,Shw.up bB (by decide) (by decide)⟩
    · refine⟨.list (ps.map pD++[pD pg,pD (pg.1,0)]),.lst m5 (TB kb fa5 x5) (tsd.append (.cons (.tup (lst_ne ha y23 fun _=>by simp) y23 (.cons (.int _) (.cons (.int _) .nil))) (.cons (.tup (lst_ne ha y24 fun _=>by simp) y24 (.cons (.int _) (.cons (.int _) .nil))) .nil))),pC (ps:=ps) (p:=pg) (qs:=[]) (q:=(pg.1,0)) (rs:=[]) (by simp[fQ]) (Int.le_refl _),?_,iO (fun d hd=>?_) ?_⟩
      · simp only[fQ,aB,au,aR,bC];lia
      · rcases ba.mp hd with hd|hd
        · exact shP d hd
        · simp only[aV,aP,or_false] at hd
          rcases hd with rfl|rfl
          · exact ix prg
          · exact ix ⟨prg.1,(⟨by decide,by decide⟩:gB 0)⟩
      · simp only[aB,au,aR,bC];lia
    · exact⟨.dict (ps.map fun p=>(.int p.1,.int p.2)),.oth rfl (.dct (lst_ne ha y6 fun _=>by simp) y6 (tH ps)),rfl,zero_le _,vF pr lp⟩
    · exact⟨_,.oth rfl (.bl _),rfl,zero_le _,Shw.up bB (by decide) (by decide)⟩
  clear odds e15 hzv ezv;have n13:a1≠d3:=fun z=>by subst z;rw[x1] at x3;cases x3
  have n15:a1≠a5:=fun z=>by subst z;rw[S25 _ _ (S24 _ _ (S23 _ _ (S22 _ _ e21)))] at f26;cases f26
  have n16:a1≠d6:=fun z=>by subst z;rw[x1] at x6;cases x6
  have n35:d3≠a5:=fun z=>by subst z;rw[x3] at x5;cases x5
  have n36:d3≠d6:=fun z=>by subst z;rw[S26 _ _ (S25 _ _ (S24 _ _ (S23 _ _ e22)))] at f27;cases f27
  have n56:a5≠d6:=fun z=>by subst z;rw[x5] at x6;cases x6
  have n281:l28≠a1:=(ao (S27 _ _ (S26 _ _ (S25 _ _ (S24 _ _ (S23 _ _ (S22 _ _ e21)))))) f28).symm;have n285:l28≠a5:=(ao (S27 _ _ e26) f28).symm;have frs15:∀a∈[a1,a5],H15 a=none:=by simp only[aV,aP,or_false,forall_eq_or_imp,forall_eq];exact⟨fa1,fa5⟩
  have frs:∀a∈[a1,a5],H a=none:=fun a ha=>f1p (frs15 a ha);have xs15:∀a∈[a1,a5],∃xs,H28 a=some (.lst xs):=by simp only[aV,aP,or_false,forall_eq_or_imp,forall_eq];exact⟨⟨_,S28 _ _ x1⟩,_,S28 _ _ x5⟩
  refine ub (fun σ' H'=>∃(o9:Option V) (as:List Addr) (vs:List V),σ'=[some (.ref p),some (.ref l),some (.int at0),some (.int pg.1),some (.int pg.2),some ov,some (.ref l15),some (.ref a1),some (.ref l28),o9,none,none]/\Things H H' l28 as vs/\vs.length<=9/\Box H' p (n+4)/\KB p H H') (fun N z=>?_) ?_
  · walk
    refine⟨l,_,rfl,.inl (SqL.of el28),?_⟩;walk;rw[au];refine iq (fun h0=>?_) (fun h0=>?_)
    · have r0:(1:Int)<(ts.length:Int):=aU h0
      walk;refine⟨l,_,rfl,.inl (SqL.of el28),?_⟩;walk;rw[au];refine⟨p,(ts.length:Int) - 1,n+3,rfl,b28,by lia,by lia,by lia,fun one H29 one0 one1 b29 k29=>?_⟩;have n28p:l28≠p:=b27.ne f28;have e29:=k29 _ _ e28 n28p;have el29:=k29 _ _ el28 nlp;obtain⟨i,rfl⟩:=Int.eq_ofNat_of_zero_le one0;have hi:i+1<ts.length:=by lia
      walk;refine uh el29 one0 fun l30 f30=>?_;generalize eH:upd H29 l30 _=H30;have S30:aZ H29 H30:=eH▸aZ.upd f30;have e30:=eG eH;clear eH;obtain⟨u0,eu0⟩:∃u,ts[i]?=some u:=⟨_,List.getElem?_eq_getElem (by lia)⟩;obtain⟨u1,eu1⟩:∃u,ts[i+1]?=some u:=⟨_,List.getElem?_eq_getElem hi⟩;obtain⟨p0,ep0⟩:∃q,ps[i]?=some q:=⟨_,List.getElem?_eq_getElem (by lia)⟩
      obtain⟨p1,ep1⟩:∃q,ps[i+1]?=some q:=⟨_,List.getElem?_eq_getElem (by lia)⟩;have ix0:atI (ts.map V.ref) (i:Int)=some (.ref u0):=da (by rw[aQ,eu0];rfl)
      have ix1:atI (ts.map V.ref) ((i:Int)+1)=some (.ref u1):=by
        rw[show (i:Int)+1=((i+1:Nat):Int) by lia];exact da (by rw[aQ,eu1];rfl)
      walk;refine df (S30 _ _ el29) ix1 ?_;walk;refine df (S30 _ _ el29) ix0 ?_;walk;refine dS fun l31 H31 f31 S31 e31=>?_;walk;refine iQ (S31 _ _ e30) e31 (big _ (by simp only[aF,au,aR,bC];lia)) fun l32 f32=>?_;generalize eH:upd H31 l32 _=H32;have S32:aZ H31 H32:=eH▸aZ.upd f32;have e32:=eG eH;clear eH;have el32:=S32 _ _ (S31 _ _ (S30 _ _ el29))
      walk;refine qP el32 (by lia) fun l33 f33=>?_;generalize eH:upd H32 l33 _=H33;have S33:aZ H32 H33:=eH▸aZ.upd f33;have e33:=eG eH;clear eH;walk;refine iQ (S33 _ _ e32) e33 (big _ (by simp only[aB,aF,bf,au,aR,bC];lia)) fun a8 f34=>?_;generalize eH:upd H33 a8 _=H34;have S34:aZ H33 H34:=eH▸aZ.upd f34;have e34:=eG eH;clear eH
      have S2933:aZ H29 H33:=S30.trans (S31.trans (S32.trans S33));have S2934:aZ H29 H34:=S2933.trans S34;walk;refine dJ (S2934 _ _ e29) (aH (m:=9) (by simp) (by decide)) ?_;have n8:a8≠l28:=(ao (S2933 _ _ e29) f34).symm;have nl28:l≠l28:=ao (S27 _ _ (S26 _ _ el25)) f28;generalize eH:upd H34 l28 _=H35
      have e35:H35 l28=some (.lst ([V.ref a1,.non,.ref d3,.str "",.ref a5,.ref d6,.bl true]++[.ref a8])):=eH▸ay;have k35:KB l28 H34 H35:=eH▸KB.refl.updP;clear eH;have el35:=k35 _ _ (S2934 _ _ el29) nl28;walk;refine uh el35 (by lia) fun l36 f36=>?_;generalize eH:upd H35 l36 _=H36;have S36:aZ H35 H36:=eH▸aZ.upd f36;have e36:=eG eH;clear eH;walk;refine df (S36 _ _ el35) ix0 ?_
      have xu0:H36 u0=some (.tup [.int p0.1,.int p0.2]):=by
        have q0:=tu28.2 i u0 p0 eu0 ep0;have q1:=S2934 _ _ (k29 _ _ q0 fun z=>by subst z;obtain⟨ys,ey⟩:=b28.lst;rw[q0] at ey;cases ey);exact S36 _ _ (k35 _ _ q1 fun z=>by subst z;rw[S2934 _ _ e29] at q1;cases q1)
      walk;refine ef fun t37 H37 f37 S37 e37=>?_;walk;refine dS fun l38 H38 f38 S38 e38=>?_;walk;refine iQ (S38 _ _ (S37 _ _ e36)) e38 (big _ (by simp only[aF,au,aR,bC];lia)) fun l39 f39=>?_;generalize eH:upd H38 l39 _=H39;have S39:aZ H38 H39:=eH▸aZ.upd f39;have e39:=eG eH;clear eH;have S3539:aZ H35 H39:=S36.trans (S37.trans (S38.trans S39));walk
      refine qP (S3539 _ _ el35) (by lia) fun l40 f40=>?_;generalize eH:upd H39 l40 _=H40;have S40:aZ H39 H40:=eH▸aZ.upd f40;have e40:=eG eH;clear eH;walk;refine iQ (S40 _ _ e39) e40 (big _ (by simp only[aB,aF,bf,au,aR,bC];lia)) fun a9 f41=>?_;generalize eH:upd H40 a9 _=H41;have S41:aZ H40 H41:=eH▸aZ.upd f41;have e41:=eG eH
      clear eH;have S3540:aZ H35 H40:=S3539.trans S40;have S3541:aZ H35 H41:=S3540.trans S41;have e41l:=S3541 _ _ e35;walk;refine dJ e41l (aH (m:=9) (by simp) (by decide)) ?_;have n9:a9≠l28:=(ao (S3540 _ _ e35) f41).symm;generalize eH:upd H41 l28 _=H42
      have e42:H42 l28=some (.lst ([V.ref a1,.non,.ref d3,.str "",.ref a5,.ref d6,.bl true]++[.ref a8]++[.ref a9])):=eH▸ay;have k42:KB l28 H41 H42:=eH▸KB.refl.updP;clear eH;walk;have n28of:∀{b:Addr} {o:HO},H27 b=some o->b≠l28:=fun e=>ao e f28;have K2742:KB p H27 H42:=fun b o e nb=>k42 _ _ (S3541 _ _ (k35 _ _ (S2934 _ _ (k29 _ _ (S28 _ _ e) nb)) (n28of e))) (n28of e)
      have b42:Box H42 p (n+4):=b29.to fun o e=>k42 _ _ (S3541 _ _ (k35 _ _ (S2934 _ _ e) n28p.symm)) n28p.symm;have x8:=k35 _ _ e34 n8;have y8:=k42 _ _ (S3541 _ _ x8) n8;have y9:=k42 _ _ e41 n9;have g8:H29 a8=none:=S2933.free f34;have g9:H29 a9=none:=S2934.free (bW k35 (S3540.free f41) n9);have t8:H27 a8=none:=S28.free (bW k29 g8 (b29.ne g8))
      have t9:H27 a9=none:=S28.free (bW k29 g9 (b29.ne g9))
      have fr4:∀a∈[a1,a5,a8,a9],H15 a=none:=by
        simp only[aV,aP,or_false,forall_eq_or_imp,forall_eq];exact⟨fa1,fa5,bW K1527 t8 (b27.ne t8),bW K1527 t9 (b27.ne t9)⟩
      have xs4:∀a∈[a1,a5,a8,a9],∃xs,H42 a=some (.lst xs):=by
        simp only[aV,aP,or_false,forall_eq_or_imp,forall_eq];exact⟨⟨_,K2742 _ _ x1 (b15.ne fa1)⟩,⟨_,K2742 _ _ x5 (b15.ne fa5)⟩,⟨_,y8⟩,_,y9⟩
      have tsd:=tsP K2742 xs4
      have gdv:∀{j:Nat} {u:Addr} {q:Int×Int},ts[j]?=some u->ps[j]?=some q->DV (· ∈ [a1,a5,a8,a9]) H42 (.ref u) (pD q):=fun {j u q} e1 e2=>by
        obtain⟨d,ed,dv⟩:=lg tsd (show (ts.map V.ref)[j]?=some (.ref u) by rw[aQ,e1];rfl);rw[aQ,e2] at ed;cases ed;exact dv
      have lt01:p0.1<p1.1:=by
        obtain⟨h1,rfl⟩:=aA.mp ep0;obtain⟨h2,rfl⟩:=aA.mp ep1;exact pairwise_iff_getElem.mp pw i (i+1) h1 h2 (lt_succ_self i)
      have pr0:=pr _ (bV ep0);have pr1:=pr _ (bV ep1);rw[show ((i:Int)+2).toNat=i+2 by lia,Int.toNat_natCast] at y8;rw[show ((i:Int)+1).toNat=i+1 by lia] at y9;have e37':H42 t37=some (.tup [.int p0.1,.int 0]):=k42 _ _ (S41 _ _ (S40 _ _ (S39 _ _ (S38 _ _ e37)))) fun z=>by subst z;rw[S36 _ _ e35] at f37;cases f37
      refine z _ _ ⟨some (.int i),[a1,a5,a8,a9],[V.ref a1,.non,.ref d3,.str "",.ref a5,.ref d6,.bl true,.ref a8,.ref a9],rfl,⟨e42,?_,?_,fun a ha=>f1p (fr4 a ha),?_⟩,le_of_ble_eq_true rfl,b42,KB.trans k27 K2742⟩
      · simp only[aV,aP,or_false,not_or]
        exact⟨n281,n285,n8.symm,n9.symm⟩
      · have m:∀{u v:Addr} {o:HO},H27 u=some o->H27 v=none->u≠v:=fun e f=>ao e f
        have n89:a8≠a9:=ao (S3540 _ _ x8) f41;simp only[eV,aV,aP,or_false,not_or,V.ref.injEq,reduceCtorEq,not_false_eq_true,true_and,and_true,nodup_nil];exact⟨⟨n13,n15,n16,m x1 t8,m x1 t9⟩,⟨n35,n36,m x3 t8,m x3 t9⟩,⟨n56,m x5 t8,m x5 t9⟩,⟨m x6 t8,m x6 t9⟩,n89⟩
      · intro v hv
        rcases(ba (s:=[V.ref a1,.non,.ref d3,.str "",.ref a5,.ref d6,.bl true]) (t:=[.ref a8,.ref a9])).mp hv with hv|hv
        · exact things H42 _ K2742 (by simp) (by simp) fr4 xs4 v hv
        · simp only[aV,aP,or_false] at hv
          rcases hv with rfl|rfl
          · refine⟨.list ((ps.map pD).take i++[pD p1,pD p0]++(ps.map pD).drop (i+2)),.lst (by simp) y8 (((gE _ tsd).append (.cons (gdv eu1 ep1) (.cons (gdv eu0 ep0) .nil))).append (gF _ tsd)),pC (ps:=ps.take i) (p:=p1) (qs:=[]) (q:=p0) (rs:=ps.drop (i+2)) (by simp[fQ,List.map_take,List.map_drop]) (Int.le_of_lt lt01),?_,iO (fun d hd=>?_) ?_⟩
            · simp only[fQ,aB,aF,bf,au,aR,bC];lia
            · rcases ba.mp hd with hd|hd
              · rcases ba.mp hd with hd|hd
                · exact shP d (mem_of_mem_take hd)
                · simp only[aV,aP,or_false] at hd
                  rcases hd with rfl|rfl
                  · exact ix pr1
                  · exact ix pr0
              · exact shP d (mem_of_mem_drop hd)
            · simp only[aB,aF,bf,au,aR,bC];lia
          · refine⟨.list ((ps.map pD).take (i+1)++[pD (p0.1,0)]++(ps.map pD).drop (i+1)),.lst (by simp) y9 (((gE _ tsd).append (.cons (.tup (lst_ne xs4 e37' fun _=>by simp) e37' (.cons (.int _) (.cons (.int _) .nil))) .nil)).append (gF _ tsd)),pC (ps:=ps.take i) (p:=p0) (qs:=[]) (q:=(p0.1,0)) (rs:=ps.drop (i+1)) ?_ (Int.le_refl _),?_,iO (fun d hd=>?_) ?_⟩
            · show (ps.map pD).take (i+1)++[pD (p0.1,0)]++(ps.map pD).drop (i+1)=_
              rw[take_add_one,aQ,ep0];simp[List.map_take,List.map_drop]
            · simp only[fQ,aB,aF,bf,au,aR,bC];lia
            · rcases ba.mp hd with hd|hd
              · rcases ba.mp hd with hd|hd
                · exact shP d (mem_of_mem_take hd)
                · cases a_.mp hd
                  exact ix ⟨pr0.1,(⟨by decide,by decide⟩:gB 0)⟩
              · exact shP d (mem_of_mem_drop hd)
            · simp only[aB,aF,bf,au,aR,bC];lia
    · walk
      refine z _ _ ⟨none,[a1,a5],[V.ref a1,.non,.ref d3,.str "",.ref a5,.ref d6,.bl true],rfl,⟨e28,?_,?_,?_,?_⟩,le_of_ble_eq_true rfl,b28.mono (by lia),k28⟩
      · simp only[aV,aP,or_false,not_or]
        exact⟨n281,n285⟩
      · simp only[eV,aV,aP,or_false,not_or,V.ref.injEq,reduceCtorEq,not_false_eq_true,true_and,and_true,nodup_nil]
        exact⟨⟨n13,n15,n16⟩,⟨n35,n36⟩,n56⟩
      · exact frs
      · exact things H28 _ S28.kb (by simp) (by simp) frs15 xs15
  rintro _ H29 ⟨o9,as,vs,rfl,th0,lv,b29,k29⟩;have eL:=th0.e;walk;have npa:p∉as:=fun z=>by obtain⟨ys,ey⟩:=b.lst;rw[th0.fr p z] at ey;cases ey
  have nla:l∉as:=fun z=>by rw[th0.fr l z] at el;cases el
  refine lR (fun i σ H30=>∃(o10 o11:Option V),σ=[some (.ref p),some (.ref l),some (.int at0),some (.int pg.1),some (.int pg.2),some ov,some (.ref l15),some (.ref a1),some (.ref l28),o9,o10,o11]/\H30 l28=some (.lst vs)/\(∀b o,H29 b=some o->b∉as->H30 b=some o)/\∀j v,i<=j->vs[j]?=some v->∃d,Thing (· ∈ as) H30 v d/\TOk d)
    ⟨_,_,rfl,eL,fun _ _ e _=>e,fun j v _ e=>th0.th v (bV e)⟩ (fun i σ H6 _ ⟨_,_,_,e,_⟩=>e) ?_ ?_
  · rintro i x σ H30 ex ⟨o10,o11,rfl,eL,kp,al⟩
    obtain⟨d,th,ok⟩:=al i x (aD _) ex;have dv0:=th.dv;walk;refine⟨fun _=>False,x,d,rfl,dv0,ok.l,fun pd=>aY pd (by rw[ok.n];exact aj),fun _ l31 H31 f31 S31 e31=>?_⟩;walk;refine⟨_,_,_,_,rfl,(cx dv0 S31).thg,.inl ⟨"list",rfl,eX d⟩,?_⟩;walk;cases th with
    | @lst a xs ds na e r=>
      refine kZ (c:=true) rfl (dk ?_);have ea:=S31 _ _ e;walk;refine dJ ea (lt_of_le_of_lt (m:=2000) (by rw[r.length];exact ok.l) (by decide)) ?_;generalize eH:upd H31 a _=H32;have ea32:H32 a=some (.lst (xs++[.str "more"])):=eH▸ay;have k32:KB a H31 H32:=eH▸KB.refl.updP;clear eH;have n31:l31≠a:=(ao e f31).symm;have e31':=k32 _ _ e31 n31;walk
      have keep:∀b o,b∉as->H30 b=some o->H32 b=some o:=fun b o nb e=>k32 _ _ (S31 _ _ e) fun z=>nb (z▸na);have dvm:DV (fun _=>False) H32 (.ref a) (.list (ds++[.str "more"])):=.lst (fun z=>z) ea32 ((r.keep keep fun _ z=>z.elim).append (.cons (.str _) .nil));refine iteNX (aq rfl) ?_;walk;refine⟨.ref a,fun _=>False,_,rfl,dvm,jO ok.s,?_⟩;walk
      refine⟨.ref a,fun _=>False,_,rfl,dvm,jO ok.s,?_⟩;walk;refine iteNX (aq rfl) ?_;walk;refine⟨_,_,rfl,keep _ _ th0.out eL,fun b o e nb=>keep _ _ nb (kp b o e nb),fun j v hj ej=>?_⟩;obtain⟨d',th',ok'⟩:=al j v (by lia) ej;refine⟨d',th'.keep keep fun b o ev e=>k32 _ _ (S31 _ _ e) fun z=>?_,ok'⟩;subst z ev;have hi:i<vs.length:=(aA.mp ex).1
      have:=(List.getElem?_inj hi th0.nd).mp (ex.trans ej.symm)
      lia
    | oth no r=>
      rw[no];refine cG ?_;walk;refine iteNX (aq rfl) ?_;walk;refine⟨x,fun _=>False,_,rfl,cx dv0 S31,ok.s.okd (by decide) (by decide),?_⟩;walk;refine⟨x,fun _=>False,_,rfl,cx dv0 S31,ok.s.okd (by decide) (by decide),?_⟩;walk;refine iteNX (aq rfl) ?_;walk;refine⟨_,_,rfl,S31 _ _ eL,fun b o e nb=>S31 _ _ (kp b o e nb),fun j v hj ej=>?_⟩
      obtain⟨d',th',ok'⟩:=al j v (by lia) ej;exact⟨d',th'.keep (fun b o _ e=>S31 _ _ e) fun b o _ e=>S31 _ _ e,ok'⟩
  · rintro σ H30 ⟨o10,o11,rfl,eL,kp,_⟩
    have el30:=kp _ _ (k29 _ _ el nlp) nla;have tu30:fj H30 ts ps:=tu.keep fun b xs e=>kp _ _ (k29 _ _ e (nb e)) fun z=>by rw[th0.fr b z] at e;cases e
    have b30:Box H30 p (n+4):=b29.to fun o e=>kp _ _ e npa;have k30:KB p H H30:=fun b o e nb=>kp _ _ (k29 _ _ e nb) fun z=>by rw[th0.fr b z] at e;cases e
    walk;refine dS fun l32 H32 f32 S32 e32=>?_;refine ui (S32 _ _ el30) e32 ?_;walk;by_cases h0:ps=[]
    · subst h0
      obtain rfl:ts=[]:=List.length_eq_zero_iff.mp lts;refine dk ?_;exact k _ ((b30.same S32).mono (by lia)) (KB.trans k30 S32.kb)
    rw[show (ts.map V.ref).isEmpty=false by cases ts with
      | nil=>exact aY (List.length_eq_zero_iff.mp lts.symm) h0
      | cons _ _=>rfl]
    refine cG ?_;walk;unfold zu;walk;refine⟨l,_,rfl,SqL.of (S32 _ _ el30),fun l33 f33=>?_⟩;generalize eH:upd H32 l33 _=H33;have S33:aZ H32 H33:=eH▸aZ.upd f33;have e33:H33 l33=some (.lst (ts.map V.ref).reverse):=eG eH;clear eH;have S303:=S32.trans S33;rw[<- List.map_reverse] at e33
    have dvr:DV (fun _=>False) H33 (.ref l33) (.list (ps.reverse.map pD)):=.lst (fun z=>z) e33 (dt (qH (tu30.keep fun b xs e=>S303 _ _ e)) fun _ _ z=>z);have pd:=ox pw pr h0;have fin:∀{H':Hp},aZ H33 H'->Box H' p (n+10)/\KB p H H':=fun S=>⟨(b30.same (S303.trans S)).mono (by lia),KB.trans k30 (S303.trans S).kb⟩;walk
    refine⟨fun _=>False,.ref l33,_,rfl,dvr,by show (ps.reverse.map pD).length<=2000;rw[au,length_reverse];lia,fun z l34 H34 f34 S34 e34=>?_,fun z l34 H34 f34 S34 e34=>?_⟩
    · rw[pd] at z
      have z1:=aU z;walk;refine dS fun l35 H35 f35 S35 e35=>?_;walk;refine⟨l,_,rfl,.inl (SqL.of (S35 _ _ (S34 _ _ (S303 _ _ el30)))),?_⟩;walk;rw[aq (show V.int ((ts.map V.ref).length:Int)=.int 1 by rw[au,lts,z1];rfl)];refine .inr ⟨true,rfl,?_⟩;refine df e35 (show atI _ 1=_ from rfl) ?_;walk;obtain⟨x,y⟩:=fin (S34.trans S35);exact k _ x y
    · rw[pd] at z
      have z1:=of_decide_eq_false z;walk;refine dS fun l35 H35 f35 S35 e35=>?_;walk;refine⟨l,_,rfl,.inl (SqL.of (S35 _ _ (S34 _ _ (S303 _ _ el30)))),?_⟩;walk;rw[aM (show ¬V.int ((ts.map V.ref).length:Int)=.int 1 by rw[au,lts];intro q;have:=V.int.inj q;lia)];refine .inr ⟨false,rfl,?_⟩;refine df e35 (show atI _ 0=_ from rfl) ?_;walk;obtain⟨x,y⟩:=fin (S34.trans S35)
      exact k _ x y
structure Hou where
 x:Addr
 g:Addr
 d:Addr
 ps:List (Int×Int)
def tri {α:Type}(a b c:α):Nat->α
 | 0=>a
 | 1=>b
 | _+2=>c
theorem xE {P:Nat->Prop}(a:P 0)(b:P 1)(c:P 2):∀i,i<3->P i
 | 0,_=>a
 | 1,_=>b
 | 2,_=>c
 | i+3,h=>by lia
theorem zN {t:Nat->Addr}(e:[V.ref (t 0),.ref (t 1),.ref (t 2)][j]?=some v):j<3/\v=.ref (t j):=by
 match j,e with
 | 0,e=>exact⟨by decide,(aG e).symm⟩
 | 1,e=>exact⟨by decide,(aG e).symm⟩
 | 2,e=>exact⟨by decide,(aG e).symm⟩
theorem at3 {t:Nat->Addr}:∀j:Nat,j<3->atI [V.ref (t 0),.ref (t 1),.ref (t 2)] (j:Int)=some (.ref (t j)):=xE (da rfl) (da rfl) (da rfl)
def NoH (y z:Hou):Prop:=An4 (y.g≠z.g) (y.g≠z.d) (y.d≠z.g) (y.d≠z.d)
theorem NoH.sy {y z:Hou}(h:NoH y z):NoH z y:=let⟨a,b,c,d⟩:=h;⟨a.symm,c.symm,b.symm,d.symm⟩
theorem no3 {a b c:Hou}(h:NoH a b)(k:NoH a c)(l:NoH b c):∀i j,i<3->j<3->i≠j->NoH (tri a b c i) (tri a b c j):=fun i j hi hj n=>by
 match i,j,hi,hj with
 | 0,1,_,_=>exact h
 | 0,2,_,_=>exact k
 | 1,2,_,_=>exact l
 | 1,0,_,_=>exact h.sy
 | 2,0,_,_=>exact k.sy
 | 2,1,_,_=>exact l.sy
 | 0,0,_,_=>exact aY rfl n
 | 1,1,_,_=>exact aY rfl n
 | 2,2,_,_=>exact aY rfl n
structure Hs (c:Cs)(H:Hp)(L:Addr)(t:Nat->Addr)(y:Nat->Hou)(n:Nat):Prop where
 l:H L=some (.lst [.ref (t 0),.ref (t 1),.ref (t 2)])
 t:∀i,i<3->H (t i)=some (.tup [.ref (y i).x,.ref (y i).d])
 h:∀i,i<3->House c H (y i).x (y i).g (y i).d (y i).ps
 n:∀i,i<3->(y i).ps.length<=n
 gd:∀i,i<3->(y i).g≠(y i).d
 no:∀i j,i<3->j<3->i≠j->NoH (y i) (y j)
 tb:iK c H
theorem dD (e:H a=some o)(e2:H b=some u)(n:o≠u):a≠b:=fun z=>by subst z;rw[e] at e2;exact n (aG e2)
theorem iK.to (t:iK c H)(k:∀b o,H b=some o->(∀xs,o≠.lst xs)->(∀kv,o≠.dK kv)->H' b=some o):iK c H':=by
 rcases t with e|⟨c',e,ec⟩
 ·exact .new (k _ _ e nofun nofun)
 ·exact .old c' (k _ _ e nofun nofun) (k _ _ ec nofun nofun)
theorem House.at {x g d}(Y:House c H x g d ps)(kx:∀o,H x=some o->H' x=some o)(kg:∀o,H g=some o->H' g=some o)(kd:∀o,H d=some o->H' d=some o):House c H' x g d ps:=
 ⟨⟨let⟨dx,e⟩:=Y.p.x;⟨dx,kx _ e⟩,kg _ Y.p.g⟩,kd _ Y.d,Y.l,Y.nd,Y.r⟩
section
variable {t:Nat->Addr}{y:Nat->Hou}
theorem Hs.kb (S:Hs c H L t y n)(ep:H p=some (.lst xs))(pl:p≠L)(k:KB p H H'):Hs c H' L t y n:=
 ⟨k _ _ S.l pl.symm,fun i h=>k _ _ (S.t i h) (dD (S.t i h) ep nofun),fun i h=>(S.h i h).at (fun o e=>k _ _ e (let⟨_,z⟩:=(S.h i h).p.x;dD z ep nofun)) (fun o e=>k _ _ e (dD (S.h i h).p.g ep nofun)) (fun o e=>k _ _ e (dD (S.h i h).d ep nofun)),S.n,S.gd,S.no,
  S.tb.to fun b o e n1 n2=>k _ _ e (dD e ep (n1 _))⟩
theorem Hs.same (S:Hs c H L t y n)(k:aZ H H'):Hs c H' L t y n:=
 ⟨k _ _ S.l,fun i h=>k _ _ (S.t i h),fun i h=>(S.h i h).at (k _) (k _) (k _),S.n,S.gd,S.no,S.tb.kb k⟩
theorem Hs.pt (S:Hs c H L t y n)(k:KB c.PT H H')(tb:iK c H'):Hs c H' L t y n:=
 ⟨k _ _ S.l (S.tb.ne S.l nofun),fun i h=>k _ _ (S.t i h) (S.tb.ne (S.t i h) nofun),fun i h=>(S.h i h).at (fun o e=>k _ _ e (let⟨_,z⟩:=(S.h i h).p.x;S.tb.ne z nofun)) (fun o e=>k _ _ e (S.tb.ne (S.h i h).p.g nofun)) (fun o e=>k _ _ e (S.tb.ne (S.h i h).d nofun)),S.n,S.gd,S.no,tb⟩
theorem Hs.step {i:Nat}(S:Hs c H L t y n)(hi:i<3)(ep:H p=some (.lst xs))(pl:p≠L)(k:Kp3 p (y i).g (y i).d H H')(Y:House c H' (y i).x (y i).g (y i).d ps)(l:ps.length<=(y i).ps.length+1) :
  Hs c H' L t (fun j=>if j=i then { y i with ps:=ps } else y j) (n+1):=by
 have kk:∀b o,H b=some o->(∀xs,o≠.lst xs)->(∀kv,o≠.dK kv)->H' b=some o:=fun b o e n1 n2=>k _ _ e (dD e ep (n1 _)) (dD e (S.h i hi).p.g (n2 _)) (dD e (S.h i hi).d (n2 _));have e1:∀j,(if j=i then { y i with ps:=ps } else y j:Hou).x=(y j).x:=fun j=>by split<;>simp_all
 have e2:∀j,(if j=i then { y i with ps:=ps } else y j:Hou).g=(y j).g:=fun j=>by split<;>simp_all
 have e3:∀j,(if j=i then { y i with ps:=ps } else y j:Hou).d=(y j).d:=fun j=>by split<;>simp_all
 refine⟨k _ _ S.l pl.symm (dD S.l (S.h i hi).p.g nofun) (dD S.l (S.h i hi).d nofun),fun j h=>?_,fun j h=>?_,fun j h=>?_,fun j h=>?_,fun j m hj hm nm=>?_,S.tb.to kk⟩
 ·rw[e1,e3];exact kk _ _ (S.t j h) nofun nofun
 ·by_cases z:j=i
  ·subst z;rw[ak rfl];exact Y
  ·rw[ah z];obtain⟨n1,n2,n3,n4⟩:=S.no j i h hi z;have Z:=S.h j h;exact Z.at (fun o e=>let⟨_,w⟩:=Z.p.x;k _ _ e (dD w ep nofun) (dD w (S.h i hi).p.g nofun) (dD w (S.h i hi).d nofun)) (fun o e=>k _ _ e (dD Z.p.g ep nofun) n1 n2) (fun o e=>k _ _ e (dD Z.d ep nofun) n3 n4)
 ·by_cases z:j=i
  ·subst z;rw[ak rfl];have:=S.n j h;show ps.length<=n+1
   lia
  ·rw[ah z];exact Nat.le_succ_of_le (S.n j h)
 ·rw[e2,e3];exact S.gd j h
 ·unfold NoH;rw[e2,e2,e3,e3];exact S.no j m hj hm nm
theorem House.same {x g d}(Y:House c H x g d ps)(k:aZ H H'):House c H' x g d ps:=Y.at (k _) (k _) (k _)
def KN (H H':Hp):Prop:=∀b o,H b=some o->(∀kv,o≠.dK kv)->(∀ps,o≠.tbl ps)->H' b=some o
theorem KN.sq {s us}(k:KN H H')(q:SqL K H s us):SqL K H' s us:=by
 rcases q with q|q
 ·rcases q with q|⟨o,q⟩
  ·exact .inl (.inl (k _ _ q nofun nofun))
  ·exact .inl (.inr ⟨o,k _ _ q nofun nofun⟩)
 ·exact .inr q
theorem KN.trans (k:KN H0 H)(l:KN H H'):KN H0 H':=fun b o e n1 n2=>l _ _ (k _ _ e n1 n2) n1 n2
theorem KN.of (k:aZ H H'):KN H H':=fun b o e _ _=>k _ _ e
theorem KN.kb (k:KN H0 H)(f:H0 p=none)(l:KB p H H'):KN H0 H':=fun b o e n1 n2=>l _ _ (k _ _ e n1 n2) (ao e f)
end
inductive spLaw (PT:Addr)(K:Frag)(vs:List V)(H:Hp)(Q:VK)(E:XK):Prop
 | mk (a:Addr)(ns:List Int):vs=[.ref a]->SqL K H a (ns.map V.int)->ns.length<=63->H PT=some (.tbl #[])->(∀H',Q (.bl true) H')->spLaw PT K vs H Q E
theorem wC:Ok F F.r.d_law 14 (spLaw c.PT K):=by
  have T:=F.r.T;obtain⟨f,fd,XPlain⟩:=F.PX;have GPlain:=iX F XPlain;refine F.r.d_law.go fun sc H Q hr h=>?_;obtain⟨s,ns,rfl,hS,hz,hT,k⟩:=h;refine'⟨_,?h,?r⟩
  case h=>
    refine' am ?s ?t
    case s=>exact(dX sc 1 (bM (sZ F) hr (pa1 (bM (ph F) hr (pa2 (pv 0) ai)))))
    case t=>
     refine' am ?s ?t
     case s=>exact(bF (ci (bH (bM (mX F) hr (pa2 (pv 1) (bM (jM F) hr (pa2 (pv 1) (bM (bG F) hr (pa2 (pv 1) ai))))))))
      (aw (aL cO))
      aW)
     case t=>
      refine' am ?s ?t
      case s=>exact(dX sc 2 (bD (pa3 (bM (mi F) hr (pa1 (pv 1))) (bM (mi F) hr (pa1 (pv 1))) (bR (pa2 (gN XPlain.mak GPlain (hr.mono (by decide)) rfl XPlain.m XPlain.bi .nil oR (pa1 (bD ck))) lY)))))
      case t=>
       refine' am ?s ?t
       case s=>exact(gn PassesOwn.never rfl (cZ (pv 2)) (fh rfl (bq (fk sc 3) (bq (fk sc 4) dB)))
      (aw (bF (ci (bH (bM (jL F) hr (pa2 (pv 3) (pv 4)))))
      (aw (aL cO))
      aW)))
       case t=>
        refine' am ?s ?t
        case s=>
          refine' gn PassesOwn.never rfl (oM rfl T.n_range (pa2 ai (aN (gb rfl) rfl T.n_max mJ (pa2 ai (aN (ig rfl) rfl T.n_min qA (pa2 ai (aN bE rfl T.n_len d7 (pa1 (pv 0))))))))) (fk sc 5) ?b
          case b=>
            refine' am ?s1 (am ?s2 (am ?s3 (am ?s4 (aw ?s5))))
            case s1=>exact(dX sc 1 (bM (sZ F) hr (pa1 (bM (ph F) hr (pa2 (pv 0) (pv 5))))))
            case s2=>exact(gp (pix bz (pv 2) (pix bz (bD (pa4 ai ai ai ai)) (bM (bG F) hr (pa2 (pv 1) ai)))) (fh rfl (bq (fk sc 3) (bq (fk sc 4) dB))))
            case s3=>exact(bF (ci (bH (bM (uD F) hr (pa3 (pv 1) (pv 3) (pv 4))))) (aw (aL cO)) aW)
            case s4=>
              refine'(bF (PW.pt (iy (pc cw (bM (bG F) hr (pa2 (pv 1) ai)) ai) (gh (pc gU ?sh cO)))) (aw (aL cO)) aW)
              case sh=>
                refine' wl (rq F) oR hr ?ar
                case ar=>
                  with_reducible refine' pa2 ?l1 ?l2 rfl rfl
                  case l1=>exact(bD (pa1 (bR (pa2 ai ai))))
                  case l2=>with_reducible exact bD (gR (dZ (gR (cX (dZ (dZ ck))) (dZ (dZ (dZ (dZ ck)))))) ck)
            case s5=>exact(gn PassesOwn.never rfl (cZ (pv 2)) (fh rfl (bq (fk sc 3) (bq (fk sc 4) dB))) (aw (bF (ci (bH (bM (jL F) hr (pa2 (pv 3) (pv 4))))) (aw (aL cO)) aW)))
        case t=>exact aw (aL cO)
  case r=>
  walk;refine⟨s,0,ns,rfl,hS,fun i0=>?_⟩;walk;refine⟨i0,rfl,fun p H1 fp B1 S1=>?_⟩;walk;refine⟨p,31,0,rfl,B1,by lia,by decide,by decide,fun m H2 m0 m1 B2 k2=>?_⟩;walk;refine⟨p,1,m,rfl,B2,m0,by lia,by decide,fun l ts ps H3 lps pw pr fl el tu fr B3 k3=>?_⟩;walk;refine⟨p,l,2001,ts,ps,rfl,B3,by decide,el,tu,pw,pr,by lia,B2.ne fl,fun H4 B4 k4=>?_⟩;walk
  have tb4:iK c H4:=by
    have t1:iK c H1:=iK.kb (.new hT) S1;have kk:KB p H1 H4:=KB.trans k2 (KB.trans k3 k4);obtain⟨xs,ex⟩:=B1.lst;exact t1.to fun b o e n1 _=>kk _ _ e (dD e ex (n1 _))
  have kn4:KN H H4:=((KN.of S1).kb fp k2).kb fp (KB.trans k3 k4);refine⟨p,2011,rfl,B4,by decide,fun t0 x0 g0 d0 ps0 H5 Y0 l0 ft0 fx0 fg0 fd0 gd0 et0 B5 k5=>?_⟩;walk;refine⟨p,5011,rfl,B5,by decide,fun t1 x1 g1 d1 ps1 H6 Y1 l1 ft1 fx1 fg1 fd1 gd1 et1 B6 k6=>?_⟩;walk;refine dS fun l7 H7 f7 S7 e7=>?_;walk
  refine kS (ps:=[]) (.lst (N:=fun _=>False) (fun z=>z) e7 .nil) rfl rfl .nil (fun _ z=>by cases z) (by decide) fun x2 g2 H8 fx2 fg2 S8 Y2=>?_;walk;intro d2 fd2;generalize eH:upd H8 d2 _=H9;have S9:aZ H8 H9:=eH▸aZ.upd fd2;have ed2:H9 d2=some (.dK (kL [])):=eH▸ay;clear eH;walk;refine ef fun t2 H10 ft2 S10 et2=>?_;walk;refine dS fun L H11 fL S11 eL=>?_;have S79:=S8.trans S9
  have S911:=S10.trans S11;have S711:=S79.trans S911;have S611:=S7.trans S711;obtain⟨xs5,ex5⟩:=B5.lst;have k56:KB p H4 H6:=KB.trans k5 k6;have tb11:iK c H11:=iK.kb (tb4.to fun b o e n1 _=>k56 _ _ e (let⟨_,w⟩:=B4.lst;dD e w (n1 _))) S611;have kn11:KN H H11:=(kn4.kb fp k56).trans (.of S611)
  have Y06:House c H6 x0 g0 d0 ps0:=Y0.at (fun o e=>k6 _ _ e (let⟨_,z⟩:=Y0.p.x;dD z ex5 nofun)) (fun o e=>k6 _ _ e (dD Y0.p.g ex5 nofun)) (fun o e=>k6 _ _ e (dD Y0.d ex5 nofun));have Y07:=Y06.same S7;have Y17:=Y1.same S7;have Y08:=Y07.same S8;have Y18:=Y17.same S8;have Y28:House c H9 x2 g2 d2 []:=⟨⟨let⟨dx,e⟩:=Y2.x;⟨dx,S9 _ _ e⟩,S9 _ _ Y2.g⟩,ed2,by decide,by decide,fun _ z=>by cases z⟩
  have S0:Hs c H11 L (tri t0 t1 t2) (tri ⟨x0,g0,d0,ps0⟩ ⟨x1,g1,d1,ps1⟩ ⟨x2,g2,d2,[]⟩) 400:=by
    refine⟨eL,xE (S611 _ _ (k6 _ _ et0 (dD et0 ex5 nofun))) (S611 _ _ et1) (S11 _ _ et2),xE (Y06.same S611) (Y1.same S611) (Y28.same S911),xE l0 l1 (zero_le _),xE gd0 gd1 (ao Y2.g fd2),no3 ?_ ?_ ?_,tb11⟩
    · exact⟨ao Y0.p.g fg1,ao Y0.p.g fd1,ao Y0.d fg1,ao Y0.d fd1⟩
    · exact⟨ao Y07.p.g fg2,ao Y08.p.g fd2,ao Y07.d fg2,ao Y08.d fd2⟩
    · exact⟨ao Y17.p.g fg2,ao Y18.p.g fd2,ao Y17.d fg2,ao Y18.d fd2⟩
  clear Y0 Y1 Y2 Y06 Y07 Y17 Y08 Y18 Y28 eL et0 et1 et2 fL ft2 S911 S711 S79 S611 S7 S8 S9 S10 S11 k5 k6 k56 tb11 tb4 ed2 fd2 e7 f7 fx2 fg2 gd0 gd1;generalize tri t0 t1 t2=t at S0;generalize tri (⟨x0,g0,d0,ps0⟩:Hou) ⟨x1,g1,d1,ps1⟩ ⟨x2,g2,d2,[]⟩=y at S0;have hS:=kn11.sq hS;walk;refine yX S0.l ?_
  refine lR (xs:=[V.ref (t 0),.ref (t 1),.ref (t 2)]) (fun j σ H'=>Ex2 fun(o3 o4:Option V)=>(σ=[some (.ref s),some (.ref p),some (.ref L),o3,o4,none])/\(aZ H11 H')) ⟨_,_,rfl,.refl _⟩ (fun j σ H' _ z=>let⟨_,_,_,S⟩:=z;S _ _ S0.l) ?_ ?_
  · rintro j v σ H12 ev ⟨o3,o4,rfl,S12⟩
    obtain⟨hj,rfl⟩:=zN ev;have S1:=S0.same S12;refine rT (S1.t j hj) rfl ?_;walk;have Y:=S1.h j hj;refine⟨_,_,_,_,rfl,Y.p,Y.d,Y.l,Y.nd,Y.r,fun H13 S13=>?_⟩;walk;exact⟨_,_,rfl,S12.trans S13⟩
  rintro σ H12 ⟨o3,o4,rfl,S12⟩;have S0:=S0.same S12;have hS:=(KN.of S12).sq hS;walk;refine⟨s,_,rfl,.inl hS,?_⟩;walk;refine⟨_,_,rfl,?_⟩;walk;refine⟨_,_,rfl,?_⟩;walk;refine wS (by decide) (by decide) (by rw[au];lia) (by rw[au];lia) ?_
  refine oC (fun i σ H'=>Ex5 fun(y:Nat->Hou) (o1 o3 o4 o5:Option V)=>An3 (σ=[some (.ref s),o1,some (.ref L),o3,o4,o5]) (Hs c H' L t y (400+i)) (SqL K H' s (ns.map V.int))) ⟨y,_,_,_,_,rfl,S0,hS⟩ ?_ ?_
  · rintro i σ H0 hi ⟨y,o1,o3,o4,o5,rfl,S0,hS⟩
    rw[au] at hi;walk;refine⟨s,1+i,ns,by rw[Int.natCast_add];rfl,hS,fun i1=>?_⟩;walk;refine⟨i1,rfl,fun p H1 fp B1 S1=>?_⟩;walk;refine dS fun l2 H2 f2 S2 e2=>?_;walk;refine⟨p,4,0,rfl,B1.same S2,by decide,by decide,by decide,fun r H3 r0 r1 B3 k3=>?_⟩;have H03:=(S0.same S1).same S2;obtain⟨xs1,ex1⟩:=B1.lst;have pL:p≠L:=fun z=>by subst z;rw[S0.l] at fp;cases fp
    have S3:=H03.kb (S2 _ _ ex1) pL k3;have kn3:KN H0 H3:=((KN.of S1).trans (.of S2)).kb fp k3;obtain⟨z,hz,ez⟩:=dN (ns:=[0,0,1,2]) r0 (by simp;lia)
    obtain⟨q,hq,rfl⟩:∃q:Nat,q<3/\z=(q:Int):=by
      simp only[aV,aP,or_false] at hz;rcases hz with rfl|rfl|rfl|rfl
      · exact⟨0,by decide,rfl⟩
      · exact⟨0,by decide,rfl⟩
      · exact⟨1,by decide,rfl⟩
      · exact⟨2,by decide,rfl⟩
    refine df (k3 _ _ e2 (ao ex1 f2).symm) ez ?_;walk;refine df S3.l (at3 q hq) ?_;refine rT (S3.t q hq) rfl ?_;walk;have Y3:=S3.h q hq;have l3:=S3.n q hq;obtain⟨xs3,ex3⟩:=B3.lst;refine⟨p,_,(y q).g,_,(y q).ps,1,rfl,B3,by decide,Y3,by lia,S3.gd q hq,fun ps' H4 Y4 l4 B4 kp4=>?_⟩;have S4:=S3.step hq ex3 pL kp4 Y4 l4
    have kn4:KN H0 H4:=fun b o e n1 n2=>kp4 _ _ (kn3 _ _ e n1 n2) (ao e fp) (dD (kn3 _ _ e n1 n2) Y3.p.g (n1 _)) (dD (kn3 _ _ e n1 n2) Y3.d (n1 _));generalize (fun j=>if j=q then ({ y q with ps:=ps' }:Hou) else y j)=y4 at S4;have bx4:=B4;walk
    rename_i N eN T U eT eU
    have J:∀H',KN H0 H'->Hs c H' L t y4 (400+(i+1))->N [some (.ref s),some (.ref p),some (.ref L),some (.ref (y q).x),some (.ref (y q).d),some (.int (1+(i:Int)))] H':=by
      clear eT eU;intro H' kn' S';walk;refine yX S'.l ?_;refine lR (xs:=[V.ref (t 0),V.ref (t 1),V.ref (t 2)]) (fun j σ H5=>Ex2 fun(o3 o4:Option V)=>(σ=[some (.ref s),some (.ref p),some (.ref L),o3,o4,some (.int (1+(i:Int)))])/\(aZ H' H5)) ⟨_,_,rfl,.refl _⟩ (fun j σ H' _ z=>let⟨_,_,_,S⟩:=z;S _ _ S'.l) ?_ ?_
      · rintro j v σ H12 ev ⟨o3,o4,rfl,S12⟩
        obtain⟨hj,rfl⟩:=zN ev;have S1:=S'.same S12;refine rT (S1.t j hj) rfl ?_;walk;have Y:=S1.h j hj;refine⟨_,_,_,_,rfl,Y.p,Y.d,Y.l,Y.nd,Y.r,fun H13 S13=>?_⟩;walk;exact⟨_,_,rfl,S12.trans S13⟩
      · rintro σ H12 ⟨o3,o4,rfl,S12⟩
        exact⟨y4,_,_,_,_,rfl,S'.same S12,(kn'.trans (.of S12)).sq hS⟩
    clear eN;refine⟨p,4,61,rfl,B4,by decide,by decide,by decide,fun r4 H5 _ _ B5 k5=>?_⟩;obtain⟨xs4,ex4⟩:=B4.lst;have S5:=S4.kb ex4 pL k5;have kn5:=kn4.kb fp k5;walk;by_cases e0:r4=0
    · refine jt (bL V.int e0) ?_
      walk;refine ef fun t6 H6 f6 S56 e6=>?_;walk;refine dS fun l7 H7 f7 S67 e7=>?_;walk;refine ef fun t8 H8 f8 S78 e8=>?_;walk;refine ef fun t9 H9 f9 S89 e9=>?_;walk;refine dS fun l10 H10 f10 S90 e10=>?_;have S10:=S89.trans S90;have S08:=S78.trans S10;have S57:=S67.trans S08;have S50:=S56.trans S57;have S':=S5.same S50;walk
      refine⟨l7,t6,l10,t9,t8,rfl,S08 _ _ e7,S57 _ _ e6,e10,⟨S90 _ _ e9,S10 _ _ e8⟩,S'.tb,fun H11 k11 tb11=>?_⟩;have S11:=S'.pt k11 tb11;have kn11:KN H0 H11:=fun b o e n1 n2=>k11 _ _ (S50 _ _ (kn5 _ _ e n1 n2)) (S'.tb.ne (S50 _ _ (kn5 _ _ e n1 n2)) n2);walk;refine⟨true,rfl,?_⟩;walk;refine iteNX (aq rfl) ?_;walk;exact J H11 kn11 S11
    · refine eB (fun y=>e0 (V.int.inj y)) ?_
      walk;exact J H5 kn5 S5
  · rintro σ H' ⟨y,o1,o3,o4,o5,rfl,_⟩
    walk;exact k H'
section
variable {ps:List Str}{D:Addr}{kV:Value}
theorem my {d}(l1:K.lookup f=some ⟨.type "function",od,.func d,osl⟩):keepIn K (.ref f)=true/\isFn K (.ref f)=true:=by
 refine⟨by unfold keepIn;dsimp only;rw[l1],?_⟩;unfold isFn;rw[show typeIn K (.ref f)=(K.lookup f).map (·.cls) from rfl,l1];rfl
theorem rV (a:Fun K x q st f fd)(b:Fun K x q st f fd'):fd=fd':=by
 obtain⟨_,_,_,_,_,_,_,_,_,_,l1,_⟩:=a.ex;obtain⟨_,_,_,_,_,_,_,_,_,_,l2,_⟩:=b.ex;rw[l1] at l2;cases l2;rfl
def ER (K:Frag)(mg:Str->Option Value):Prop:=Ex2 fun cK cC=>An4 (mg "NoKey" = some (.ref cK)) (mg "NoCall" = some (.ref cC)) (mroIn K cK (.ref cC)=some false) (mroIn K cC (.ref cK)=some false)
def TbF (K:Frag)(mg:Str->Option Value)(cc:Addr):Prop:=∃(f:Addr) (oc:Value) (od:Option Addr) (kV doc pm:Value) (an:Option Addr) (ct:Value) (osl:Array (Option Value)),An4 (mg "ordered_deeds" = some (.ref f)) (K.lookup f=some ⟨oc,od,.func (fnOf "ordered_deeds" "ordered_deeds" (cf (top 39)) (bP (top 39)) (aO (top 39)) .none kV doc pm an (.ref cc) ct),osl⟩) (codeIn K (.ref cc) "ordered_deeds" = true) True
section
variable (zX:K.In h)(zG:h.Ns mainGlobals mg)
include zX zG
theorem int_of {t}(a:nsIn K mainGlobals x=some (some (.int i t))):∃t,mg x=some (.int i t):=⟨t,mg_of zX zG a⟩
theorem er_mk {cK cC}(aK:nsIn K mainGlobals "NoKey" = some (some (.ref cK)))(aC:nsIn K mainGlobals "NoCall" = some (some (.ref cC)))(m1:mroIn K cK (.ref cC)=some false)(m2:mroIn K cC (.ref cK)=some false):ER K mg:=
 ⟨cK,cC,mg_of zX zG aK,mg_of zX zG aC,m1,m2⟩
theorem tb_mk (a:nsIn K mainGlobals "ordered_deeds" = some (some (.ref f)))(l:K.lookup f=some ⟨oc,od,.func (fnOf "ordered_deeds" "ordered_deeds" (cf (top 39)) (bP (top 39)) (aO (top 39)) .none kV doc pm an (.ref cc) ct),osl⟩)(e:codeIn K (.ref cc) "ordered_deeds" = true):TbF K mg cc:=
 ⟨f,oc,od,kV,doc,pm,an,ct,osl,mg_of zX zG a,l,e,trivial⟩
section
variable (zk:findIn K (.ref C) nm=some (some (.ref f)))(zl:K.lookup f=some ⟨.type "function",od,.func (fnOf nm q (cf st) (bP st) (aO st) .none kV doc pm an cdv ct),osl⟩)(c1:codeIn K cdv q=true)
  (hb:∀(kV doc pm:Value) (an:Option Addr) (cdv ct:Value) (us:List Value),us.length=ps.length->bindArgs (fnOf nm q (cf st) (bP st) (aO st) .none kV doc pm an cdv ct) ⟨us,[]⟩=pure (ps.zip us))
include zk zl c1 hb
theorem meth_mk (aC:nsIn K mainGlobals cn=some (some (.ref C))):MM K mg cn nm q st ps:=by
 obtain⟨kf,ff⟩:=my zl;exact⟨C,f,_,mg_of zX zG aC,⟨zk,ff,kf⟩,gw (st:=st) zl c1 kf,(gw (st:=st) zl c1 kf).binds hb⟩
end
section
variable (aC:nsIn K mainGlobals cn=some (some (.ref C)))(zl:K.lookup f=some ⟨.type "function",od,.func (fnOf "__init__" q (cf st) (bP st) (aO st) .none kV doc pm an cdv ct),osl⟩)(c1:codeIn K cdv q=true)
  (hb:∀(kV doc pm:Value) (an:Option Addr) (cdv ct:Value) (us:List Value),us.length=ps.length->bindArgs (fnOf "__init__" q (cf st) (bP st) (aO st) .none kV doc pm an cdv ct) ⟨us,[]⟩=pure (ps.zip us))
include aC zl c1 hb
variable (m1:makesIn K C=true)(zi:findIn K (.ref C) "__init__" = some (some (.ref f)))(zj:keepIn K (.ref C)=true)
  (p1:plainGet K C Str.empty=true) (zq:hasDictIn K C=true) (p3:plainOver K C=true) (p4:findIn K (.ref C) "__setattr__" = some (some (.builtin "object.__setattr__")))
include m1 zi zj p1 zq p3 p4
theorem zh:∃fd,Mk K C f/\Fun K "__init__" q st f fd/\eS K fd ps []/\mg cn=some (.ref C)/\Cls K C:=by
 obtain⟨kf,ff⟩:=my zl;exact⟨_,⟨m1,zi,ff,zj⟩,gw (st:=st) zl c1 kf,(gw (st:=st) zl c1 kf).binds hb,mg_of zX zG aC,⟨p1,zq,p3,p4⟩⟩
theorem pln_mk (e1:cn=("Plain" : Str))(e2:q=("Plain.__init__" : Str))(e3:st=dP (top 25) 0)(e4:ps=(["self","pairs"]:List Str))(n1:findIn K (.ref C) "good_by_key" = some none):∃C f fd,PlN K mg C f fd:=by
 obtain⟨fd,a,b,c,d,e⟩:=zh zX zG aC zl c1 hb m1 zi zj p1 zq p3 p4;subst e1 e2 e3 e4;exact⟨C,f,fd,⟨a,b,c,d,e,n1⟩⟩
end
end
end
structure CF (K:Frag)(mg:Str->Option Value)(T C:Addr)(x q:Str)(st:Stmt)(ps:List Str):Prop where
 lk:∃(qn:Str) (N:Addr) (bs:List Value) (sn:List Str) (sub:List Value) (ab:Bool) (col:Option Bool) (dd:Option Addr) (k0 k1 k2 k3 k5:Option Value),K.lookup C=some (excClassObj x qn C N bs (.ref T::bmV) true sn sub ab col dd k0 k1 k2 k3 k5 "ValueError.__new__")
 ini:∃fI fd,findIn K (.ref C) "__init__" = some (some (.ref fI))/\isFn K (.ref fI)=true/\Fun K "__init__" q st fI fd/\eS K fd ("self" :: ps) []
 kp:keepIn K (.ref C)=true
 sa:findIn K (.ref C) "__setattr__" = some (some (.builtin "object.__setattr__"))
 ga:findIn K (.ref C) "__getattribute__" = some (some (.builtin "BaseException.__getattribute__"))
 no:findIn K (.ref C) "__getattr__" = some none
 ca:findIn K (.ref C) "__class__" = some (some (.builtin "object.__class__"))
 mC:mg x=some (.ref C)
 na:∀f∈ps,cM K C f
structure TF (K:Frag)(mg:Str->Option Value)(T:Addr):Prop where
 lk:∃(qn:Str) (N:Addr) (bs:List Value) (sn:List Str) (sub:List Value) (ab:Bool) (col:Option Bool) (dd:Option Addr) (k0 k1 k2 k3 k5:Option Value),K.lookup T=some (excClassObj "TreeError" qn T N bs bmV true sn sub ab col dd k0 k1 k2 k3 k5 "ValueError.__new__") /\
  ∃(d0:Value) (d1:Option Addr) (es:Array DictEntry) (n:Nat) (sl':Array (Option Value)),K.lookup N=some ⟨d0,d1,.dict es n,sl'⟩/\xP es=true/\nsFind es "__init__" = none
 b:BaseInit K T
 init:findIn K (.ref T) "__init__" = some (some (.builtin "ValueError.__init__"))
 kp:keepIn K (.ref T)=true
 ga:findIn K (.ref T) "__getattribute__" = some (some (.builtin "BaseException.__getattribute__"))
 no:findIn K (.ref T) "__getattr__" = some none
 ca:findIn K (.ref T) "__class__" = some (some (.builtin "object.__class__"))
 cn:specialIn K (.builtin "object.__class__") "__get__" = some (some (.builtin "getset_descriptor.__get__"))
 ct:takesIn K (.builtin "object.__class__")=some true
 mT:mg "TreeError" = some (.ref T)
section
variable {ps:List Str}
theorem tJ {N bs bm sub id}(h:K.lookup C=some (excClassObj nm qn C N bs bm true sn sub ab col dd k0 k1 k2 k3 k5 id)) :
  ∃cd,clsIn K C=some cd/\cd.name=nm/\cd.hasDict=true/\cd.mro=.ref C::bm/\typeIn K (.ref C)=some (.type "type"):=by
 refine⟨_,by unfold clsIn;rw[h],rfl,rfl,rfl,?_⟩;show (K.lookup C).map (·.cls)=_;rw[h];rfl
theorem CF.cd (c:CF K mg T C x q st ps):∃cd,clsIn K C=some cd/\cd.name=x/\cd.hasDict=true/\cd.mro=.ref C::.ref T::bmV/\typeIn K (.ref C)=some (.type "type"):=by
 obtain⟨_,_,_,_,_,_,_,_,_,_,_,_,_,h⟩:=c.lk;exact tJ h
theorem TF.cd (t:TF K mg T):∃cd,clsIn K T=some cd/\cd.name = "TreeError"/\cd.hasDict=true/\cd.mro=.ref T::bmV/\typeIn K (.ref T)=some (.type "type"):=by
 obtain⟨_,_,_,_,_,_,_,_,_,_,_,_,_,h,_⟩:=t.lk;exact tJ h
theorem eJ {cd:ClassData}{l b}(h:clsIn K C=some cd)(m:cd.mro=.ref C::l):mroIn K C b=some ((Value.ref C::l).contains b):=by
 unfold mroIn;rw[h,bind_some,m];rfl
theorem w6 {cd:ClassData}(h:clsIn K C=some cd)(d:cd.hasDict=true):hasDictIn K C=true:=by
 unfold hasDictIn;rw[h];exact d
theorem CF.g (c:CF K mg T C x q st ps)(t:TF K mg T):ExG K C:=by
 obtain⟨cd,h,_,d,m,_⟩:=c.cd;exact⟨c.ga,c.no,(eJ h m).trans rfl,w6 h d,c.ca,t.cn,t.ct,(eJ h m).trans rfl,(eJ h m).trans rfl,(eJ h m).trans rfl,(eJ h m).trans rfl,(eJ h m).trans rfl⟩
theorem CF.er (c:CF K mg T C x q st ps)(t:TF K mg T):∃fI fd,ErN K mg x q st ps C T fI fd:=by
 obtain⟨cd,h,_,d,m,ty⟩:=c.cd;obtain⟨fI,fd,i1,i2,i3,i4⟩:=c.ini;obtain⟨qn,N,bs,sn,sub,ab,col,dd,k0,k1,k2,k3,k5,l⟩:=c.lk;obtain⟨_,TN,_,_,_,_,_,_,_,_,_,_,_,tl,d0,d1,es,n,sl',l2,s1,s2⟩:=t.lk
 exact⟨fI,fd,{ f:=⟨⟨⟨_,_,_,_,_,_,_,_,_,_,_,_,_,_,_,l⟩,⟨_,_,_,_,tl,d0,d1,es,n,sl',l2,s1,s2⟩,i1,i2,c.kp⟩,w6 h d,c.sa⟩,g:=c.g t,b:=t.b,r:=⟨(eJ h m).trans rfl,ty⟩,fn:=i3,bi:=i4,mC:=c.mC,mT:=t.mT,no:=c.na,xC:=⟨(eJ h m).trans rfl,ty,by rw[h];rfl⟩,self:=(eJ h m).trans (by rw[List.contains_cons];simp),up:=(eJ h m).trans (by rw[List.contains_cons,List.contains_cons];simp) }⟩
theorem TF.xm (t:TF K mg T):ExM K T:=by
 obtain⟨cdT,hT,_,dT,mT,tyT⟩:=t.cd;exact⟨(eJ hT mT).trans rfl,tyT,by rw[hT];rfl⟩
theorem cls_mk (X:K.In h)(G:h.Ns mainGlobals mg){N bs sub}{kV:Value}
  (aC:nsIn K mainGlobals x=some (some (.ref C))) (aT:nsIn K mainGlobals "TreeError" = some (some (.ref T))) (lC:K.lookup C=some (excClassObj x qn C N bs (.ref T::bmV) true sn sub ab col dd k0 k1 k2 k3 k5 "ValueError.__new__"))
  (i1:findIn K (.ref C) "__init__" = some (some (.ref fI))) (i3:keepIn K (.ref C)=true) (i5:findIn K (.ref C) "__setattr__" = some (some (.builtin "object.__setattr__")))
  (g1:findIn K (.ref C) "__getattribute__" = some (some (.builtin "BaseException.__getattribute__"))) (g2:findIn K (.ref C) "__getattr__" = some none) (g4:findIn K (.ref C) "__class__" = some (some (.builtin "object.__class__")))
  (l1:K.lookup fI=some ⟨.type "function",od,.func (fnOf "__init__" q (cf st) (bP st) (aO st) .none kV doc pm an cdv ct),osl⟩) (c1:codeIn K cdv q=true) (na:∀f∈ps,cM K C f)
  (hb:∀(kV doc pm:Value) (an:Option Addr) (cdv ct:Value) (us:List Value),us.length=(("self" : Str)::ps).length->bindArgs (fnOf "__init__" q (cf st) (bP st) (aO st) .none kV doc pm an cdv ct) ⟨us,[]⟩=pure ((("self" : Str)::ps).zip us)) :
  ∃C T,mg "TreeError" = some (.ref T)/\CF K mg T C x q st ps:=by
 have kf:keepIn K (.ref fI)=true:=by unfold keepIn;dsimp only;rw[l1]
 have ff:isFn K (.ref fI)=true:=by
  unfold isFn;rw[show typeIn K (.ref fI)=(K.lookup fI).map (·.cls) from rfl,l1];rfl
 exact⟨C,T,mg_of X G aT,⟨⟨qn,N,bs,sn,sub,ab,col,dd,k0,k1,k2,k3,k5,lC⟩,⟨fI,_,i1,ff,gw (st:=st) l1 c1 kf,(gw (st:=st) l1 c1 kf).binds hb⟩,i3,i5,g1,g2,g4,mg_of X G aC,na⟩⟩
theorem na1 {f}(h:findIn K (.ref C) f=some none):∀g∈[f],cM K C g:=fun g hg=>by rw[a_.mp hg];exact h
theorem tf_mk (X:K.In h)(G:h.Ns mainGlobals mg){N bs sub d0 d1 es sl'}
  (aT:nsIn K mainGlobals "TreeError" = some (some (.ref T))) (lT:K.lookup T=some (excClassObj "TreeError" qn T N bs bmV true sn sub ab col dd k0 k1 k2 k3 k5 "ValueError.__new__")) (lN:K.lookup N=some ⟨d0,d1,.dict es n,sl'⟩) (s1:xP es=true) (s2:nsFind es "__init__" = none)
  (b1:specialIn K (.ref T) "__getattribute__" = some (some (.builtin "type.__getattribute__"))) (b2:readsIn K T (.type "type")=true) (b3:findCls K (.ref T) (.type "type") "__init__" = some (.val (.builtin "ValueError.__init__")))
  (i1:findIn K (.ref T) "__init__" = some (some (.builtin "ValueError.__init__"))) (i3:keepIn K (.ref T)=true)
  (g1:findIn K (.ref T) "__getattribute__" = some (some (.builtin "BaseException.__getattribute__"))) (g2:findIn K (.ref T) "__getattr__" = some none) (g4:findIn K (.ref T) "__class__" = some (some (.builtin "object.__class__")))
  (g5:specialIn K (.builtin "object.__class__") "__get__" = some (some (.builtin "getset_descriptor.__get__"))) (g6:takesIn K (.builtin "object.__class__")=some true):∃T,TF K mg T:=
 ⟨T,⟨⟨qn,N,bs,sn,sub,ab,col,dd,k0,k1,k2,k3,k5,lT,d0,d1,es,n,sl',lN,s1,s2⟩,⟨b1,b2,b3⟩,i1,i3,g1,g2,g4,g5,g6,mg_of X G aT⟩⟩
end
theorem by0 {P:List Value->Prop}(h:P [])(us:List Value)(e:us.length=0):P us:=by
 cases us with
 | nil=>exact h
 | cons a r=>cases e
theorem byS {P:List Value->Prop}(h:∀a (us:List Value),us.length=n->P (a::us))(us:List Value)(e:us.length=n+1):P us:=by
 cases us with
 | nil=>cases e
 | cons a r=>exact h a r (Nat.succ.inj e)
theorem by1 {P:List Value->Prop}(h:∀a0,P [a0]):∀us:List Value,us.length=[x0].length->P us:=byS fun a0=>by0 (h a0)
theorem by2 {P:List Value->Prop}(h:∀a0 a1,P [a0,a1]):∀us:List Value,us.length=[x0,x1].length->P us:=byS fun a0=>byS fun a1=>by0 (h a0 a1)
theorem by3 {P:List Value->Prop}(h:∀a0 a1 a2,P [a0,a1,a2]):∀us:List Value,us.length=[x0,x1,x2].length->P us:=byS fun a0=>byS fun a1=>byS fun a2=>by0 (h a0 a1 a2)
theorem by4 {P:List Value->Prop}(h:∀a0 a1 a2 a3,P [a0,a1,a2,a3]):∀us:List Value,us.length=[x0,x1,x2,x3].length->P us:=byS fun a0=>byS fun a1=>byS fun a2=>byS fun a3=>by0 (h a0 a1 a2 a3)
theorem by5 {P:List Value->Prop}{x4}(h:∀a0 a1 a2 a3 a4,P [a0,a1,a2,a3,a4]):∀us:List Value,us.length=[x0,x1,x2,x3,x4].length->P us:=byS fun a0=>byS fun a1=>byS fun a2=>byS fun a3=>byS fun a4=>by0 (h a0 a1 a2 a3 a4)
theorem dn_mk (X:K.In h)(G:h.Ns mainGlobals mg){ps:List Str}{kV:Value}
  (a:nsIn K mainGlobals x=some (some (.ref f))) (l:K.lookup f=some ⟨oc,od,.func (fnOf x x (cf st) (bP st) (aO st) .none kV doc pm an cdv ct),osl⟩)
  (c:codeIn K cdv x=true) (k:keepIn K (.ref f)=true)
  (b:∀(kV doc pm:Value) (an:Option Addr) (cdv ct:Value) (us:List Value),us.length=ps.length->bindArgs (fnOf x x (cf st) (bP st) (aO st) .none kV doc pm an cdv ct) ⟨us,[]⟩=pure (ps.zip us)) :
  DD K mg x st ps:=let⟨f,fd,d⟩:=L2.dn_mk (st:=st) X G a l c k b;⟨f,fd,d⟩
structure Fc (K:Frag)(mg:Str->Option Value)(cc:Addr):Prop where
 r:Rst K mg
 PX:∃C f fd,PlN K mg C f fd
 TT:∃T,TF K mg T
 eK:∃C T,mg "TreeError" = some (.ref T)/\CF K mg T C "NoKey" "NoKey.__init__" (dP (top 2) 0) ["found"]
 eC:∃C T,mg "TreeError" = some (.ref T)/\CF K mg T C "NoCall" "NoCall.__init__" (dP (top 3) 0) ["found"]
 er:ER K mg
 tb:TbF K mg cc
theorem mkF {PT}(Z:Fc K mg cc)(hg:mainGlobals≠PT):∃c:Cs,c.PT=PT/\∀P w base,PySem.W.CodeHd base cc PT->base.BuiltinsAt mg PT->Fx P w K mg base c:=by
 obtain⟨cP,fP,fdP,XP⟩:=Z.PX;obtain⟨TT,t⟩:=Z.TT;obtain⟨kK,_,e1,xK⟩:=Z.eK;cases i6 t.mT e1;obtain⟨kC,_,e1,xC⟩:=Z.eC;cases i6 t.mT e1;obtain⟨_,_,e1,e2,m1,m2⟩:=Z.er;cases i6 xK.mC e1;cases i6 xC.mC e2;exact⟨⟨kK,kC,TT,cP,cc,PT⟩,rfl,fun P w base hC hB=>⟨Z.r,xK.er t,xC.er t,t.xm,⟨_,_,XP⟩,⟨Z.tb,hC,hB,hg⟩,m1,m2⟩⟩
theorem last {PT}(Z:Fc K mg cc)(hg:mainGlobals≠PT)(hmg:mg "law" = some (.ref fa)) :
  ∃fd:FuncData,(∀(s:Shared) (u:Value),BindsTo s fd ⟨[u],[]⟩ [("_law_script",u)])/\∀base:Heap,PySem.W.CodeHd base cc PT->base.BuiltinsAt mg PT->nI P w K mg base CX0 14 fa fd ["_law_script"] (spLaw PT K):=by
 obtain⟨c,e,F⟩:=mkF Z hg;obtain⟨f,fd,Dl⟩:=Z.r.d_law;cases i6 hmg Dl.m;refine⟨fd,?_,fun base hC hB=>?_⟩
 ·obtain⟨oc,od,kV,doc,pm,an,cdv,ct,osl,e,lk,hcd⟩:=Dl.fn.ex;subst e;exact fun s u=>.of_eq rfl
 ·obtain⟨f',fd',D',G'⟩:=wC (F P w base hC hB);cases i6 hmg D'.m;cases rV Dl.fn D'.fn;rw[e] at G';exact G'
end K31
open PySem PySem.W PyProof.Rows
set_option maxRecDepth 100000 in
set_option maxHeartbeats 0 in
theorem PySem.Challenge.cw_nolocktree_k71_plain_store_holds : PySem.Challenge.rw_nolocktree_k71_plain_store.Holds := by
 refine PySem.Challenge.K71hd ?_
 k_fill
 refine L2.walk_ofT (l:=PySem.Challenge.rw_nolocktree_k71_plain_store) (n:=63) (k:=14) (x:="_law_script") (cc:=274) (PT:=272) (CX:=fun _=>L2.CX0) (sp:=K31.spLaw 272) rfl (by decide) rfl ⟨fun _=>rfl,by decide,by decide,rfl⟩ (fun w h Y=>⟨PySem.W.km_in_of Y,PySem.W.km_tabs_of Y 272 (by simp)⟩) (fun w h X=>PySem.W.codeHd_of_K X (by kernel_rfl)) (fun w=>by kernel_rfl) ?F ?S ?C
 case S=>exact fun K H a ns hl hP _ hS=>⟨a,ns,rfl,hS,hl,hP,fun _=>rfl⟩
 case C=>exact fun _ _ _ _ _ z=>z
 case F=>
  intro w mg fa h KX G hmg
  have F:K31.Fc (L2.KOf KX) mg 274:=by
   dsimp only[L2.KOf];constructor
   case PX=>as_aux_lemma=>
    refine' K31.pln_mk KX G ?_ ?_ ?_ (fun _ _ _ _ _ _=>K31.by2 fun _ _=>rfl) ?_ ?_ ?_ ?_ ?_ ?_ ?_ rfl rfl rfl rfl ?_
    any_goals k_is
    try any_goals k_is
   case TT=>as_aux_lemma=>
    refine' K31.tf_mk KX G ?_ ?_ ?_ ?_ ?_ ?_ ?_ ?_ ?_ ?_ ?_ ?_ ?_ ?_ ?_
    any_goals k_is
    all_goals kernel_rfl
   case eK|eC=>as_aux_lemma=>
    refine' K31.cls_mk KX G ?_ ?_ ?_ ?_ ?_ ?_ ?_ ?_ ?_ ?_ ?_ (K31.na1 ?_) (fun _ _ _ _ _ _=>K31.by2 fun _ _=>rfl)
    any_goals k_is
    try any_goals k_is
   case er=>as_aux_lemma=>
    refine' K31.er_mk KX G ?_ ?_ ?_ ?_
    any_goals k_is
    try any_goals k_is
   case tb=>as_aux_lemma=>
    refine' K31.tb_mk KX G ?_ ?_ ?_
    any_goals k_is
    try any_goals k_is
   case r=>
    constructor
    case T=>as_aux_lemma=>constructor<;>first|(refine' PySem.W.mg_none_of KX G ?_;k_is)|(refine' K31.int_of KX G ?c;(case c=>k_is))
    all_goals as_aux_lemma=>first
     | (refine' K31.dn_mk (ps:=[_]) KX G ?_ ?_ ?_ ?_ (fun _ _ _ _ _ _=>K31.by1 fun _=>rfl);(any_goals k_is);(try any_goals k_is))
     | (refine' K31.dn_mk (ps:=[_,_]) KX G ?_ ?_ ?_ ?_ (fun _ _ _ _ _ _=>K31.by2 fun _ _=>rfl);(any_goals k_is);(try any_goals k_is))
     | (refine' K31.dn_mk (ps:=[_,_,_]) KX G ?_ ?_ ?_ ?_ (fun _ _ _ _ _ _=>K31.by3 fun _ _ _=>rfl);(any_goals k_is);(try any_goals k_is))
     | (refine' K31.dn_mk (ps:=[_,_,_,_,_]) KX G ?_ ?_ ?_ ?_ (fun _ _ _ _ _ _=>K31.by5 fun _ _ _ _ _=>rfl);(any_goals k_is);(try any_goals k_is))
     | (refine' K31.meth_mk (ps:=[_]) KX G ?_ ?_ ?_ (fun _ _ _ _ _ _=>K31.by1 fun _=>rfl) ?_;(any_goals k_is);(try any_goals k_is))
     | (refine' K31.meth_mk (ps:=[_,_]) KX G ?_ ?_ ?_ (fun _ _ _ _ _ _=>K31.by2 fun _ _=>rfl) ?_;(any_goals k_is);(try any_goals k_is))
     | (refine' K31.meth_mk (ps:=[_,_,_]) KX G ?_ ?_ ?_ (fun _ _ _ _ _ _=>K31.by3 fun _ _ _=>rfl) ?_;(any_goals k_is);(try any_goals k_is))
  obtain⟨fd,hb,hf⟩:=K31.last (P:=PySem.Challenge.rw_nolocktree_k71_plain_store.prog) (w:=w) F (PT:=272) (by decide) hmg;exact⟨fd,hb,fun base _ _ hB hC=>hf base hC hB⟩
