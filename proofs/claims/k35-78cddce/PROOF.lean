import PyProof.Rows.All
import Wide.All
import OpenK.AllK
import Wide.FinOn
import Lean
import PyProof.EqAt
import PyProof.EqKinds
import PyProof.TupleCall
import PyProof.ExcInit
import PyProof.ExcClass3
import PyProof.ExcBaseAll.ValueError
import PyProof.ExcAttrAll.ValueError
import PyProof.ReprRoads
import PyProof.ReprReads
import PyProof.ExcRepr
import PyProof.RaisesMany
import PyProof.StationsW
import PyProof.RulesTry
import PyProof.RulesAs
import PyProof.Draws
import PyProof.EnumMake
import PyProof.EnumFor
import PyProof.ReprLen
import PyProof.ConsumeWalk
import PyProof.WalksMore
import PyProof.ListRange
import PyProof.Rows.SetFrom
import PyProof.SetRoads
import PyProof.FactsAll.subtypes_4
import PyProof.CollectStr
import PyProof.DictWalks
import PyProof.Rows.SortWalk
import PyProof.ZipIter
import PyProof.DictList
import PyProof.DictUpdate
import PyProof.MeetsSeq2
import PyProof.AttrMissHeap
import PyProof.TupleIter
import PyProof.FactsAll.zip
import KE.KDictOf
import KE.KEqDict
import PyProof.NsDelKeeps
import PyProof.DictItems
import PyProof.DictItemsLoops
import PyProof.DictValues
import KE.KPairComp
import KE.KItemsList
import PyProof.WalkInts
import PyProof.SeqI3
import PyProof.MinMaxWalk
import KE.KDictLaws
import KE.KMinKey
import PyProof.NeKinds
import PyProof.Rows.CallKwBuiltin
import PyProof.Rows.CallKw2
import PyProof.FactsAll.list
import PySem.Challenge.RW_nolocktree_k35_twins_of_trees
set_option Elab.async false
set_option linter.all false
namespace PySem.W.Fast
def tw3907815864172235964:=0
def tw15663324864102172359:=0
def tw9468057796221428588:=0
def tw1279792085094717271:=0
def tw2637678242223624745:=0
def tw6035994190591762435:=0
def tw14209383982863813421:=0
def tw10749615594643354399:=0
def tw7660488310147853045:=0
def tw9250386453675238646:=0
def tw11029515874003794742:=0
def tw15554669681597519726:=0
def tw17730025622899589823:=0
def tw7949760248105958539:=0
def tw6113739035434027852:=0
def tw12953020922589837722:=0
def tw9314903833565434250:=0
def tw3071354826514624039:=0
def tw8695817155274966486:=0
def tw12180264937772840268:=0
def tw10830702851028907011:=0
def tw11425102212386873816:=0
def tw15977501628634552161:=0
def tw4063380174320794613:=0
def tw7599941023085192663:=0
def tw5530698973702876718:=0
def tw1823202207036743371:=0
def tw15378143263440740572:=0
def tw9788833444606863093:=0
def tw12627389799317011046:=0
def tw9581245996338513088:=0
def tw8496968012953177455:=0
def tw17580812937241490175:=0
def tw14123519121743222486:=0
def tw2696379444935849179:=0
def tw12552475575673620312:=0
def tw1783415544242155982:=0
def tw7787277998007312491:=0
def tw15381227255703932375:=0
def tw2070180949313678845:=0
def tw8326408497289207950:=0
def tw176247558318145918:=0
def tw13574031562838449425:=0
def tw17968779466281734388:=0
def tw13281491407931451017:=0
def tw6712342116605550514:=0
def tw17860296295593374359:=0
def tw18136972218518237166:=0
def tw5140259115217351096:=0
def tw6369378319385325957:=0
def tw16820920199638682777:=0
def tw10983323437440625476:=0
def tw8735793396061206498:=0
def tw14358191892304803938:=0
def tw17514623705853271519:=0
def tw2218198462773375208:=0
def tw2809134098478159573:=0
def tw4515398011387159046:=0
def tw14061902070731701510:=0
def tw2309485598738795303:=0
def tw13609889456819419618:=0
def tw1143513341114003902:=0
def tw14126757301191629818:=0
def tw4936803791198310415:=0
def tw11682310447262745757:=0
def tw17276284703544244096:=0
def tw5727128628152415276:=0
def tw9285608300624972349:=0
def tw1435849835306090424:=0
def tw6352043807705141922:=0
def tw18337780876590744063:=0
def tw624727225509497427:=0
def tw9807970511207939826:=0
def tw15509179358544270097:=0
def tw11943177742055982776:=0
def tw9523965852740089762:=0
def tw2977706381829106470:=0
def tw16426653103916356590:=0
def tw17032048092076105418:=0
def tw15855230881492773230:=0
def tw3303049481970543408:=0
def tw9316739183670032907:=0
def tw13009847733759765496:=0
def tw16731082899589864122:=0
def tw7388956543860450469:=0
def tw9543417291268861790:=0
def tw4195383228552198964:=0
def tw17238403352712396366:=0
def tw6012945356526027338:=0
def tw9271339331648244158:=0
def tw9819882670154139528:=0
def tw18032601789681618764:=0
def tw6776952994226553820:=0
def tw3908313912157256486:=0
def tw12850535710576583728:=0
def tw4822131581146897163:=0
def tw11169995979094224762:=0
def tw8067931720388306404:=0
def tw15813179688756843213:=0
def tw12341267556238355923:=0
def tw2334285087209419622:=0
def tw16623408708642228709:=0
def tw2628570061647798028:=0
def tw18445245111038648090:=0
def tw5888311328380293283:=0
def tw11135395528652174841:=0
def tw11367552721309675488:=0
def tw3515035196787956095:=0
def tw14554218031405824380:=0
def tw17692437461402867296:=0
def tw8735711245173965798:=0
def tw11282330317551166203:=0
def tw9577458720271114140:=0
def tw2917672723735036913:=0
def tw1875120559150152199:=0
def tw13638038571654058837:=0
def tw2273432896071312201:=0
def tw2511850527917262299:=0
def tw13011615476171547393:=0
def tw6196131863256410578:=0
def tw1819806041032907037:=0
def tw17089347074597691694:=0
def tw7059287321048866911:=0
def tw13141425010571795164:=0
def tw1633843866347889779:=0
def tw4937107507638819768:=0
def tw8900369808148331355:=0
def tw14487162312294505069:=0
def tw4452551039755235124:=0
def tw10556754575734398980:=0
def tw16378623389694177113:=0
def tw4582237117440708608:=0
def tw4640544794943204211:=0
def tw9384965950964507617:=0
def tw16025471908940298871:=0
def tw13533850571523499738:=0
def tw339626292647346223:=0
def tw11090197282674626969:=0
def tw3957069319158458344:=0
def tw10145805827160547510:=0
def tw10839955117875313565:=0
def tw5482874720907525879:=0
def tw12383305238697835656:=0
def tw16635868401206439703:=0
def tw352798509375088642:=0
def tw2140597666172006362:=0
def tw4072567468246350189:=0
def tw3206598488978647205:=0
def tw537671033768783630:=0
def tw14569667134750269284:=0
def tw8446189222074674711:=0
def tw3886855536856288613:=0
def tw155210140873580119:=0
def tw10171419433345391065:=0
def tw16182441823880061197:=0
def tw8734723219644066581:=0
def tw8754156264180119235:=0
def tw17889067861767389503:=0
def tw11697652106221273932:=0
def tw17998421841321500531:=0
def tw6832546179717094644:=0
def tw12862638722388640:=0
def tw17536369814498367073:=0
def tw8188932794736678421:=0
def tw6890204666091198546:=0
def tw4195737121339299683:=0
def tw13047371930691819174:=0
def tw6675694275242667800:=0
def tw18182553620666618298:=0
def tw4747105011398608482:=0
def tw464854805634549534:=0
def tw3456820379744518525:=0
def tw17168614567438985279:=0
def tw6696594224702652266:=0
def tw12670079733420695702:=0
def tw7040683594786418827:=0
def tw13022179337336752177:=0
def tw6631894240580954503:=0
def tw11767584262481079576:=0
def tw8024422675690419364:=0
def tw15098017631213818186:=0
def tw2476436863139913567:=0
def tw13960663406489870089:=0
def tw15541775388087784234:=0
def tw7752085417850424906:=0
def tw1467871532758154285:=0
def tw16112197165309618666:=0
def tw13791380082514161164:=0
def tw5813056703775871905:=0
def tw2517685369807151697:=0
def tw7583998004580015880:=0
def tw8340020389046121851:=0
def tw6863704062242637589:=0
def tw5824700120180492422:=0
def tw17956635463165586311:=0
def tw14369164330994612108:=0
def tw16338202783576272629:=0
def tw1569921173659824315:=0
def tw15386242348172959716:=0
def tw2788404668019257067:=0
def tw7945358053190448804:=0
def tw3961386267171883586:=0
def tw13284661794139611080:=0
def tw1381557743517339965:=0
def tw954500144626364479:=0
def tw4399827034162810786:=0
def tw1923060561451497326:=0
def tw3344521556070386259:=0
def tw2035836521516234662:=0
def tw16499537250517363192:=0
def tw4444467221181892929:=0
def tw3460658626059863188:=0
def tw14316769297572208727:=0
def tw17064756196258474212:=0
def tw7493407591362902897:=0
def tw11596648494630545116:=0
def tw8880685659089238617:=0
def tw5484790705762799487:=0
def tw16398372343965674742:=0
def tw17266427922464422124:=0
def tw11949741705674143360:=0
def tw11189372617355765895:=0
def tw12880036621441728025:=0
def tw6568912450580503412:=0
def tw13294838089852652840:=0
def tw366777002756639478:=0
def tw17409095721847611179:=0
def tw1083581590908496609:=0
def tw8119021637497231155:=0
def tw15252316930647882850:=0
def tw1509661577347014294:=0
def tw16035403947299555543:=0
def tw10630991012536091169:=0
def tw1103730821152622651:=0
def tw10973227640017726681:=0
def tw11336870646546685066:=0
def tw633735017254874420:=0
def tw11872598387029061781:=0
def tw3696622406829683446:=0
def tw4397458440093550904:=0
def tw10566759607946795670:=0
def tw17815134010514288689:=0
def tw3184478222894364458:=0
def tw2102806128073733529:=0
def tw11851515335434763091:=0
def tw11332497181845252831:=0
def tw18182589749663986341:=0
def tw15088912119834124889:=0
def tw4741162191811856329:=0
def tw15133497374066852217:=0
def tw7015412311521526058:=0
def tw2295084028279930341:=0
def tw231366123503546725:=0
def tw17899146356035648433:=0
def tw17325132311485225137:=0
def tw16596553971992997709:=0
def tw682719060508415181:=0
def tw5982846846554157310:=0
def tw976205047198073609:=0
def tw1378188745770967863:=0
def tw8589924655790427897:=0
def tw13301039276013808026:=0
def tw2301406445403566777:=0
def tw8941745861030157550:=0
def tw4565434179025664436:=0
def tw4538320106432828587:=0
def tw15171289142881806898:=0
def tw1322115773239945389:=0
def tw12707956352906288655:=0
def tw8100853823293458477:=0
def tw5425874220116414195:=0
def tw2418914216409973363:=0
def tw15431068919505884255:=0
def tw15653481455880053545:=0
def tw8079624722440668198:=0
def tw6763199527654497273:=0
def tw2922638315501882855:=0
def tw7076448080611557562:=0
def tw12884433089393303358:=0
def tw10436408986178996594:=0
def tw862265530337740987:=0
def tw17386685985985550899:=0
def tw10705966309288799531:=0
def tw17725659469315277562:=0
def tw10730641212101842655:=0
def tw760992234932338371:=0
def tw6846918118405147327:=0
def tw14139711066623102899:=0
def tw13244063394603129698:=0
def tw8915237191771479684:=0
def tw12094932856010406876:=0
def tw2330716579523861959:=0
def tw17505602397762830783:=0
def tw5547877890251530055:=0
def tw2388308395251475017:=0
def tw11041327381833171960:=0
def tw14971947983962601333:=0
def tw13171653655472983556:=0
def tw5472917207819735892:=0
def tw9061343995123501147:=0
def tw3748496689663451245:=0
def tw1212824293344025355:=0
def tw11361467170425825142:=0
def tw3701159372045383401:=0
def tw12542531625296346243:=0
def tw14896400580982200093:=0
def tw4376125379075418638:=0
def tw741134854210989998:=0
def tw504806005288864153:=0
def tw52011990458638726:=0
def tw8410357275171921142:=0
end PySem.W.Fast
section
open PySem PySem.W PyProof.Rows
set_option maxRecDepth 100000 in
set_option maxHeartbeats 0 in
open_top PySem.Challenge.K35hd for PySem.Challenge.rw_nolocktree_k35_twins_of_trees
end
set_option maxHeartbeats 4000000
set_option Elab.async false
set_option linter.all false
set_option maxRecDepth 100000
namespace L2
open PySem PySem.Spec PyProof.Rows
abbrev Key:=Sum Int Str
def keyIs:Key→Value→Bool
 | .inl k,v=>Value.isInt k v
 | .inr x,v=>Value.isStrOf x v
def keyH (w:World):Key→Int
 | .inl k=>hashInt k
 | .inr x=>hashStr w x
theorem keyIs_shape:∀ {k:Key} {v:Value},keyIs k v = true→(∃ i t,k = Sum.inl i∧v = Value.int i t)∨(∃ x t,k = Sum.inr x∧v = Value.str x t)
 | .inl i,v,h=>by
  obtain ⟨t,e⟩:=Value.isInt_shape (k:=i) (v:=v) h
  exact .inl ⟨i,t,rfl,e⟩
 | .inr x,v,h=>by
  obtain ⟨t,e⟩:=Value.isStrOf_shape (x:=x) (v:=v) h
  exact .inr ⟨x,t,rfl,e⟩
theorem keyIs_int (i:Int) (t:Tok):keyIs (.inl i) (.int i t) = true:=by simp [keyIs,Value.isInt]
theorem keyIs_str (x:Str) (t:Tok):keyIs (.inr x) (.str x t) = true:=by simp [keyIs,Value.isStrOf]
theorem key_ll (a b:Int):decide ((Sum.inl a:Key) = Sum.inl b) = (a == b):=by
 by_cases e:a = b
 ·subst e; simp
 ·have h:¬ (Sum.inl a:Key) = Sum.inl b:=fun q=>e (Sum.inl.inj q)
  rw [decide_eq_false h]
  exact (beq_eq_false_iff_ne.mpr e).symm
theorem key_rr (a b:Str):decide ((Sum.inr a:Key) = Sum.inr b) = decide (a = b):=by
 by_cases e:a = b
 ·subst e; simp
 ·have h:¬ (Sum.inr a:Key) = Sum.inr b:=fun q=>e (Sum.inr.inj q)
  rw [decide_eq_false h,decide_eq_false e]
theorem key_lr (a:Int) (b:Str):decide ((Sum.inl a:Key) = Sum.inr b) = false:=decide_eq_false (fun q=>nomatch q)
theorem key_rl (a:Str) (b:Int):decide ((Sum.inr a:Key) = Sum.inl b) = false:=decide_eq_false (fun q=>nomatch q)
def mixKind (prog:Program) (w:World):PySem.KeyKind prog w Key where
 is:=keyIs
 hash:=keyH w
 inj:=fun v a b ha hb=>by
  rcases keyIs_shape ha with ⟨i,t,rfl,rfl⟩ | ⟨x,t,rfl,rfl⟩
  ·rcases keyIs_shape hb with ⟨j,u,rfl,e⟩ | ⟨y,u,rfl,e⟩
   ·injection e with e1 _; rw [e1]
   ·exact nomatch e
  ·rcases keyIs_shape hb with ⟨j,u,rfl,e⟩ | ⟨y,u,rfl,e⟩
   ·exact nomatch e
   ·injection e with e1 _; rw [e1]
 byValue:=fun k v h=>by
  rcases keyIs_shape h with ⟨i,t,rfl,rfl⟩ | ⟨x,t,rfl,rfl⟩ <;> rfl
 pyHash:=fun hv h=>by
  rcases keyIs_shape hv with ⟨i,t,rfl,rfl⟩ | ⟨x,t,rfl,rfl⟩
  ·exact wpAny_pyHash_int h
  ·exact wpAny_pyHash_str h
 eqBool:=fun hu hv h=>by
  rcases keyIs_shape hu with ⟨i,t,rfl,rfl⟩ | ⟨x,t,rfl,rfl⟩
  ·rcases keyIs_shape hv with ⟨j,u,rfl,rfl⟩ | ⟨y,u,rfl,rfl⟩
   ·rw [key_ll] at h; exact wpAny_eqBool_int h
   ·rw [key_lr] at h; exact SeqAt.EqAt.int_str i t y u _ _ _ _ h
  ·rcases keyIs_shape hv with ⟨j,u,rfl,rfl⟩ | ⟨y,u,rfl,rfl⟩
   ·rw [key_rl] at h; exact SeqAt.EqAt.str_int x t j u _ _ _ _ h
   ·rw [key_rr] at h; exact wpAny_eqBool_str h
 «strs»:=fun k x t v h=>by
  rcases keyIs_shape h with ⟨i,u,rfl,e⟩ | ⟨y,u,rfl,e⟩
  ·exact nomatch e
  ·injection e with e1 _
   subst e1
   cases v <;> rfl
theorem mixKind_is (prog:Program) (w:World) (k:Key) (v:Value):(mixKind prog w).is k v = keyIs k v:=rfl
theorem mixKind_int (prog:Program) (w:World) (i:Int) (t:Tok):(mixKind prog w).is (.inl i) (.int i t) = true:=keyIs_int i t
theorem mixKind_str (prog:Program) (w:World) (x:Str) (t:Tok):(mixKind prog w).is (.inr x) (.str x t) = true:=keyIs_str x t
inductive V where
 | non | bl (b:Bool) | int (i:Int) | str (x:Str) | byt (b:Array UInt8) | flt (b:UInt64) | ref (a:Addr) | ty (n:String)
 deriving DecidableEq
def RelV:V→Value→Prop
 | .non,u=>u = Value.none
 | .bl b,u=>u = Value.bool b
 | .int i,u=>∃ t,u = Value.int i t
 | .str x,u=>∃ t,u = Value.str x t
 | .byt b,u=>∃ t,u = Value.bytes b t
 | .flt b,u=>∃ t,u = Value.float b t
 | .ref a,u=>u = Value.ref a
 | .ty n,u=>u = Value.type n
abbrev Vals:List V→List Value→Prop:=Paired RelV
theorem Vals.length {xs:List V} {us:List Value} (r:Vals xs us):xs.length = us.length:=Paired.length r
theorem Vals.get:∀ {xs:List V} {us:List Value} {i:Nat} {x:V},Vals xs us→xs[i]? = some x→∃ u,us[i]? = some u∧RelV x u
 | _,_,_,_,.nil,e=>by simp at e
 | _,_,0,_,.cons r _,e=>by simp at e; subst e; exact ⟨_,rfl,r⟩
 | _,_,i + 1,x,.cons _ t,e=>by
  obtain ⟨u,h1,h2⟩:=Vals.get (i:=i) (x:=x) t (by simpa using e)
  exact ⟨u,by simpa using h1,h2⟩
theorem Vals.set {x:V} {u:Value} (r:RelV x u):∀ {xs:List V} {us:List Value} (i:Nat),Vals xs us→Vals (xs.set i x) (us.set i u)
 | _,_,_,.nil=>.nil
 | _,_,0,.cons _ t=>.cons r t
 | _,_,i + 1,.cons q t=>.cons q (Vals.set r i t)
theorem Vals.append:∀ {xs ys:List V} {us ws:List Value},Vals xs us→Vals ys ws→Vals (xs ++ ys) (us ++ ws)
 | _,_,_,_,.nil,s=>s
 | _,_,_,_,.cons r t,s=>.cons r (Vals.append t s)
theorem Vals.take:∀ {xs:List V} {us:List Value} (n:Nat),Vals xs us→Vals (xs.take n) (us.take n)
 | _,_,0,_=>.nil
 | _,_,_ + 1,.nil=>.nil
 | _,_,n + 1,.cons r t=>.cons r (Vals.take n t)
theorem Vals.drop:∀ {xs:List V} {us:List Value} (n:Nat),Vals xs us→Vals (xs.drop n) (us.drop n)
 | _,_,0,r=>r
 | _,_,_ + 1,.nil=>.nil
 | _,_,n + 1,.cons _ t=>Vals.drop n t
def RelO:Option V→Option Value→Prop
 | some v,some u=>RelV v u
 | none,none=>True
 | _,_=>False
def KV {κ:Type}:List (κ×V)→List (κ×Value)→Prop:=Paired fun (p:κ×V) (q:κ×Value)=>p.1 = q.1∧RelV p.2 q.2
def kV:Key→V
 | .inl i=>.int i
 | .inr x=>.str x
inductive HO where
 /-- a list -/
 | lst (xs:List V)
 /-- a tuple (never changes) -/
 | tup (xs:List V)
 /-- a dict whose keys are ints and texts; one whose keys are tuples of ints and texts (the empty one is both) -/
 | dK (kvs:List (Key×V)) | dT (kvs:List (List Key×V))
 /-- a set of ints: its members, its size -/
 | set (S:Int→Bool) (n:Nat)
 /-- an instance of the class at C, its dict at dx, its attributes -/
 | ins (C dx:Addr) (fs:List (Str×V))
 /-- the dict of the instance at x -/
 | own (x:Addr)
 /-- the dict of an exception -/
 | xd (fs:List (Str×V))
 /-- a bound method, f of x -/
 | met (f x:Addr)
 /-- a range object lo, lo + 1, .. below hi -/
 | rng (lo hi:Int)
 /-- a thing that is known to the object (the script; a dict while a loop walks it): read, never written while it is so -/
 | frz (o:Obj) (u:HO)
 /-- a code object's table -/
 | tbl (ps:Array Value)
 /-- any other thing, by what is true of its one object (a def of one's own: SetO a S n := HO.ext fun h => ..) -/
 | ext (φ:Heap→Prop)
abbrev Hp:=Addr→Option HO
def upd (H:Hp) (a:Addr) (o:HO):Hp:=fun b=>if b = a then some o else H b
theorem upd_same {H:Hp} {a:Addr} {o:HO}:upd H a o a = some o:=by unfold upd; rw [if_pos rfl]
theorem upd_ne {H:Hp} {a b:Addr} {o:HO} (h:b ≠ a):upd H a o b = H b:=by unfold upd; rw [if_neg h]
theorem upd_upd {H:Hp} {a:Addr} {o u:HO}:upd (upd H a o) a u = upd H a u:=by
 funext b; unfold upd; split <;> rfl
theorem ne_of {H:Hp} {a b:Addr} {o u:HO} (h:H a = some o) (h':H b = some u) (d:o ≠ u):a ≠ b:=by
 intro e; subst e; rw [h] at h'; exact d (Option.some.inj h')
theorem ne_of_none {H:Hp} {a b:Addr} {o:HO} (h:H a = some o) (h':H b = none):a ≠ b:=by
 intro e; subst e; rw [h] at h'; cases h'
theorem tup_nodict {h:Heap} {xs:Array Value}:∀ o,(h.push { cls:=.type "tuple",data:=.seq xs }).get? h.objs.size = some o→o.dict = none:=fun o e=>by
 rw [Heap.get?_push_size _ rfl] at e
 cases e
 rfl
section
variable (P:Program) (w:World)
def ObjOk (H:Hp) (h:Heap) (a:Addr):HO→Prop
 | .lst xs=>xs.length ≤ sizeLine∧∃ (its:List Value) (n:Nat),Vals xs its∧h.get? a = some { cls:=.type "list",data:=.seq its.toArray n }
 | .tup xs=>xs.length ≤ sizeLine∧∃ its:List Value,Vals xs its∧IsTup h a its.toArray∧∀ o,h.get? a = some o→o.dict = none
 | .dK kvs=>kvs.length ≤ sizeLine∧(a == sysModules) = false∧∃ vs,KV kvs vs∧h.DictOf (mixKind P w) a vs
 | .dT kvs=>kvs.length ≤ sizeLine∧(a == sysModules) = false∧∃ xs:List (List Key×Addr×Value),
   Paired (fun (p:List Key×V) (q:List Key×Addr×Value)=>p.1 = q.1∧H q.2.1 = some (.tup (p.1.map kV))∧RelV p.2 q.2.2) kvs xs ∧
   ∃ o es ep,h.get? a = some o∧o.ExactDict∧o.data = .dict es ep∧es.toList = xs.map (entryOfKey (tupleKind (mixKind P w)))∧(xs.map (·.1)).Nodup
 | .set S n=>h.SetOf (intKind P w) a S n
 | .ins C dx fs=>H dx = some (.own a)∧fs.length ≤ 1000∧dx ≠ a∧h.get? a = some (PySem.W.instObj C dx) ∧
   ∃ mA,h.Ns1 dx mA∧(∀ f,RelO (fs.lookup f) (mA f))∧PySem.Within mA (fs.map (·.1))
 | .own _=>∃ o,h.get? a = some o
 | .xd fs=>∃ mA,h.Ns1 a mA∧∀ f,RelO (fs.lookup f) (mA f)
 | .rng lo hi=>∃ t u v,h.get? a = some { cls:=.type "range",data:=.fields #[.int lo t,.int hi u,.int 1 v] }
 | .frz o u=>h.get? a = some o∧ObjOk H h a u
 | .tbl ps=>h.get? a = some { cls:=.none,data:=.fields ps }
 | .met f x=>h.get? a = some (PySem.W.methodObj (.ref f) (.ref x))
 | .ext φ=>φ h∧(∃ o,h.get? a = some o)∧∀ h1 h2:Heap,φ h1→(∀ o,h1.get? a = some o→h2.get? a = some o)→φ h2
def HOk (H:Hp) (h:Heap):Prop:=∀ a o,H a = some o→ObjOk P w H h a o
end
section
variable {P:Program} {w:World} {H H':Hp} {h h':Heap} {a:Addr} {o:HO}
theorem ObjOk.lt (x:ObjOk P w H h a o):a < h.objs.size:=by
 cases o with
 | lst xs=>obtain ⟨_,_,_,_,e⟩:=x; exact Heap.lt_size e
 | tup xs=>obtain ⟨_,_,_,p,_⟩:=x; exact p.lt
 | dK kvs=>obtain ⟨_,_,_,_,o,_,_,e,_⟩:=x; exact Heap.lt_size e
 | dT kvs=>obtain ⟨_,_,_,_,o,_,_,e,_⟩:=x; exact Heap.lt_size e
 | set S n=>obtain ⟨o,_,_,_,e,_⟩:=x; exact Heap.lt_size e
 | ins C dx fs=>obtain ⟨_,_,_,e,_⟩:=x; exact Heap.lt_size e
 | own y=>obtain ⟨_,e⟩:=x; exact Heap.lt_size e
 | xd fs=>obtain ⟨_,⟨_,_,_,e,_⟩,_⟩:=x; exact Heap.lt_size e
 | rng lo hi=>obtain ⟨_,_,_,e⟩:=x; exact Heap.lt_size e
 | frz ob u=>obtain ⟨e,_⟩:=x; exact Heap.lt_size e
 | tbl ps=>exact Heap.lt_size (show h.get? a = some _ from x)
 | met f y=>exact Heap.lt_size (show h.get? a = some _ from x)
 | ext φ=>obtain ⟨_,⟨_,e⟩,_⟩:=x; exact Heap.lt_size e
theorem Paired.mapP {α β:Type} {F G:α→β→Prop}:∀ {l₁:List α} {l₂:List β},Paired F l₁ l₂→(∀ a b,F a b→G a b)→Paired G l₁ l₂
 | _,_,.nil,_=>.nil
 | _,_,.cons r t,f=>.cons (f _ _ r) (Paired.mapP t f)
theorem ObjOk.stay (x:ObjOk P w H h a o) (k:∀ b u,(b = a∨H b = some (.own a))→h.get? b = some u→h'.get? b = some u)
  (ho:∀ b,H b = some (.own a)→H' b = some (.own a)) (ht:∀ b xs,H b = some (.tup xs)→H' b = some (.tup xs)):ObjOk P w H' h' a o:=by
 induction o with
 | lst xs=>obtain ⟨z,its,n,r,e⟩:=x; exact ⟨z,its,n,r,k _ _ (.inl rfl) e⟩
 | tup xs=>
  obtain ⟨z,its,r,⟨ob,e,c⟩,dn⟩:=x
  have e2:=k _ _ (.inl rfl) e
  exact ⟨z,its,r,⟨ob,e2,c⟩,fun o q=>by rw [e2] at q; cases q; exact dn _ e⟩
 | dK kvs=>obtain ⟨z,y,vs,r,ob,es,ep,e,c⟩:=x; exact ⟨z,y,vs,r,ob,es,ep,k _ _ (.inl rfl) e,c⟩
 | dT kvs=>
  obtain ⟨z,y,xs,r,ob,es,ep,e,c⟩:=x
  exact ⟨z,y,xs,Paired.mapP r fun p q z=>⟨z.1,ht _ _ z.2.1,z.2.2⟩,ob,es,ep,k _ _ (.inl rfl) e,c⟩
 | set S n=>obtain ⟨ob,es,ep,t,e,c⟩:=x; exact ⟨ob,es,ep,t,k _ _ (.inl rfl) e,c⟩
 | ins C dx fs=>
  obtain ⟨d,z,ne,e,mA,⟨od,es,ep,e2,c⟩,r⟩:=x
  exact ⟨ho _ d,z,ne,k _ _ (.inl rfl) e,mA,⟨od,es,ep,k _ _ (.inr d) e2,c⟩,r⟩
 | own y=>obtain ⟨ob,e⟩:=x; exact ⟨ob,k _ _ (.inl rfl) e⟩
 | xd fs=>obtain ⟨mA,⟨od,es,ep,e,c⟩,r⟩:=x; exact ⟨mA,⟨od,es,ep,k _ _ (.inl rfl) e,c⟩,r⟩
 | rng lo hi=>obtain ⟨t,u,v,e⟩:=x; exact ⟨t,u,v,k _ _ (.inl rfl) e⟩
 | frz ob u ih=>obtain ⟨e,q⟩:=x; exact ⟨k _ _ (.inl rfl) e,ih q⟩
 | tbl ps=>
  have e:h.get? a = some { cls:=.none,data:=.fields ps }:=x
  show h'.get? a = some { cls:=.none,data:=.fields ps }
  exact k a _ (.inl rfl) e
 | met f y=>
  have e:h.get? a = some (PySem.W.methodObj (.ref f) (.ref y)):=x
  show h'.get? a = some (PySem.W.methodObj (.ref f) (.ref y))
  exact k a _ (.inl rfl) e
 | ext φ=>obtain ⟨p,⟨o,e⟩,st⟩:=x; exact ⟨st _ _ p fun o q=>k _ _ (.inl rfl) q,⟨o,k _ _ (.inl rfl) e⟩,st⟩
theorem HOk.lt (x:HOk P w H h) (e:H a = some o):a < h.objs.size:=(x a o e).lt
theorem HOk.fresh (x:HOk P w H h) (e:h.objs.size ≤ a):H a = none:=by
 cases q:H a with
 | none=>rfl
 | some u=>exact absurd (Nat.lt_of_lt_of_le (x.lt q) e) (Nat.lt_irrefl _)
theorem HOk.kept (x:HOk P w H h) (k:∀ b u,h.get? b = some u→h'.get? b = some u):HOk P w H h':=fun a o e=>
 (x a o e).stay (fun b u _ q=>k b u q) (fun _ q=>q) fun _ _ q=>q
theorem HOk.laid (x:HOk P w H h) (k:∀ b u,h.get? b = some u→h'.get? b = some u) (hp:h.objs.size ≤ a) (new:ObjOk P w (upd H a o) h' a o):HOk P w (upd H a o) h':=fun b u e=>by
 have hn:=x.fresh hp
 by_cases hb:b = a
 ·subst hb; rw [upd_same] at e; cases e; exact new
 ·rw [upd_ne hb] at e
  exact (x b u e).stay (fun c v _ q=>k c v q) (fun c q=>by rw [upd_ne (ne_of_none q hn)]; exact q) fun c xs q=>by rw [upd_ne (ne_of_none q hn)]; exact q
end
def Rd (H:Hp) (a:Addr) (u:HO):Prop:=H a = some u∨∃ o,H a = some (.frz o u)
theorem Rd.ok {P:Program} {w:World} {H:Hp} {h:Heap} {a:Addr} {u:HO} (r:Rd H a u) (x:HOk P w H h):ObjOk P w H h a u:=by
 rcases r with r | ⟨o,r⟩
 ·exact x a u r
 ·obtain ⟨_,q⟩:=x a _ r
  exact q
def Mut:Option HO→Prop
 | some (.lst _)=>True
 | some (.dK _)=>True
 | some (.dT _)=>True
 | some (.set _ _)=>True
 | some (.ins _ _ _)=>True
 | some (.ext _)=>True
 | _=>False
section
variable {P:Program} {w:World} {H:Hp} {h h':Heap} {x e:Addr} {o':HO}
theorem HOk.write (ok:HOk P w H h) (mu:Mut (H x)) (he:e = x∨H e = some (.own x)) (k:∀ b u,b ≠ e→h.get? b = some u→h'.get? b = some u) (heo:∃ u,h'.get? e = some u)
  (new:ObjOk P w (upd H x o') h' x o'):HOk P w (upd H x o') h':=fun b u q=>by
 have nown:∀ c y,H c = some (.own y)→c ≠ x:=fun c y r z=>by subst z; rw [r] at mu; exact mu
 have ntup:∀ c xs,H c = some (.tup xs)→c ≠ x:=fun c xs r z=>by subst z; rw [r] at mu; exact mu
 by_cases hb:b = x
 ·subst hb; rw [upd_same] at q; cases q; exact new
 ·rw [upd_ne hb] at q
  by_cases hbe:b = e
  ·have q':H b = some (.own x):=by
    rcases he with z | z
    ·exact absurd (hbe.trans z) hb
    ·rw [hbe]; exact z
   rw [q] at q'; cases q'
   obtain ⟨v,hv⟩:=heo
   exact ⟨v,by rw [hbe]; exact hv⟩
  ·refine (ok b u q).stay (fun c v hc r=>k c v ?_ r) (fun c r=>by rw [upd_ne (nown c b r)]; exact r) fun c xs r=>by rw [upd_ne (ntup c xs r)]; exact r
   rcases hc with rfl | hc
   ·exact hbe
   ·rintro rfl
    rcases he with z | z
    ·exact nown c b hc z
    ·rw [hc] at z; cases z; exact hb rfl
end
structure Un (fs ex:List Addr) (H H':Hp) (h h':Heap):Prop where
 keep:∀ b o,h.get? b = some o→H b = none→b ∉ fs→b ∉ ex→h'.get? b = some o
 slot:∀ b o,h.get? b = some o→H b = none→b ∈ fs→b ∉ ex→∃ sl,h'.get? b = some { o with slots:=sl }
 free:∀ b o,h.get? b = some o→H b = none→b ∉ ex→H' b = none
 there:∀ b o,h.get? b = some o→b ∉ ex→∃ o',h'.get? b = some o'
 tups:∀ b xs,H b = some (.tup xs)→H' b = some (.tup xs)
 frzs:∀ b o u,H b = some (.frz o u)→H' b = some (.frz o u)
 tbls:∀ b ps,H b = some (.tbl ps)→∃ more,H' b = some (.tbl (ps ++ more))
section
variable {fs fs' ex ex':List Addr} {H H1 H2:Hp} {h h1 h2 h':Heap} {a x e:Addr} {o:HO}
theorem Un.any (u:Un fs ex H H1 h h1) {b:Addr} {ob:Obj} (q:h.get? b = some ob) (n:H b = none) (hx:b ∉ ex):∃ sl,h1.get? b = some { ob with slots:=sl }:=by
 by_cases hb:b ∈ fs
 ·exact u.slot b ob q n hb hx
 ·exact ⟨ob.slots,u.keep b ob q n hb hx⟩
theorem Un.kept (k:∀ b u,h.get? b = some u→h'.get? b = some u):Un fs ex H H h h':=
 ⟨fun b ob q _ _ _=>k b ob q,fun b ob q _ _ _=>⟨ob.slots,k b ob q⟩,fun _ _ _ n _=>n,fun b ob q _=>⟨ob,k b ob q⟩,fun _ _ q=>q,fun _ _ _ q=>q,fun _ ps q=>⟨#[],by rw [q]; simp⟩⟩
theorem Un.refl:Un fs ex H H h h:=Un.kept fun _ _ q=>q
theorem Un.laid (k:∀ b u,h.get? b = some u→h'.get? b = some u) (hp:h.objs.size ≤ a) (hn:H a = none):Un fs ex H (upd H a o) h h' where
 keep:=fun b u q _ _ _=>k b u q
 slot:=fun b u q _ _ _=>⟨u.slots,k b u q⟩
 free:=fun b u q n _=>by rw [upd_ne (Nat.ne_of_lt (Nat.lt_of_lt_of_le (Heap.lt_size q) hp))]; exact n
 there:=fun b u q _=>⟨u,k b u q⟩
 tups:=fun b xs q=>by rw [upd_ne (ne_of_none q hn)]; exact q
 frzs:=fun b u xs q=>by rw [upd_ne (ne_of_none q hn)]; exact q
 tbls:=fun b ps q=>⟨#[],by rw [upd_ne (ne_of_none q hn),q]; simp⟩
theorem Un.write (mu:Mut (H x)) (he:e = x∨H e = some (.own x)) (k:∀ b u,b ≠ e→h.get? b = some u→h'.get? b = some u) (heo:∃ u,h'.get? e = some u):Un fs ex H (upd H x o) h h':=by
 have hx:∀ b,H b = none→b ≠ x:=fun b n z=>by subst z; rw [n] at mu; exact mu
 have hb:∀ b,H b = none→b ≠ e:=fun b n z=>by
  subst z
  rcases he with r | r
  ·exact hx b n r
  ·rw [n] at r; cases r
 have hm:∀ b u,H b = some u→¬ Mut (some u)→b ≠ x:=fun b u q nm z=>by subst z; rw [q] at mu; exact nm mu
 refine ⟨fun b u q n _ _=>k b u (hb b n) q,fun b u q n _ _=>⟨u.slots,k b u (hb b n) q⟩,fun b u q n _=>by rw [upd_ne (hx b n)]; exact n,fun b u q _=>?_,
  fun b xs q=>by rw [upd_ne (hm b _ q fun z=>z)]; exact q,fun b u xs q=>by rw [upd_ne (hm b _ q fun z=>z)]; exact q,fun b ps q=>⟨#[],by rw [upd_ne (hm b _ q fun z=>z),q]; simp⟩⟩
 by_cases hbe:b = e
 ·subst hbe; exact heo
 ·exact ⟨u,k b u hbe q⟩
end
def trk (h:Heap) (H:Hp):List Addr:=(List.range h.objs.size).filter fun a=>(H a).isSome
def hidT (h:Heap) (H:Hp):Heap:=PySem.W.hideAll h (trk h H)
theorem hidT_size (h:Heap) (H:Hp):(hidT h H).objs.size = h.objs.size:=PySem.W.hideAll_size _ _
theorem hidT_get {h:Heap} {H:Hp} {b:Addr} {o:Obj} (e:h.get? b = some o) (n:H b = none):(hidT h H).get? b = some o:=
 PySem.W.hideAll_get _ e fun hm=>by
  have q:(H b).isSome = true:=(List.mem_filter.mp hm).2
  rw [n] at q; simp at q
theorem of_hidT {h:Heap} {H:Hp} {b:Addr} {o:Obj} (e:(hidT h H).get? b = some o):h.get? b = some o∧H b = none:=by
 have e':h.get? b = some o:=PySem.W.of_hideAll (trk h H) e
 refine ⟨e',?_⟩
 cases q:H b with
 | none=>rfl
 | some x=>
  have hm:b ∈ trk h H:=List.mem_filter.mpr ⟨List.mem_range.mpr (Heap.lt_size e'),by simp [q]⟩
  have z:(hidT h H).get? b = none:=PySem.W.hideAll_none (trk h H) hm
  rw [z] at e; cases e
structure Mod (K:PySem.W.Frag) (mg:Str→Option Value) (base:Heap):Prop where
 kin:K.In base
 glob:base.Ns mainGlobals mg
 blt:∃ mb,base.Ns builtinsNs mb∧∀ x:Str,x ≠ "__name__"→mb x = bootBuiltins x
 nolimit:base.NoLimit
structure Cx where
 prog:Program
 w:World
 K:PySem.W.Frag
 mg:Str→Option Value
 base:Heap
 A:Around
 N:List Str
 s₀:Shared
 H₀:Hp
 env:Env
 outer:List Env
 stack:List Env
 ex:List Addr
 fn:Str→Bool
 calm:Bool
 pn:List (Addr×Obj)
 xe:Value→Shared→Prop
def frs (l:List Env):List Addr:=l.filterMap (·.frame)
abbrev Cx.fs (X:Cx):List Addr:=frs X.outer
def Vis (sc:Scope) (x:Str):Prop:=sc.names.lookup x = some .local∨sc.names.lookup x = some .cell∨sc.names.lookup x = some .free
def Loc (sc:Scope) (x:Str):Prop:=sc.names.lookup x = some .local∨sc.names.lookup x = some .cell
def Look (env:Env) (h:Heap) (m:Str→Option Value) (x:Str) (u:Value):Prop:=
 (env.kindOf x = some .local∧m x = some u)∨((env.kindOf x = some .cell∨env.kindOf x = some .free)∧∃ c,env.cells.lookup x = some c∧h.IsCell c (some u))
structure Cx.Ok (X:Cx):Prop where
 mod:Mod X.K X.mg X.base
 kind:X.env.scope.kind = .function
 glob:X.env.globals = mainGlobals
 blt:X.env.builtins = builtinsNs
 above:X.s₀.heap.objs.size ≤ X.env.locals
 inj:∀ x y c,X.env.cells.lookup x = some c→X.env.cells.lookup y = some c→x = y
 has:∀ x,(X.env.kindOf x = some .cell∨X.env.kindOf x = some .free)→∃ c,X.env.cells.lookup x = some c
 cab:∀ x c,X.fn x = true→X.env.cells.lookup x = some c→X.s₀.heap.objs.size ≤ c
 hd:X.calm = true→X.A.handled = none
 frames:X.A.frames = some X.stack
 stk:X.stack = X.outer∨(X.stack = X.env :: X.outer∧X.env.frame = some X.env.locals)
 exf:∀ b ∈ X.ex,b ≠ X.env.locals∧∀ x c,X.env.cells.lookup x = some c→c ≠ b
 bs:∀ b o,X.base.get? b = some o→X.s₀.heap.get? b = some o∧X.H₀ b = none
 bsz:X.base.objs.size ≤ X.s₀.heap.objs.size
 noex:∀ b o,X.base.get? b = some o→b ∉ X.ex
 exfs:∀ b ∈ X.ex,b ∉ X.fs
 funs:X.s₀.heap.FunFrames X.base X.outer
 frf:∀ b ∈ X.fs,X.H₀ b = none
structure Inv (X:Cx) (pins:List (Addr×Obj)) (σ:List (Option V)) (H:Hp) (s:Shared):Prop where
 ok:X.Ok
 os:s.os = X.s₀.os
 bare:AllBare s.gens
 base:Un X.fs X.ex X.H₀ H X.s₀.heap s.heap
 loc:∃ m,s.heap.Ns X.env.locals m∧∀ (i:Nat) (x:Str) (v:V),X.N[i]? = some x→σ[i]? = some (some v)→Vis X.env.scope x→∃ u,RelV v u∧Look X.env s.heap m x u
 cell:∀ x c,X.env.cells.lookup x = some c→∃ v,s.heap.IsCell c v
 free:H X.env.locals = none
 freeC:∀ x c,X.env.cells.lookup x = some c→H c = none
 pin:∀ p ∈ X.pn ++ pins,s.heap.get? p.1 = some p.2∧H p.1 = none∧p.1 ≠ X.env.locals∧p.1 ∉ X.fs∧∀ v,p.2.data ≠ .cell v
 hok:HOk X.prog X.w H s.heap
 len:σ.length = X.N.length
section
variable {X:Cx} {pins:List (Addr×Obj)} {σ:List (Option V)} {H H':Hp} {s:Shared} {h':Heap}
theorem Cx.Ok.nofr (ok:X.Ok) {b:Addr} {o:Obj} (e:X.base.get? b = some o):b ∉ X.fs:=fun hb=>by
 have:=(ok.funs.mem hb).1
 rw [e] at this; cases this
theorem Inv.bs (I:Inv X pins σ H s):∀ b o,X.base.get? b = some o→s.heap.get? b = some o∧H b = none:=fun b o e=>
 ⟨I.base.keep b o (I.ok.bs b o e).1 (I.ok.bs b o e).2 (I.ok.nofr e) (I.ok.noex b o e),I.base.free b o (I.ok.bs b o e).1 (I.ok.bs b o e).2 (I.ok.noex b o e)⟩
theorem Inv.bk (I:Inv X pins σ H s):∀ b o,X.base.get? b = some o→s.heap.get? b = some o:=fun b o e=>(I.bs b o e).1
theorem Inv.mod (I:Inv X pins σ H s):Mod X.K X.mg X.base:=I.ok.mod
theorem Inv.kIn (I:Inv X pins σ H s):X.K.In s.heap:=I.ok.mod.kin.keeps I.bk
theorem Inv.lt (I:Inv X pins σ H s):X.env.locals < s.heap.objs.size:=let ⟨_,hn,_⟩:=I.loc; hn.lt
theorem Inv.sz (I:Inv X pins σ H s):X.s₀.heap.objs.size ≤ s.heap.objs.size:=Nat.le_trans I.ok.above (Nat.le_of_lt I.lt)
theorem Inv.nofs (I:Inv X pins σ H s) {a:Addr} (h:s.heap.objs.size ≤ a):a ∉ X.fs:=fun hb=>by
 obtain ⟨_,o,ho,_⟩:=I.ok.funs.mem hb
 exact absurd (Nat.lt_of_lt_of_le (Heap.lt_size ho) (Nat.le_trans I.sz h)) (Nat.lt_irrefl _)
theorem Inv.cne (I:Inv X pins σ H s):∀ x c,X.env.cells.lookup x = some c→c ≠ X.env.locals:=fun x c e z=>by
 obtain ⟨v,o,ho,hd⟩:=I.cell x c e
 obtain ⟨m,⟨o',es,ep,ho',hd',_⟩,_⟩:=I.loc
 rw [z,ho'] at ho; cases ho; rw [hd'] at hd; cases hd
theorem Inv.funs (I:Inv X pins σ H s):s.heap.FunFrames X.base X.outer:=by
 have all:∀ (l:List Env),(∀ b ∈ frs l,b ∈ X.fs)→X.s₀.heap.FunFrames X.base l→s.heap.FunFrames X.base l:=by
  intro l
  induction l with
  | nil=>intro _ _; trivial
  | cons env r ih=>
   intro hs hl
   obtain ⟨hk,⟨L,o,hf,hn,ho,hd⟩,hr⟩:=hl
   have hL:L ∈ X.fs:=hs L (by unfold frs; rw [List.filterMap_cons,hf]; exact List.mem_cons_self)
   obtain ⟨sl,e⟩:=I.base.slot L o ho (I.ok.frf L hL) hL fun z=>I.ok.exfs L z hL
   exact ⟨hk,⟨L,_,hf,hn,e,hd⟩,ih (fun b hb=>hs b (by unfold frs; rw [List.filterMap_cons,hf]; exact List.mem_cons_of_mem _ hb)) hr⟩
 exact all X.outer (fun _ hb=>hb) I.ok.funs
theorem Inv.stack (I:Inv X pins σ H s):s.heap.FunFrames X.base X.stack:=by
 rcases I.ok.stk with e | ⟨e,hf⟩
 ·rw [e]; exact I.funs
 ·rw [e]
  obtain ⟨m,hn,_⟩:=I.loc
  refine .cons (by rw [I.ok.kind]; decide) hf hn ?_ I.funs
  exact Heap.get?_none_of_le (Nat.le_trans I.ok.bsz I.ok.above)
theorem Inv.stkSub (I:Inv X pins σ H s):∀ b ∈ frs X.stack,b ∈ X.env.locals :: X.fs:=fun b hb=>by
 rcases I.ok.stk with e | ⟨e,hf⟩
 ·rw [e] at hb; exact List.mem_cons_of_mem _ hb
 ·rw [e] at hb
  unfold frs at hb
  rw [List.filterMap_cons,hf] at hb
  exact hb
theorem Inv.stkFree (I:Inv X pins σ H s):∀ b ∈ frs X.stack,H b = none:=fun b hb=>by
 rcases List.mem_cons.mp (I.stkSub b hb) with e | hb
 ·rw [e]; exact I.free
 ·obtain ⟨_,o,ho,_⟩:=I.ok.funs.mem hb
  exact I.base.free b o ho (I.ok.frf b hb) fun z=>I.ok.exfs b z hb
theorem Inv.step {g':Array GenState} {t':Nat} {d':Drawn} {ch:List Addr} (I:Inv X pins σ H s)
  (hch:∀ b ∈ ch,(b ∈ X.ex∨X.s₀.heap.objs.size ≤ b)∧b ≠ X.env.locals∧(∀ x c,X.env.cells.lookup x = some c→c ≠ b)∧∀ p ∈ X.pn ++ pins,p.1 ≠ b)
  (keep:∀ b o,b ≠ X.env.locals→b ∉ X.fs→b ∉ ch→s.heap.get? b = some o→H b = none→h'.get? b = some o)
  (slot:∀ b o,b ≠ X.env.locals→b ∈ X.fs→b ∉ ch→s.heap.get? b = some o→H b = none→∃ sl,h'.get? b = some { o with slots:=sl }) (free:∀ b o,b ∉ ch→s.heap.get? b = some o→H b = none→H' b = none)
  (there:∀ b o,b ∉ ch→s.heap.get? b = some o→∃ o',h'.get? b = some o')
  (tups:∀ b xs,H b = some (.tup xs)→H' b = some (.tup xs)) (frzs:∀ b o u,H b = some (.frz o u)→H' b = some (.frz o u)) (tbls:∀ b ps,H b = some (.tbl ps)→∃ more,H' b = some (.tbl (ps ++ more)))
  (ns:∀ m,s.heap.Ns X.env.locals m→h'.Ns X.env.locals m) (hok:HOk X.prog X.w H' h') (hg:AllBare g') :
  Inv X pins σ H' { s with heap:=h',gens:=g',drawn:=d',toks:=t' }:=by
 have neL:∀ b o,X.s₀.heap.get? b = some o→b ≠ X.env.locals:=fun b o e=>Nat.ne_of_lt (Nat.lt_of_lt_of_le (Heap.lt_size e) I.ok.above)
 have neC:∀ b o,X.s₀.heap.get? b = some o→b ∉ X.ex→b ∉ ch:=fun b o e hx hb=>by
  rcases (hch b hb).1 with z | z
  ·exact hx z
  ·exact absurd (Nat.lt_of_lt_of_le (Heap.lt_size e) z) (Nat.lt_irrefl _)
 have cellK:∀ x c,X.env.cells.lookup x = some c→∀ v,s.heap.IsCell c v→h'.IsCell c v:=fun x c e v ⟨o,ho,hd⟩=>by
  have nch:c ∉ ch:=fun z=>(hch c z).2.2.1 x c e rfl
  by_cases hc:c ∈ X.fs
  ·obtain ⟨sl,q⟩:=slot c o (I.cne x c e) hc nch ho (I.freeC x c e)
   exact ⟨_,q,hd⟩
  ·exact ⟨o,keep c o (I.cne x c e) hc nch ho (I.freeC x c e),hd⟩
 refine ⟨I.ok,I.os,hg,⟨fun b o e n hb hx=>?_,fun b o e n hb hx=>?_,fun b o e n hx=>?_,fun b o e hx=>?_,fun b xs e=>tups b xs (I.base.tups b xs e),fun b o xs e=>frzs b o xs (I.base.frzs b o xs e),fun b ps e=>?_⟩,?_,fun x c e=>?_,?_,fun x c e=>?_,fun p hp=>?_,hok,I.len⟩
 ·exact keep b o (neL b o e) hb (neC b o e hx) (I.base.keep b o e n hb hx) (I.base.free b o e n hx)
 ·obtain ⟨sl,e1⟩:=I.base.slot b o e n hb hx
  obtain ⟨sl',e2⟩:=slot b _ (neL b o e) hb (neC b o e hx) e1 (I.base.free b o e n hx)
  exact ⟨sl',e2⟩
 ·obtain ⟨o',e1⟩:=I.base.there b o e hx
  exact free b o' (neC b o e hx) e1 (I.base.free b o e n hx)
 ·obtain ⟨o',e1⟩:=I.base.there b o e hx
  exact there b o' (neC b o e hx) e1
 ·obtain ⟨m1,e1⟩:=I.base.tbls b ps e
  obtain ⟨m2,e2⟩:=tbls b _ e1
  exact ⟨m1 ++ m2,by rw [e2,Array.append_assoc]⟩
 ·obtain ⟨m,hn,hl⟩:=I.loc
  refine ⟨m,ns m hn,fun i x v e1 e2 e3=>?_⟩
  obtain ⟨u,r,l⟩:=hl i x v e1 e2 e3
  refine ⟨u,r,?_⟩
  rcases l with l | ⟨k,c,e,z⟩
  ·exact .inl l
  ·exact .inr ⟨k,c,e,cellK x c e _ z⟩
 ·obtain ⟨v,z⟩:=I.cell x c e
  exact ⟨v,cellK x c e v z⟩
 ·obtain ⟨m,⟨o,_,_,ho,_⟩,_⟩:=I.loc
  exact free _ o (fun z=>(hch _ z).2.1 rfl) ho I.free
 ·obtain ⟨v,o,ho,hd⟩:=I.cell x c e
  exact free c o (fun z=>(hch c z).2.2.1 x c e rfl) ho (I.freeC x c e)
 ·obtain ⟨e,n,ne,nf,d⟩:=I.pin p hp
  have nch:p.1 ∉ ch:=fun z=>(hch p.1 z).2.2.2 p hp rfl
  exact ⟨keep p.1 p.2 ne nf nch e n,free p.1 p.2 nch e n,ne,nf,d⟩
theorem Inv.un {t':Nat} (I:Inv X pins σ H s) (u:Un X.fs [] H H' s.heap h') (hok:HOk X.prog X.w H' h'):Inv X pins σ H' { s with heap:=h',toks:=t' }:=by
 obtain ⟨m,⟨o,es,ep,ho,r⟩,_⟩:=id I.loc
 obtain ⟨sl,hL⟩:=u.any ho I.free (by simp)
 exact I.step (g':=s.gens) (d':=s.drawn) (ch:=[]) (fun _ z=>nomatch z) (fun b o _ hb _ e n=>u.keep b o e n hb (by simp)) (fun b o _ hb _ e n=>u.slot b o e n hb (by simp)) (fun b o _ e n=>u.free b o e n (by simp)) (fun b o _ e=>u.there b o e (by simp)) u.tups u.frzs u.tbls (fun m' hm=>by
  obtain ⟨o',es',ep',ho',r'⟩:=hm
  rw [ho] at ho'; cases ho'
  exact ⟨_,es',ep',hL,r'⟩) hok I.bare
theorem Inv.call {g':Array GenState} {t':Nat} {d':Drawn} {ch:List Addr} (I:Inv X pins σ H s) (u:Un (frs X.stack) ch H H' s.heap h') (hok:HOk X.prog X.w H' h') (hg:AllBare g')
  (hch:∀ b ∈ ch,(b ∈ X.ex∨X.s₀.heap.objs.size ≤ b)∧b ≠ X.env.locals∧(∀ x c,X.env.cells.lookup x = some c→c ≠ b)∧∀ p ∈ X.pn ++ pins,p.1 ≠ b) :
  Inv X pins σ H' { s with heap:=h',gens:=g',drawn:=d',toks:=t' }:=by
 obtain ⟨m,⟨o,es,ep,ho,r⟩,_⟩:=id I.loc
 obtain ⟨sl,hL⟩:=u.any ho I.free fun z=>(hch _ z).2.1 rfl
 exact I.step (ch:=ch) hch (fun b o hL hb hc e n=>u.keep b o e n (fun z=>(List.mem_cons.mp (I.stkSub b z)).elim hL hb) hc) (fun b o _ _ hc e n=>u.any e n hc) (fun b o hc e n=>u.free b o e n hc) (fun b o hc e=>u.there b o e hc) u.tups u.frzs u.tbls (fun m' hm=>by
  obtain ⟨o',es',ep',ho',r'⟩:=hm
  rw [ho] at ho'; cases ho'
  exact ⟨_,es',ep',hL,r'⟩) hok hg
theorem Inv.turned {t':Nat} {it:Addr} (I:Inv X pins σ H s) (k:∀ b o,b ≠ it→s.heap.get? b = some o→h'.get? b = some o) (hn:H it = none) (hL:it ≠ X.env.locals)
  (h1:it ∈ X.ex∨X.s₀.heap.objs.size ≤ it) (h2:∀ x c,X.env.cells.lookup x = some c→c ≠ it) (h3:∀ p ∈ X.pn ++ pins,p.1 ≠ it):Inv X pins σ H { s with heap:=h',toks:=t' }:=by
 have nit:∀ b u,H b = some u→b ≠ it:=fun b u e z=>by rw [z,hn] at e; cases e
 refine I.step (g':=s.gens) (d':=s.drawn) (ch:=[it]) (fun b hb=>?_) (fun b o _ _ hc e _=>k b o (fun z=>hc (by simp [z])) e) (fun b o _ _ hc e _=>⟨o.slots,k b o (fun z=>hc (by simp [z])) e⟩) (fun _ _ _ _ n=>n)
  (fun b o hc e=>⟨o,k b o (fun z=>hc (by simp [z])) e⟩) (fun _ _ e=>e) (fun _ _ _ e=>e) (fun b ps e=>⟨#[],by rw [e]; simp⟩) (fun m hm=>?_) (fun b u e=>?_) I.bare
 ·have e:b = it:=by simpa using hb
  subst e
  exact ⟨h1,hL,h2,h3⟩
 ·obtain ⟨o,es,ep,ho,r⟩:=hm
  exact ⟨o,es,ep,k _ o (Ne.symm hL) ho,r⟩
 ·refine (I.hok b u e).stay (fun c v hc q=>k c v ?_ q) (fun _ q=>q) fun _ _ q=>q
  rcases hc with z | z
  ·rw [z]; exact nit b u e
  ·exact nit c _ z
theorem Inv.tok (I:Inv X pins σ H s) (t:Nat):Inv X pins σ H { s with toks:=t }:=I.un (h':=s.heap) (t':=t) Un.refl I.hok
theorem Inv.kept {t':Nat} (I:Inv X pins σ H s) (k:∀ b u,s.heap.get? b = some u→h'.get? b = some u):Inv X pins σ H { s with heap:=h',toks:=t' }:=I.un (Un.kept k) (I.hok.kept k)
theorem Inv.laid {a:Addr} {o:HO} {t':Nat} (I:Inv X pins σ H s) (k:∀ b u,s.heap.get? b = some u→h'.get? b = some u) (hp:s.heap.objs.size ≤ a) (new:ObjOk X.prog X.w (upd H a o) h' a o) :
  Inv X pins σ (upd H a o) { s with heap:=h',toks:=t' }:=I.un (Un.laid k hp (I.hok.fresh hp)) (I.hok.laid k hp new)
theorem Inv.write {x e:Addr} {o:HO} {t':Nat} (I:Inv X pins σ H s) (mu:Mut (H x)) (he:e = x∨H e = some (.own x)) (k:∀ b u,b ≠ e→s.heap.get? b = some u→h'.get? b = some u) (heo:∃ u,h'.get? e = some u)
  (new:ObjOk X.prog X.w (upd H x o) h' x o):Inv X pins σ (upd H x o) { s with heap:=h',toks:=t' }:=I.un (Un.write mu he k heo) (I.hok.write mu he k heo new)
theorem Inv.pins_of {pins':List (Addr×Obj)} (I:Inv X pins σ H s) (h:∀ p ∈ pins',s.heap.get? p.1 = some p.2∧H p.1 = none∧p.1 ≠ X.env.locals∧p.1 ∉ X.fs∧∀ v,p.2.data ≠ .cell v):Inv X pins' σ H s:=
 ⟨I.ok,I.os,I.bare,I.base,I.loc,I.cell,I.free,I.freeC,fun p hp=>(List.mem_append.mp hp).elim (fun z=>I.pin p (List.mem_append_left _ z)) (h p),I.hok,I.len⟩
theorem nodup_ix {N:List Str} (hN:N.Nodup) {i j:Nat} {x:Str} (a:N[i]? = some x) (b:N[j]? = some x):i = j:=by
 obtain ⟨h1,e1⟩:=List.getElem?_eq_some_iff.mp a
 obtain ⟨h2,e2⟩:=List.getElem?_eq_some_iff.mp b
 exact (List.getElem_inj hN).mp (e1.trans e2.symm)
theorem store_ok2 {M:Model} {A:Around} {E:Value→Shared→Prop} {i:Nat} {x:Str} {v:V} {u:Value} {Q:Unit→Shared→Prop} (I:Inv X pins σ H s) (hN:X.N.Nodup) (hi:X.N[i]? = some x) (hx:Loc X.env.scope x) (r:RelV v u)
  (h:∀ s',Inv X pins (σ.set i (some v)) H s'→(∃ a,Heap.SameBut a s.heap s'.heap∧(a = X.env.locals∨X.env.cells.lookup x = some a))→Q () s') (hf:X.fn x = true∨X.env.scope.names.lookup x = some .local:=by first | exact .inl rfl | exact .inr rfl | assumption):wpAny M A (storeName X.env x u) Q E s:=by
 obtain ⟨m,hn,hl⟩:=id I.loc
 have hcls:(X.env.scope.kind == .class || (X.env.scope.kind == .module && X.env.locals != X.env.globals)) = false:=by rw [I.ok.kind]; rfl
 have hiσ:i < σ.length:=by rw [I.len]; exact (List.getElem?_eq_some_iff.mp hi).1
 have cne:=I.cne
 have tracked:∀ {a:Addr} {h':Heap},(∃ o,s.heap.get? a = some o∧H a = none)→Heap.SameBut a s.heap h'→HOk X.prog X.w H h':=fun {a h'} ha hs b ob e=>by
  obtain ⟨_,_,hfree⟩:=ha
  refine (I.hok b ob e).stay (fun c w' hc q=>(hs.2 c ?_).trans q) (fun _ q=>q) fun _ _ q=>q
  rintro rfl
  rcases hc with rfl | hc
  ·rw [hfree] at e; cases e
  ·rw [hfree] at hc; cases hc
 rcases hx with hk | hk
 ·refine wpAny_storeName_local hk hn (fun h' hn' hs=>?_) hcls
  obtain ⟨oL,_,_,hoL,_⟩:=id hn
  refine h _ ⟨I.ok,I.os,I.bare,⟨fun b o e n hb hx=>?_,fun b o e n hb hx=>?_,I.base.free,fun b o e hx=>?_,I.base.tups,I.base.frzs,I.base.tbls⟩,⟨_,hn',fun j y v' e1 e2 e3=>?_⟩,fun y c e=>?_,I.free,I.freeC,fun p hp=>?_,tracked ⟨oL,hoL,I.free⟩ hs,by simpa using I.len⟩ ⟨_,hs,.inl rfl⟩
  ·exact (hs.2 b (Nat.ne_of_lt (Nat.lt_of_lt_of_le (Heap.lt_size e) I.ok.above))).trans (I.base.keep b o e n hb hx)
  ·obtain ⟨sl,e1⟩:=I.base.slot b o e n hb hx
   exact ⟨sl,(hs.2 b (Nat.ne_of_lt (Nat.lt_of_lt_of_le (Heap.lt_size e) I.ok.above))).trans e1⟩
  ·obtain ⟨o',e1⟩:=I.base.there b o e hx
   exact ⟨o',(hs.2 b (Nat.ne_of_lt (Nat.lt_of_lt_of_le (Heap.lt_size e) I.ok.above))).trans e1⟩
  ·by_cases hj:j = i
   ·subst hj
    rw [hi] at e1; cases e1
    rw [List.getElem?_set_self hiσ] at e2
    cases e2
    exact ⟨u,r,.inl ⟨hk,by simp⟩⟩
   ·rw [List.getElem?_set_ne (Ne.symm hj)] at e2
    obtain ⟨u',r',q⟩:=hl j y v' e1 e2 e3
    refine ⟨u',r',?_⟩
    rcases q with ⟨k,e⟩ | ⟨k,c,e,z⟩
    ·refine .inl ⟨k,?_⟩
     have:y ≠ x:=fun e=>hj (nodup_ix hN e1 (e ▸ hi))
     simp [this,e]
    ·exact .inr ⟨k,c,e,z.sameBut hs (cne y c e)⟩
  ·obtain ⟨w',z⟩:=I.cell y c e
   exact ⟨w',z.sameBut hs (cne y c e)⟩
  ·obtain ⟨e,n,ne,nf,d⟩:=I.pin p hp
   exact ⟨(hs.2 p.1 ne).trans e,n,ne,nf,d⟩
 ·have hfn:X.fn x = true:=by
   rcases hf with z | z
   ·exact z
   ·rw [z] at hk; cases hk
  obtain ⟨c,hc⟩:=I.ok.has x (.inl hk)
  obtain ⟨w',z⟩:=I.cell x c hc
  refine wpAny_storeName_cell I.ok.kind hk hc z (fun h' hc' hs=>?_)
  obtain ⟨oc,hoc,hocd⟩:=id z
  refine h { s with heap:=h' } ⟨I.ok,I.os,I.bare,⟨fun b o e n hb hx=>?_,fun b o e n hb hx=>?_,I.base.free,fun b o e hx=>?_,I.base.tups,I.base.frzs,I.base.tbls⟩,⟨m,hn.sameBut hs (Ne.symm (cne x c hc)),fun j y v' e1 e2 e3=>?_⟩,fun y c' e=>?_,I.free,I.freeC,fun p hp=>?_,tracked ⟨oc,hoc,I.freeC x c hc⟩ hs,by simpa using I.len⟩ ⟨c,hs,.inr hc⟩
  ·exact (hs.2 b (Nat.ne_of_lt (Nat.lt_of_lt_of_le (Heap.lt_size e) (I.ok.cab x c hfn hc)))).trans (I.base.keep b o e n hb hx)
  ·obtain ⟨sl,e1⟩:=I.base.slot b o e n hb hx
   exact ⟨sl,(hs.2 b (Nat.ne_of_lt (Nat.lt_of_lt_of_le (Heap.lt_size e) (I.ok.cab x c hfn hc)))).trans e1⟩
  ·obtain ⟨o',e1⟩:=I.base.there b o e hx
   exact ⟨o',(hs.2 b (Nat.ne_of_lt (Nat.lt_of_lt_of_le (Heap.lt_size e) (I.ok.cab x c hfn hc)))).trans e1⟩
  ·by_cases hj:j = i
   ·subst hj
    rw [hi] at e1; cases e1
    rw [List.getElem?_set_self hiσ] at e2
    cases e2
    exact ⟨u,r,.inr ⟨.inl hk,c,hc,hc'⟩⟩
   ·rw [List.getElem?_set_ne (Ne.symm hj)] at e2
    obtain ⟨u',r',q⟩:=hl j y v' e1 e2 e3
    refine ⟨u',r',?_⟩
    rcases q with q | ⟨k,c',e,z'⟩
    ·exact .inl q
    ·refine .inr ⟨k,c',e,z'.sameBut hs ?_⟩
     rintro rfl
     exact hj (nodup_ix hN e1 (I.ok.inj _ _ _ e hc ▸ hi))
  ·by_cases hcc:c' = c
   ·subst hcc; exact ⟨_,hc'⟩
   ·obtain ⟨w2,z2⟩:=I.cell y c' e
    exact ⟨w2,z2.sameBut hs hcc⟩
  ·obtain ⟨e,n,ne,nf,d⟩:=I.pin p hp
   refine ⟨(hs.2 p.1 ?_).trans e,n,ne,nf,d⟩
   intro q
   rw [q,hoc] at e
   have q':oc = p.2:=Option.some.inj e
   exact d w' (by rw [← q']; exact hocd)
theorem store_ok {M:Model} {A:Around} {E:Value→Shared→Prop} {i:Nat} {x:Str} {v:V} {u:Value} {Q:Unit→Shared→Prop} (I:Inv X pins σ H s) (hN:X.N.Nodup) (hi:X.N[i]? = some x) (hx:Loc X.env.scope x) (r:RelV v u)
  (h:∀ s',Inv X pins (σ.set i (some v)) H s'→Q () s') (hf:X.fn x = true∨X.env.scope.names.lookup x = some .local:=by first | exact .inl rfl | exact .inr rfl | assumption):wpAny M A (storeName X.env x u) Q E s:=
 store_ok2 I hN hi hx r (fun s' I' _=>h s' I') hf
theorem Inv.call' {s':Shared} {ch:List Addr} (I:Inv X pins σ H s) (ho:s'.os = s.os) (u:Un (frs X.stack) ch H H' s.heap s'.heap) (hok:HOk X.prog X.w H' s'.heap) (hg:AllBare s'.gens)
  (hch:∀ b ∈ ch,(b ∈ X.ex∨X.s₀.heap.objs.size ≤ b)∧b ≠ X.env.locals∧(∀ x c,X.env.cells.lookup x = some c→c ≠ b)∧∀ p ∈ X.pn ++ pins,p.1 ≠ b):Inv X pins σ H' s':=by
 obtain ⟨h',g',d',t',o'⟩:=s'
 have e:o' = s.os:=ho
 subst e
 exact I.call (g':=g') (t':=t') (d':=d') u hok hg hch
end
abbrev XK:=Value→Option Addr→Hp→Prop
abbrev St:=List (Option V)
abbrev VK:=V→Hp→Prop
abbrev TE:=St→Hp→VK→Prop
abbrev TT:=St→Hp→(Bool→Hp→Prop)→Prop
abbrev TA:=St→Hp→(List V→Hp→Prop)→Prop
structure Ends where
 nx:St→Hp→Prop
 rt:VK
 bk:St→Hp→Prop:=fun _ _=>False
 ct:St→Hp→Prop:=fun _ _=>False
abbrev TS:=Ends→St→Hp→Prop
def EP (X:Cx) (pins:List (Addr×Obj)) (σ:St) (Q:VK) (u:Value) (s':Shared):Prop:=∃ v H',Inv X pins σ H' s'∧RelV v u∧Q v H'
def TP (X:Cx) (pins:List (Addr×Obj)) (σ:St) (Q:Bool→Hp→Prop) (b:Bool) (s':Shared):Prop:=∃ H',Inv X pins σ H' s'∧Q b H'
def AP (X:Cx) (pins:List (Addr×Obj)) (σ:St) (Q:List V→Hp→Prop) (us:List Value) (s':Shared):Prop:=∃ vs H',Inv X pins σ H' s'∧Vals vs us∧Q vs H'
def SP (X:Cx) (pins:List (Addr×Obj)) (D:Ends) (f:Flow) (s':Shared):Prop:=
 match f with
 | .next=>∃ σ' H',Inv X pins σ' H' s'∧D.nx σ' H'
 | .brk=>∃ σ' H',Inv X pins σ' H' s'∧D.bk σ' H'
 | .cont=>∃ σ' H',Inv X pins σ' H' s'∧D.ct σ' H'
 | .ret u=>∃ v σ' H',Inv X pins σ' H' s'∧RelV v u∧D.rt v H'
def PE (X:Cx) (e:Expr) (t:TE):Prop:=
 ∀ (pins:List (Addr×Obj)) (s:Shared) (σ:St) (H:Hp) (Q:VK),Inv X pins σ H s→t σ H Q→wpAny (model X.prog X.w) X.A (eval e X.env) (EP X pins σ Q) X.xe s
def PT (X:Cx) (e:Expr) (t:TT):Prop:=
 ∀ (pins:List (Addr×Obj)) (s:Shared) (σ:St) (H:Hp) (Q:Bool→Hp→Prop),Inv X pins σ H s→t σ H Q→wpAny (model X.prog X.w) X.A (isTrue e X.env (eval e X.env)) (TP X pins σ Q) X.xe s
def PW (X:Cx) (e:Expr) (t:TT):Prop:=
 ∀ (whole:Sem Value) (pins:List (Addr×Obj)) (s:Shared) (σ:St) (H:Hp) (Q:Bool→Hp→Prop),Inv X pins σ H s→t σ H Q→wpAny (model X.prog X.w) X.A (isTrue e X.env whole) (TP X pins σ Q) X.xe s
theorem PW.pt {X:Cx} {e:Expr} {t:TT} (h:PW X e t):PT X e t:=h _
def PA (X:Cx) (es:List Expr) (t:TA):Prop:=
 ∀ (pos:Pos) (pins:List (Addr×Obj)) (s:Shared) (σ:St) (H:Hp) (Q:List V→Hp→Prop),Inv X pins σ H s→t σ H Q→wpAny (model X.prog X.w) X.A (spliced (backTo pos (starEach es X.env))) (AP X pins σ Q) X.xe s
def PS (X:Cx) (st:Stmt) (t:TS):Prop:=
 ∀ (pins:List (Addr×Obj)) (s:Shared) (σ:St) (H:Hp) (D:Ends),Inv X pins σ H s→t D σ H→wpAny (model X.prog X.w) X.A (exec st X.env) (SP X pins D) X.xe s
def PSs (X:Cx) (st:List Stmt) (t:TS):Prop:=
 ∀ (pins:List (Addr×Obj)) (s:Shared) (σ:St) (H:Hp) (D:Ends),Inv X pins σ H s→t D σ H→wpAny (model X.prog X.w) X.A (execs st X.env) (SP X pins D) X.xe s
theorem thn {α:Type} {t:Sem α} {Q Q':α→Shared→Prop} {M:Model} {A:Around} {E:Value→Shared→Prop} {s:Shared} (h:wpAny M A t Q E s) (hQ:∀ a s,Q a s→Q' a s):wpAny M A t Q' E s:=wpAny_mono h hQ fun _ _ x=>x
section
variable {X:Cx}
def tVar (i:Nat):TE:=fun σ H Q=>∃ v,σ[i]? = some (some v)∧Q v H
def tC (v:V):TE:=fun _ H Q=>Q v H
theorem pe_var {i:Nat} {x:Str} {pos:Pos} (hN:X.N[i]? = some x) (hv:Vis X.env.scope x) (hd:(x == ("__debug__" : Str)) = false:=by decide) (hcd:(x == ("__classdict__" : Str)) = false:=by decide):PE X (.Name x pos) (tVar i):=by
 intro pins s σ H Q I h
 obtain ⟨v,e,h⟩:=h
 obtain ⟨m,hn,hl⟩:=I.loc
 obtain ⟨u,r,l⟩:=hl i x v hN e hv
 have fin:EP X pins σ Q u s:=⟨v,H,I,r,h⟩
 rcases l with ⟨hk,hm⟩ | ⟨hk,c,hc,hcell⟩
 ·exact wpAny_Name (wpAny_loadName_local I.ok.kind hk hn hm fin) hd
 ·rcases hk with hk | hk
  ·exact wpAny_Name (wpAny_loadName_cell I.ok.kind hk hc hcell fin) hd
  ·exact wpAny_Name (wpAny_loadName_free I.ok.kind hk hc hcell fin hcd) hd
theorem pe_int {i j pos}:PE X (.Constant (.int i) j pos) (tC (.int i)):=fun _ _ _ H _ I h=>wpAny_Constant_int ⟨.int i,H,I.tok _,⟨_,rfl⟩,h⟩
theorem pe_bl {b j pos}:PE X (.Constant (.bool b) j pos) (tC (.bl b)):=fun _ _ _ H _ I h=>Constant_bool ⟨.bl b,H,I,rfl,h⟩
theorem pe_non {j pos}:PE X (.Constant .none j pos) (tC .non):=fun _ _ _ H _ I h=>Constant_none ⟨.non,H,I,rfl,h⟩
theorem pe_str {x j pos}:PE X (.Constant (.str x) j pos) (tC (.str x)):=fun _ _ _ H _ I h=>Calls.Constant_str ⟨.str x,H,I.tok _,⟨_,rfl⟩,h⟩
def Gl (X:Cx) (x:Str):Prop:=X.env.kindOf x = some .globalImplicit
theorem ld_glob {E:Value→Shared→Prop} {pins:List (Addr×Obj)} {s:Shared} {σ:St} {H:Hp} {x:Str} {u:Value} {pos:Pos} {Q:Value→Shared→Prop} (I:Inv X pins σ H s) (hg:Gl X x) (hm:X.mg x = some u) (h:Q u s)
  (hd:(x == ("__debug__" : Str)) = false:=by decide):wpAny (model X.prog X.w) X.A (eval (.Name x pos) X.env) Q E s:=
 Calls.Name_function_global I.ok.kind hg (Calls.loadGlobal_global (by rw [I.ok.glob]; exact I.mod.glob.keeps I.bk) hm h) hd
theorem ld_blt {E:Value→Shared→Prop} {pins:List (Addr×Obj)} {s:Shared} {σ:St} {H:Hp} {x:Str} {u:Value} {pos:Pos} {Q:Value→Shared→Prop} (I:Inv X pins σ H s) (hg:Gl X x) (hm:X.mg x = none) (hv:bootBuiltins x = some u) (h:Q u s)
  (hn:x ≠ "__name__":=by decide) (hd:(x == ("__debug__" : Str)) = false:=by decide):wpAny (model X.prog X.w) X.A (eval (.Name x pos) X.env) Q E s:=by
 obtain ⟨mb,h1,h2⟩:=I.mod.blt
 exact Calls.Name_function_global I.ok.kind hg (Calls.loadGlobal_builtin (by rw [I.ok.glob]; exact I.mod.glob.keeps I.bk) hm (by rw [I.ok.blt]; exact h1.keeps I.bk) ((h2 x hn).trans hv) h) hd
theorem pe_glob {x:Str} {v:V} {u:Value} {pos:Pos} (hg:Gl X x) (hm:X.mg x = some u) (r:RelV v u) (hd:(x == ("__debug__" : Str)) = false:=by decide):PE X (.Name x pos) (tC v):=
 fun _ _ _ H _ I h=>ld_glob I hg hm ⟨v,H,I,r,h⟩ hd
theorem pe_bltn {x:Str} {v:V} {u:Value} {pos:Pos} (hg:Gl X x) (hm:X.mg x = none) (hv:bootBuiltins x = some u) (r:RelV v u) (hn:x ≠ "__name__":=by decide) (hd:(x == ("__debug__" : Str)) = false:=by decide):PE X (.Name x pos) (tC v):=
 fun _ _ _ H _ I h=>ld_blt I hg hm hv ⟨v,H,I,r,h⟩ hn hd
variable {a b:Expr} {ta tb:TE} {pos:Pos}
def tB (t:TE):TT:=fun σ H Q=>t σ H fun x H1=>∃ c,x = .bl c∧Q c H1
theorem pt_val {e:Expr} {t:TE} (h:PE X e t) (he:∀ whole,isTrue e X.env whole = (do let v ← whole; standAt e.pos; holding [v] (truthy v)):=by intro _; rfl):PT X e (tB t):=by
 intro pins s σ H Q I hw
 refine isTrue_plain (thn (h pins s σ H _ I hw) fun v s1 ⟨x,H1,I1,r1,q1⟩=>?_) (he _)
 obtain ⟨d,rfl,q⟩:=q1
 cases r1
 exact wpAny_truthy_bool ⟨H1,I1,q⟩
variable {tA tB':TT} {rest:List Expr}
def tAnd (t u:TT):TT:=fun σ H Q=>t σ H fun c H1=>if c = true then u σ H1 Q else Q false H1
def tOr (t u:TT):TT:=fun σ H Q=>t σ H fun c H1=>if c = true then Q true H1 else u σ H1 Q
def tNot (t:TT):TT:=fun σ H Q=>t σ H fun c H1=>Q (!c) H1
theorem pw_and1 (ha:PT X a tA):PW X (.BoolOp .And [a] pos) tA:=by
 intro wh pins s σ H Q I h
 refine isTrue_and (thn (ha pins s σ H Q I h) fun c s1 e=>?_)
 cases c with
 | true=>exact isTrue_and_nil e
 | false=>exact e
theorem pw_or1 (ha:PT X a tA):PW X (.BoolOp .Or [a] pos) tA:=by
 intro wh pins s σ H Q I h
 refine isTrue_or (thn (ha pins s σ H Q I h) fun c s1 e=>?_)
 cases c with
 | false=>exact isTrue_or_nil e
 | true=>exact e
theorem pw_and (ha:PT X a tA) (hb:PW X (.BoolOp .And (b :: rest) pos) tB'):PW X (.BoolOp .And (a :: b :: rest) pos) (tAnd tA tB'):=by
 intro wh pins s σ H Q I h
 refine isTrue_and (thn (ha pins s σ H _ I h) fun c s1 ⟨H1,I1,q1⟩=>?_)
 cases c with
 | true=>exact hb wh pins s1 σ H1 Q I1 q1
 | false=>exact ⟨H1,I1,q1⟩
theorem pw_or (ha:PT X a tA) (hb:PW X (.BoolOp .Or (b :: rest) pos) tB'):PW X (.BoolOp .Or (a :: b :: rest) pos) (tOr tA tB'):=by
 intro wh pins s σ H Q I h
 refine isTrue_or (thn (ha pins s σ H _ I h) fun c s1 ⟨H1,I1,q1⟩=>?_)
 cases c with
 | true=>exact ⟨H1,I1,q1⟩
 | false=>exact hb wh pins s1 σ H1 Q I1 q1
theorem pt_not (ha:PT X a tA):PT X (.UnaryOp .Not a pos) (tNot tA):=by
 intro pins s σ H Q I h
 exact isTrue_not (ha pins s σ H (fun c H1=>Q (!c) H1) I h)
def tAndV (ta tb:TE):TE:=fun σ H Q=>ta σ H fun x H1=>∃ c,x = .bl c∧if c = true then tb σ H1 Q else Q (.bl false) H1
def tNotV (ta:TE):TE:=fun σ H Q=>ta σ H fun x H1=>∃ c,x = .bl c∧Q (.bl (!c)) H1
theorem pe_one {op} {t:TE} (h:PE X a t):PE X (.BoolOp op [a] pos) t:=fun pins s σ H Q I hw=>BoolOp_one (h pins s σ H Q I hw)
theorem pe_and (ha:PE X a ta) (hb:PE X (.BoolOp .And (b :: rest) pos) tb):PE X (.BoolOp .And (a :: b :: rest) pos) (tAndV ta tb):=by
 intro pins s σ H Q I h
 refine BoolOp_and (thn (ha pins s σ H _ I h) fun v s1 ⟨x,H1,I1,r1,q1⟩=>?_)
 obtain ⟨c,rfl,q1⟩:=q1
 cases r1
 refine wpAny_truthy_bool ?_
 cases c with
 | true=>exact hb pins s1 σ H1 Q I1 q1
 | false=>exact ⟨.bl false,H1,I1,rfl,q1⟩
theorem pe_not (ha:PE X a ta):PE X (.UnaryOp .Not a pos) (tNotV ta):=by
 intro pins s σ H Q I h
 refine UnaryOp_ (thn (ha pins s σ H _ I h) fun v s1 ⟨x,H1,I1,r1,q1⟩=>?_)
 obtain ⟨c,rfl,q1⟩:=q1
 cases r1
 exact not_of (wpAny_truthy_bool ⟨.bl (!c),H1,I1,rfl,q1⟩)
def tIf (t:TT) (ta tb:TE):TE:=fun σ H Q=>t σ H fun c H1=>if c = true then ta σ H1 Q else tb σ H1 Q
theorem pe_ifExp {c:Expr} (hc:PT X c tA) (ha:PE X a ta) (hb:PE X b tb):PE X (.IfExp c a b pos) (tIf tA ta tb):=by
 intro pins s σ H Q I h
 refine wpAny_IfExp (thn (hc pins s σ H _ I h) fun d s1 ⟨H1,I1,q1⟩=>?_)
 cases d with
 | true=>exact ha pins s1 σ H1 Q I1 q1
 | false=>exact hb pins s1 σ H1 Q I1 q1
end
def SqL (K:PySem.W.Frag) (H:Hp) (a:Addr) (xs:List V):Prop:=
 Rd H a (.lst xs) ∨
  ∃ (o:Obj) (its:Array Value) (n:Nat),K.lookup a = some o∧o.cls = .type "list"∧o.dict = none∧o.data = .seq its n∧its.size ≤ sizeLine∧Vals xs its.toList
def SqT (K:PySem.W.Frag) (H:Hp) (a:Addr) (xs:List V):Prop:=
 Rd H a (.tup xs) ∨
  ∃ (o:Obj) (its:Array Value) (n:Nat),K.lookup a = some o∧o.cls = .type "tuple"∧o.data = .seq its n∧its.size ≤ sizeLine∧Vals xs its.toList
def absV:Value→Option V
 | .none=>some .non
 | .bool b=>some (.bl b)
 | .int i _=>some (.int i)
 | .str x _=>some (.str x)
 | .bytes b _=>some (.byt b)
 | .float b _=>some (.flt b)
 | .ref a=>some (.ref a)
 | .type n=>some (.ty n)
 | _=>none
theorem RelV.abs {x:V} {u:Value} (r:RelV x u):absV u = some x:=by
 cases x with
 | non=>cases r; rfl
 | bl _=>cases r; rfl
 | int _=>obtain ⟨t,rfl⟩:=r; rfl
 | str _=>obtain ⟨t,rfl⟩:=r; rfl
 | byt _=>obtain ⟨t,rfl⟩:=r; rfl
 | flt _=>obtain ⟨t,rfl⟩:=r; rfl
 | ref _=>cases r; rfl
 | ty _=>cases r; rfl
theorem RelV.inj {x y:V} {u:Value} (r:RelV x u) (q:RelV y u):x = y:=Option.some.inj (r.abs.symm.trans q.abs)
theorem Vals.inj:∀ {xs ys:List V} {us:List Value},Vals xs us→Vals ys us→xs = ys
 | _,_,_,.nil,.nil=>rfl
 | _,_,_,.cons r t,.cons r' t'=>by rw [r.inj r',Vals.inj t t']
section
variable {X:Cx} {pins:List (Addr×Obj)} {σ:St} {H:Hp} {s:Shared} {a:Addr} {xs ys:List V}
theorem SqL.of {K:PySem.W.Frag} (h:H a = some (.lst xs)):SqL K H a xs:=.inl (.inl h)
theorem SqT.of {K:PySem.W.Frag} (h:H a = some (.tup xs)):SqT K H a xs:=.inl (.inl h)
theorem Inv.list (I:Inv X pins σ H s) (h:SqL X.K H a xs):∃ its:List Value,Vals xs its∧PlainL s.heap a its.toArray∧xs.length ≤ sizeLine:=by
 rcases h with h | ⟨o,its,n,hk,hc,hd,hs,hz,r⟩
 ·obtain ⟨z,its,n,r,e⟩:=h.ok I.hok
  exact ⟨its,r,⟨_,n,e,rfl,rfl,rfl⟩,z⟩
 ·refine ⟨its.toList,r,⟨o,n,I.kIn a o hk,hc,hd,by simpa using hs⟩,?_⟩
  have e:=r.length
  simp only [Array.length_toList] at e
  omega
theorem Inv.tuple (I:Inv X pins σ H s) (h:SqT X.K H a xs):∃ its:List Value,Vals xs its∧IsTup s.heap a its.toArray∧xs.length ≤ sizeLine:=by
 rcases h with h | ⟨o,its,n,hk,hc,hs,hz,r⟩
 ·obtain ⟨z,its,r,p,_⟩:=h.ok I.hok
  exact ⟨its,r,p,z⟩
 ·refine ⟨its.toList,r,⟨o,I.kIn a o hk,hc,n,by simpa using hs⟩,?_⟩
  have e:=r.length
  simp only [Array.length_toList] at e
  omega
theorem Inv.list_inj (I:Inv X pins σ H s) (h:SqL X.K H a xs) (h':SqL X.K H a ys):xs = ys:=by
 obtain ⟨its,r,⟨o,n,e,_,_,d⟩,_⟩:=I.list h
 obtain ⟨its',r',⟨o',n',e',_,_,d'⟩,_⟩:=I.list h'
 rw [e] at e'; cases e'
 rw [d] at d'
 injection d' with d1 _
 have:its = its':=by simpa using congrArg Array.toList d1
 subst this
 exact r.inj r'
theorem Inv.tuple_inj (I:Inv X pins σ H s) (h:SqT X.K H a xs) (h':SqT X.K H a ys):xs = ys:=by
 obtain ⟨its,r,⟨o,e,_,n,d⟩,_⟩:=I.tuple h
 obtain ⟨its',r',⟨o',e',_,n',d'⟩,_⟩:=I.tuple h'
 rw [e] at e'; cases e'
 rw [d] at d'
 injection d' with d1 _
 have:its = its':=by simpa using congrArg Array.toList d1
 subst this
 exact r.inj r'
end
abbrev Cx.wish (X:Cx) (E:Value→Shared→Prop):Cx:={ X with xe:=E }
abbrev Cx.nox (X:Cx):Cx:=X.wish fun _ _=>False
theorem Cx.Ok.wish {X:Cx} (ok:X.Ok) (E:Value→Shared→Prop):(X.wish E).Ok:=
 ⟨ok.mod,ok.kind,ok.glob,ok.blt,ok.above,ok.inj,ok.has,ok.cab,ok.hd,ok.frames,ok.stk,ok.exf,ok.bs,ok.bsz,ok.noex,ok.exfs,ok.funs,ok.frf⟩
theorem Cx.Ok.unwish {X:Cx} {E:Value→Shared→Prop} (ok:(X.wish E).Ok):X.Ok:=
 ⟨ok.mod,ok.kind,ok.glob,ok.blt,ok.above,ok.inj,ok.has,ok.cab,ok.hd,ok.frames,ok.stk,ok.exf,ok.bs,ok.bsz,ok.noex,ok.exfs,ok.funs,ok.frf⟩
section
variable {X:Cx} {pins:List (Addr×Obj)} {σ:St} {H:Hp} {s:Shared} {E:Value→Shared→Prop}
theorem Inv.wish (I:Inv X pins σ H s) (E:Value→Shared→Prop):Inv (X.wish E) pins σ H s:=⟨I.ok.wish E,I.os,I.bare,I.base,I.loc,I.cell,I.free,I.freeC,I.pin,I.hok,I.len⟩
theorem Inv.unwish (I:Inv (X.wish E) pins σ H s):Inv X pins σ H s:=⟨I.ok.unwish,I.os,I.bare,I.base,I.loc,I.cell,I.free,I.freeC,I.pin,I.hok,I.len⟩
theorem SP.unwish {D:Ends} {f:Flow} {s':Shared} (h:SP (X.wish E) pins D f s'):SP X pins D f s':=by
 cases f with
 | next=>obtain ⟨σ',H',I,q⟩:=h; exact ⟨σ',H',I.unwish,q⟩
 | brk=>obtain ⟨σ',H',I,q⟩:=h; exact ⟨σ',H',I.unwish,q⟩
 | cont=>obtain ⟨σ',H',I,q⟩:=h; exact ⟨σ',H',I.unwish,q⟩
 | ret u=>obtain ⟨v,σ',H',I,r,q⟩:=h; exact ⟨v,σ',H',I.unwish,r,q⟩
theorem PSs.nox {st:List Stmt} {t:TS} (h:PSs X.nox st t):PSs X st t:=fun pins s σ H D I hw=>
 wpAny_mono (h pins s σ H D (I.wish _) hw) (fun _ _ q=>q.unwish) fun _ _ z=>False.elim z
end
section
variable {X:Cx} {st:Stmt} {rest:List Stmt} {t u:TS} {e:Expr} {te:TE} {pos:Pos}
def tNext:TS:=fun D σ H=>D.nx σ H
def tSeq (t u:TS):TS:=fun D σ H=>t { D with nx:=u D } σ H
theorem pss_nil:PSs X [] tNext:=fun _ _ σ H _ I h=>wpAny_execs_nil ⟨σ,H,I,h⟩
theorem pss_cons (h1:PS X st t) (h2:PSs X rest u):PSs X (st :: rest) (tSeq t u):=by
 intro pins s σ H D I h
 refine wpAny_execs_cons (thn (h1 pins s σ H { D with nx:=u D } I h) fun f s1 q=>?_)
 cases f with
 | next=>
  obtain ⟨σ',H',I',q⟩:=q
  exact h2 pins s1 σ' H' D I' q
 | ret v=>exact q
 | brk=>exact q
 | cont=>exact q
theorem pss_one (h1:PS X st t):PSs X [st] t:=by
 intro pins s σ H D I h
 refine wpAny_execs_cons (thn (h1 pins s σ H D I h) fun f s1 q=>?_)
 cases f with
 | next=>exact wpAny_execs_nil q
 | ret v=>exact q
 | brk=>exact q
 | cont=>exact q
theorem Inv.quiet {pins:List (Addr×Obj)} {σ:St} {H:Hp} {s:Shared} (I:Inv X pins σ H s):interactive X.env = false:=by simp [interactive,I.ok.kind]
def tDrop (te:TE):TS:=fun D σ H=>te σ H fun _ H1=>D.nx σ H1
theorem ps_expr (he:PE X e te) (hs:swapsWith e none pos.line X.env = pure false:=by rfl):PS X (.Expr e pos) (tDrop te):=by
 intro pins s σ H D I h
 exact wpAny_Expr_any (thn (he pins s σ H _ I h) fun v s1 ⟨x,H1,I1,r1,q1⟩=>⟨σ,H1,I1,q1⟩) I.quiet hs
def tRet (te:TE):TS:=fun D σ H=>te σ H D.rt
theorem ps_ret (he:PE X e te):PS X (.Return (some e) pos) (tRet te):=by
 intro pins s σ H D I h
 exact wpAny_Return_some (thn (he pins s σ H _ I h) fun v s1 ⟨x,H1,I1,r1,q1⟩=>⟨x,σ,H1,I1,r1,q1⟩)
def tRetN:TS:=fun D _ H=>D.rt .non H
theorem ps_retN:PS X (.Return none pos) tRetN:=fun _ _ σ H _ I h=>wpAny_Return_none ⟨.non,σ,H,I,rfl,h⟩
def tIfS (c:TT) (t u:TS):TS:=fun D σ H=>c σ H fun b H1=>if b = true then t D σ H1 else u D σ H1
theorem ps_if {c:Expr} {a b:List Stmt} {tc:TT} (hc:PT X c tc) (ha:PSs X a t) (hb:PSs X b u):PS X (.If c a b pos) (tIfS tc t u):=by
 intro pins s σ H D I h
 refine wpAny_If (thn (hc pins s σ H _ I h) fun d s1 ⟨H1,I1,q1⟩=>?_)
 cases d with
 | true=>exact ha pins s1 σ H1 D I1 q1
 | false=>exact hb pins s1 σ H1 D I1 q1
def tNever:TS:=fun _ _ _=>False
theorem ps_never:PS X st tNever:=fun _ _ _ _ _ _ h=>h.elim
end
abbrev TG:=V→St→Hp→(St→Hp→Prop)→Prop
abbrev TGs:=List V→St→Hp→(St→Hp→Prop)→Prop
def PG (X:Cx) (target:Expr) (t:TG):Prop:=
 ∀ (pins:List (Addr×Obj)) (s:Shared) (σ:St) (H:Hp) (v:V) (u:Value) (Q:St→Hp→Prop),Inv X pins σ H s→RelV v u→t v σ H Q →
  wpAny (model X.prog X.w) X.A (assign target X.env u) (fun _ s'=>∃ σ' H',Inv X pins σ' H' s'∧Q σ' H') X.xe s
def PGs (X:Cx) (ts:List Expr) (t:TGs):Prop:=
 ∀ (pins:List (Addr×Obj)) (s:Shared) (σ:St) (H:Hp) (vs:List V) (us:List Value) (Q:St→Hp→Prop),Inv X pins σ H s→Vals vs us→t vs σ H Q →
  wpAny (model X.prog X.w) X.A (assignInOrder ((assignEach ts X.env).map (·.2)) us) (fun _ s'=>∃ σ' H',Inv X pins σ' H' s'∧Q σ' H') X.xe s
abbrev TSet:=V→V→V→Hp→(Hp→Prop)→Prop
def PSet (X:Cx) (t:TSet):Prop:=
 ∀ (pins:List (Addr×Obj)) (s:Shared) (σ:St) (H:Hp) (o i v:V) (ov iv u:Value) (Q:Hp→Prop),Inv X pins σ H s→RelV o ov→RelV i iv→RelV v u→t o i v H Q →
  wpAny (model X.prog X.w) X.A (setItem ov iv u) (fun _ s'=>∃ H',Inv X pins σ H' s'∧Q H') X.xe s
section
variable {X:Cx} {pos:Pos}
def gName (i:Nat):TG:=fun v σ H Q=>Q (σ.set i (some v)) H
theorem pg_name {i:Nat} {x:Str} (hN:X.N.Nodup) (hi:X.N[i]? = some x) (hx:Loc X.env.scope x) (hf:X.fn x = true∨X.env.scope.names.lookup x = some .local:=by first | exact .inl rfl | exact .inr rfl | assumption):PG X (.Name x pos) (gName i):=by
 intro pins s σ H v u Q I r h
 exact wpAny_assign_Name (store_ok I hN hi hx r (fun s' I'=>⟨_,H,I',h⟩) hf)
def gNil:TGs:=fun vs σ H Q=>vs = []∧Q σ H
def gCons (t:TG) (u:TGs):TGs:=fun vs σ H Q=>∃ v r,vs = v :: r∧t v σ H fun σ' H'=>u r σ' H' Q
theorem pgs_nil:PGs X [] gNil:=by
 intro pins s σ H vs us Q I r h
 obtain ⟨e,h⟩:=h
 subst e
 cases r
 exact assignInOrder_nil ⟨σ,H,I,h⟩
theorem pgs_cons {e:Expr} {es:List Expr} {t:TG} {u:TGs} (h1:PG X e t) (h2:PGs X es u)
  (hs:(assignEach (e :: es) X.env).map (·.2) = assign e X.env :: (assignEach es X.env).map (·.2):=by rfl):PGs X (e :: es) (gCons t u):=by
 intro pins s σ H vs us Q I r h
 obtain ⟨v,vr,e1,h⟩:=h
 subst e1
 cases r with
 | cons r rr=>
  rw [hs]
  refine assignInOrder_cons (thn (h1 pins s σ H _ _ _ I r h) fun _ s1 ⟨σ1,H1,I1,q1⟩=>?_)
  exact h2 pins s1 σ1 H1 _ _ Q I1 rr q1
def gTup (K:PySem.W.Frag) (n:Nat) (t:TGs):TG:=fun v σ H Q=>∃ a xs,v = .ref a∧SqT K H a xs∧xs.length = n∧t xs σ H Q
theorem pg_tup {es:List Expr} {k:Nat} {t:TGs} {n:Nat} (hc:X.calm = true) (h:PGs X es t)
  (hn:(assignEach es X.env).length = n:=by rfl) (hst:(assignEach es X.env).findIdx? (·.1) = none:=by rfl):PG X (.Tuple es k pos) (gTup X.K n t):=by
 intro pins s σ H v u Q I r hw
 obtain ⟨a,xs,e1,hq,hl,hw⟩:=hw
 subst e1
 cases r
 obtain ⟨its,rv,ht,hz⟩:=I.tuple hq
 refine assign_Tuple_tuple (I.ok.hd hc) ht (by simp [hn,← hl,rv.length]) hst fun h' hx=>?_
 have I1:Inv X pins σ H { s with heap:=h' }:=I.kept (t':=s.toks) fun b o e=>hx b o (Nat.ne_of_lt (Heap.lt_size e)) e
 exact h pins _ σ H xs _ Q I1 (by simpa using rv) hw
def gSub (to ti:TE) (t:TSet):TG:=fun v σ H Q=>to σ H fun o H1=>ti σ H1 fun i H2=>t o i v H2 fun H3=>Q σ H3
theorem pg_sub {o i:Expr} {to ti:TE} {t:TSet} (ho:PE X o to) (hi:PE X i ti) (hs:PSet X t)
  (ha:∀ v,assign (.Subscript o i pos) X.env v = (do
   let ov ← holding [v] (eval o X.env)
   let iv ← holding [v,ov] (eval i X.env)
   standAt pos
   holding [v,ov,iv] (setItem ov iv v)
   release [v,ov,iv] []):=by intro _; rfl):PG X (.Subscript o i pos) (gSub to ti t):=by
 intro pins s σ H v u Q I r h
 rw [ha]
 refine wpAny_bind (wpAny_holding (thn (ho pins s σ H _ I h) fun ov s1 ⟨x,H1,I1,r1,q1⟩=>?_))
 refine wpAny_bind (wpAny_holding (thn (hi pins s1 σ H1 _ I1 q1) fun iv s2 ⟨y,H2,I2,r2,q2⟩=>?_))
 refine wpAny_bind (wpAny_standAt (wpAny_bind (wpAny_holding (thn (hs pins s2 σ H2 x y v ov iv u _ I2 r1 r2 r q2) fun _ s3 ⟨H3,I3,q3⟩=>?_))))
 exact wpAny_release ⟨σ,H3,I3,q3⟩
def tAsg (te:TE) (g:TG):TS:=fun D σ H=>te σ H fun x H1=>g x σ H1 D.nx
theorem ps_asg {tg e:Expr} {te:TE} {g:TG} (he:PE X e te) (hg:PG X tg g) (hs:swapsWithSole [tg] e pos.line X.env = pure false:=by rfl) (hw:swappedStores [tg] e X.env = pure none:=by rfl)
  (h1:(assignEach [tg] X.env).map (·.2) = [assign tg X.env]:=by rfl):PS X (.Assign [tg] e pos) (tAsg te g):=by
 intro pins s σ H D I h
 refine wpAny_Assign_stores (thn (he pins s σ H _ I h) fun v s1 ⟨x,H1,I1,r1,q1⟩=>?_) hs hw
 rw [h1]
 exact thn (hg pins s1 σ H1 x v _ I1 r1 q1) fun _ s2 q=>q
theorem ps_set {i:Nat} {x:Str} {e:Expr} {te:TE} {pos':Pos} (hN:X.N.Nodup) (hi:X.N[i]? = some x) (hx:Loc X.env.scope x) (he:PE X e te) (hs:swapsWith e (some (.Name x pos')) pos.line X.env = pure false:=by rfl) (hf:X.fn x = true∨X.env.scope.names.lookup x = some .local:=by first | exact .inl rfl | exact .inr rfl | assumption) :
  PS X (.Assign [.Name x pos'] e pos) (tAsg te (gName i)):=by
 intro pins s σ H D I h
 refine wpAny_Assign_Name (thn (he pins s σ H _ I h) fun v s1 ⟨y,H1,I1,r1,q1⟩=>?_) hs
 exact store_ok I1 hN hi hx r1 (fun s2 I2=>⟨_,H1,I2,q1⟩) hf
def tPar (i j:Nat) (ta:TA):TS:=fun D σ H=>ta σ H fun vs H1=>∃ v w,vs = [v,w]∧D.nx ((σ.set i (some v)).set j (some w)) H1
theorem ps_par {i j:Nat} {x y:Str} {a b:Expr} {ta:TA} {px py pt:Pos} {kt k2 pt2} (hc:X.calm = true) (hN:X.N.Nodup) (hi:X.N[i]? = some x) (hj:X.N[j]? = some y) (hij:i ≠ j)
  (hx:X.env.scope.names.lookup x = some .local) (hy:X.env.scope.names.lookup y = some .local) (ha:PA X [a,b] ta)
  (hw:swappedStores [.Tuple [.Name x px,.Name y py] kt pt] (.Tuple [a,b] k2 pt2) X.env = pure (some [x,y]))
  (hs:swapsWithSole [.Tuple [.Name x px,.Name y py] kt pt] (.Tuple [a,b] k2 pt2) pos.line X.env = pure false:=by rfl) :
  PS X (.Assign [.Tuple [.Name x px,.Name y py] kt pt] (.Tuple [a,b] k2 pt2) pos) (tPar i j ta):=by
 intro pins s σ H D I h
 rw [exec_Assign_arm]
 refine wpAny_bind (wpAny_standAt ?_)
 rw [hs]
 refine wpAny_bind (wpAny_pure ?_)
 rw [if_neg (by decide)]
 refine wpAny_bind (Tuple_ (thn (ha _ pins s σ H _ I h) fun us s1 ⟨vs,H1,I1,r1,q1⟩=>?_))
 obtain ⟨v,w,e1,q1⟩:=q1
 subst e1
 obtain ⟨u1,u2,rfl,rv,rw'⟩:∃ u1 u2,us = [u1,u2]∧RelV v u1∧RelV w u2:=by
  cases r1 with
  | cons p q=>
   cases q with
   | cons p' q'=>
    cases q'
    exact ⟨_,_,rfl,p,p'⟩
 refine wpAny_newObj_type ?_ (by show 2 ≤ sizeLine; decide)
 have I2:Inv X pins σ H1 { s1 with heap:=s1.heap.push { cls:=.type "tuple",data:=.seq [u1,u2].toArray } }:=I1.kept (t':=s1.toks) fun b o e=>Heap.get?_push_of_some _ e
 rw [hw]
 refine wpAny_bind (wpAny_pure ?_)
 show wpAny (model X.prog X.w) X.A (do rule "assign.swapped-stores"; let items ← unpackItems (.ref s1.heap.objs.size) 2 none; assignInOrder [fun v=>bindName X.env y v,fun v=>bindName X.env x v] items.reverse; pure Flow.next) _ _ _
 refine wpAny_bind (wpAny_rule (wpAny_bind (unpackItems_tuple (items:=#[u1,u2]) (I.ok.hd hc) (IsTup.new s1.heap _) fun h' hx'=>?_)))
 have I3:=I2.kept (h':=h') (t':=s1.toks) fun b o e=>hx' b o (Nat.ne_of_lt (Heap.lt_size e)) e
 show wpAny _ _ (assignInOrder [fun v=>bindName X.env y v,fun v=>bindName X.env x v] [u2,u1] >>= fun _=>pure Flow.next) _ _ _
 refine wpAny_bind (assignInOrder_cons (wpAny_bindName (store_ok I3 hN hj (.inl hy) rw' (fun s2 I4=>?_) (.inr hy))))
 refine assignInOrder_cons (wpAny_bindName (store_ok I4 hN hi (.inl hx) rv (fun s3 I5=>assignInOrder_nil (wpAny_pure ?_)) (.inr hx)))
 rw [List.set_comm _ _ (Ne.symm hij)] at I5
 exact ⟨_,H1,I5,q1⟩
end
structure It where
 go:Nat→Hp→Prop
 yld:Nat→Hp→V→Hp→Prop
 stop:Nat→Hp→Prop
def FpOk (X:Cx) (pins:List (Addr×Obj)) (H:Hp) (b:Addr):Prop:=
 H b = none∧b ≠ X.env.locals∧b ∉ X.fs∧(b ∈ X.ex∨X.s₀.heap.objs.size ≤ b)∧(∀ x c,X.env.cells.lookup x = some c→c ≠ b)∧∀ p ∈ X.pn ++ pins,p.1 ≠ b
theorem Inv.fpOk {X:Cx} {pins:List (Addr×Obj)} {σ:St} {H H':Hp} {s:Shared} {b:Addr} (I:Inv X pins σ H s) (hb:s.heap.objs.size ≤ b) (hn:H' b = none):FpOk X pins H' b:=by
 refine ⟨hn,Nat.ne_of_gt (Nat.lt_of_lt_of_le I.lt hb),I.nofs hb,.inr (Nat.le_trans I.sz hb),fun x c e z=>?_,fun p hp z=>?_⟩
 ·obtain ⟨v,q⟩:=I.cell x c e
  exact absurd (Nat.lt_of_lt_of_le q.lt (by rw [z]; exact hb)) (Nat.lt_irrefl _)
 ·exact absurd (Nat.lt_of_lt_of_le (Heap.lt_size (I.pin p hp).1) (by rw [z]; exact hb)) (Nat.lt_irrefl _)
structure Turn (P:Program) (w:World) (K:PySem.W.Frag) (tg:Expr) (J:It) (fp:List Addr) (it:Addr) (tn:Nat→Heap→Prop):Prop where
 mem:it ∈ fp
 obj:∀ i h,tn i h→∀ b ∈ fp,∃ o,h.get? b = some o∧∀ v,o.data ≠ .cell v
 keep:∀ i h h',tn i h→(∀ b ∈ fp,∀ o,h.get? b = some o→h'.get? b = some o)→tn i h'
 item:∀ (X:Cx),X.prog = P→X.w = w→X.K = K→X.calm = true→∀ (i:Nat) (pins:List (Addr×Obj)) (s:Shared) (σ:St) (H:Hp) (E:Value→Shared→Prop),Inv X pins σ H s→(∀ b ∈ fp,FpOk X pins H b)→tn i s.heap→J.go i H →
  wpAny (model P w) X.A (pyNext (.ref it)) (fun r s1=>∃ u,r = some u ∧
   wpAny (model P w) X.A (letOwnedTupleGo tg (.ref it) u) (fun _ s2=>∃ x H',Inv X pins σ H' s2∧RelV x u∧J.yld i H x H'∧tn (i + 1) s2.heap∧∀ b ∈ fp,H' b = none) E s1) E s
 done:∀ (X:Cx),X.prog = P→X.w = w→X.K = K→X.calm = true→∀ (i:Nat) (pins:List (Addr×Obj)) (s:Shared) (σ:St) (H:Hp) (E:Value→Shared→Prop),Inv X pins σ H s→(∀ b ∈ fp,FpOk X pins H b)→tn i s.heap→J.stop i H →
  wpAny (model P w) X.A (pyNext (.ref it)) (fun r s1=>r = none∧Inv X pins σ H s1) E s
 self:∀ (A:Around) (i:Nat) (s:Shared) (Q:Value→Shared→Prop) (E:Value→Shared→Prop),tn i s.heap→Q (.ref it) s→wpAny (model P w) A (pyIter (.ref it)) Q E s
abbrev TI:=St→Hp→(It→Hp→Prop)→Prop
def PIE (X:Cx) (pins:List (Addr×Obj)) (σ:St) (tg:Expr) (R:It→Hp→Prop) (itv:Value) (s2:Shared):Prop:=
 ∃ (it:Addr) (fp:List Addr) (tn:Nat→Heap→Prop) (J:It) (H':Hp),itv = .ref it∧Inv X pins σ H' s2∧Turn X.prog X.w X.K tg J fp it tn∧tn 0 s2.heap∧(∀ b ∈ fp,FpOk X pins H' b)∧R J H'
def PI (X:Cx) (tg iter:Expr) (wi:TI):Prop:=
 ∀ (pins:List (Addr×Obj)) (s:Shared) (σ:St) (H:Hp) (R:It→Hp→Prop),Inv X pins σ H s→wi σ H R →
  wpAny (model X.prog X.w) X.A (eval iter X.env) (fun v s1=>wpAny (model X.prog X.w) X.A (pyIter v) (PIE X pins σ tg R) X.xe s1) X.xe s
theorem go_of {M:Model} {A:Around} {E:Value→Shared→Prop} {s:Shared} {tg:Expr} {it:Addr} {u:Value} {o:Obj} {n:String} {vs:Array Value} {Q:Unit→Shared→Prop} (ho:s.heap.get? it = some o) (hc:o.cls = .type n) (hd:o.data = .fields vs)
    (hn:["enumerate","zip","dict_itemiterator","dict_reverseitemiterator","odict_iterator","itertools.zip_longest","itertools.pairwise"].contains n = false) (hQ:Q () s):wpAny M A (letOwnedTupleGo tg (.ref it) u) Q E s:=by
  unfold letOwnedTupleGo
  cases tg <;> first
    | exact wpAny_pure hQ
    | (cases u <;> first
        | exact wpAny_pure hQ
        | (refine wpAny_bind (wpAny_load ho ?_)
           rw [hc,hd]
           show wpAny M A (if (["enumerate","zip","dict_itemiterator","dict_reverseitemiterator","odict_iterator","itertools.zip_longest","itertools.pairwise"].contains n && vs[0]? == some (rawInt _)) = true then _ else _) Q E s
           rw [if_neg (by intro h; rw [hn,Bool.false_and] at h; cases h)]
           exact wpAny_pure hQ))
def Itl (K:PySem.W.Frag) (a:Addr):It:=
 ⟨fun i H=>∃ xs x,SqL K H a xs∧xs[i]? = some x,fun i H x H'=>H' = H∧∀ xs,SqL K H a xs→xs[i]? = some x,fun i H=>∃ xs,SqL K H a xs∧xs.length ≤ i⟩
def Itt (K:PySem.W.Frag) (a:Addr):It:=
 ⟨fun i H=>∃ xs x,SqT K H a xs∧xs[i]? = some x,fun i H x H'=>H' = H∧∀ xs,SqT K H a xs→xs[i]? = some x,fun i H=>∃ xs,SqT K H a xs∧xs.length ≤ i⟩
def Itr (lo:Int) (n:Nat):It:=⟨fun i _=>i < n,fun i H x H'=>H' = H∧x = .int (lo + i),fun i _=>n ≤ i⟩
theorem turn_list {P:Program} {w:World} {K:PySem.W.Frag} {tg:Expr} (a it:Addr):Turn P w K tg (Itl K a) [it] it (fun i h=>h.IsListIter it a i) where
 mem:=by simp
 obj:=fun i h st b hb=>by
  have e:b = it:=by simpa using hb
  subst e
  obtain ⟨o,e,c,d⟩:=st
  exact ⟨o,e,fun v z=>by rw [d] at z; cases z⟩
 keep:=fun i h h' st k=>st.at fun o e=>k it (by simp) o e
 item:=by
  intro X hP hw hK hc i pins s σ H E I hf st hg
  subst hP hw hK
  obtain ⟨xs,x,hq,hx⟩:=hg
  obtain ⟨its,rv,p,hz⟩:=I.list hq
  obtain ⟨u,hu,ru⟩:=rv.get hx
  obtain ⟨f0,f1,f2,f3,f4,f5⟩:=hf it (by simp)
  refine wpAny_pyNext_list_item st p.isList (x:=u) (by simpa using hu) fun h' st' sb=>?_
  have I1:Inv X pins σ H { s with heap:=h' }:=I.turned (t':=s.toks) (fun b o hb e=>(sb.2 b hb).trans e) f0 f1 f3 f4 f5
  obtain ⟨o,e,c,d⟩:=id st'
  exact ⟨u,rfl,go_of (s:={ s with heap:=h' }) e c d (by decide) ⟨x,H,I1,ru,⟨rfl,fun ys hy=>by rw [I.list_inj hy hq]; exact hx⟩,st',fun b hb=>(hf b hb).1⟩⟩
 done:=by
  intro X hP hw hK hc i pins s σ H E I hf st hg
  subst hP hw hK
  obtain ⟨xs,hq,hx⟩:=hg
  obtain ⟨its,rv,p,hz⟩:=I.list hq
  obtain ⟨f0,f1,f2,f3,f4,f5⟩:=hf it (by simp)
  have hl:=rv.length
  exact wpAny_pyNext_list_end (I.ok.hd hc) st p.isList (by simp; omega) fun h' eb=>⟨rfl,I.turned (t':=s.toks) (fun b o hb e=>eb b o hb e) f0 f1 f3 f4 f5⟩
 self:=fun _ _ _ _ _ st h=>wpAny_pyIter_listiter st h
theorem turn_tuple {P:Program} {w:World} {K:PySem.W.Frag} {tg:Expr} (a it:Addr):Turn P w K tg (Itt K a) [it] it (fun i h=>h.IsTupleIter it a i) where
 mem:=by simp
 obj:=fun i h st b hb=>by
  have e:b = it:=by simpa using hb
  subst e
  obtain ⟨o,e,c,d⟩:=st
  exact ⟨o,e,fun v z=>by rw [d] at z; cases z⟩
 keep:=fun i h h' st k=>st.at fun o e=>k it (by simp) o e
 item:=by
  intro X hP hw hK hc i pins s σ H E I hf st hg
  subst hP hw hK
  obtain ⟨xs,x,hq,hx⟩:=hg
  obtain ⟨its,rv,p,hz⟩:=I.tuple hq
  obtain ⟨u,hu,ru⟩:=rv.get hx
  obtain ⟨f0,f1,f2,f3,f4,f5⟩:=hf it (by simp)
  refine wpAny_pyNext_tuple_item st (show s.heap.IsTuple a its.toArray from p) (x:=u) (by simpa using hu) fun h' st' sb=>?_
  have I1:Inv X pins σ H { s with heap:=h' }:=I.turned (t':=s.toks) (fun b o hb e=>(sb.2 b hb).trans e) f0 f1 f3 f4 f5
  obtain ⟨o,e,c,d⟩:=id st'
  exact ⟨u,rfl,go_of (s:={ s with heap:=h' }) e c d (by decide) ⟨x,H,I1,ru,⟨rfl,fun ys hy=>by rw [I.tuple_inj hy hq]; exact hx⟩,st',fun b hb=>(hf b hb).1⟩⟩
 done:=by
  intro X hP hw hK hc i pins s σ H E I hf st hg
  subst hP hw hK
  obtain ⟨xs,hq,hx⟩:=hg
  obtain ⟨its,rv,p,hz⟩:=I.tuple hq
  obtain ⟨f0,f1,f2,f3,f4,f5⟩:=hf it (by simp)
  have hl:=rv.length
  exact wpAny_pyNext_tuple_end (I.ok.hd hc) st (show s.heap.IsTuple a its.toArray from p) (by simp; omega) fun h' eb=>⟨rfl,I.turned (t':=s.toks) (fun b o hb e=>eb b o hb e) f0 f1 f3 f4 f5⟩
 self:=fun _ _ _ _ _ st h=>wpAny_pyIter_tupleiter st h
theorem turn_range {P:Program} {w:World} {K:PySem.W.Frag} {tg:Expr} (it:Addr) (lo:Int) (n:Nat):Turn P w K tg (Itr lo n) [it] it (fun i h=>IsRangeIter h it (lo + (i:Nat) * 1) ((n:Int) - (i:Nat)) 1) where
 mem:=by simp
 obj:=fun i h st b hb=>by
  have e:b = it:=by simpa using hb
  subst e
  exact ⟨_,st,fun v z=>by
   have z':Data.fields _ = Data.cell v:=z
   cases z'⟩
 keep:=fun i h h' st k=>k it (by simp) _ st
 item:=by
  intro X hP hw hK hc i pins s σ H E I hf st hg
  subst hP hw hK
  obtain ⟨f0,f1,f2,f3,f4,f5⟩:=hf it (by simp)
  have W:=Walks.range (prog:=X.prog) (w:=X.w) (I.ok.hd hc) it lo 1 n
  refine W.item i s _ _ hg st fun v h' tk hv st' kk=>?_
  obtain ⟨t,rfl⟩:=hv
  have I1:Inv X pins σ H { s with heap:=h',toks:=tk }:=I.turned (fun b o hb e=>kk b o (by simpa using hb) e) f0 f1 f3 f4 f5
  refine ⟨_,rfl,go_of (s:={ s with heap:=h',toks:=tk }) (n:="range_iterator") st' rfl rfl (by decide) ⟨.int (lo + i),H,I1,⟨t,?_⟩,⟨rfl,rfl⟩,st',fun b hb=>(hf b hb).1⟩⟩
  rw [Int.mul_one]
 done:=by
  intro X hP hw hK hc i pins s σ H E I hf st hg
  subst hP hw hK
  obtain ⟨f0,f1,f2,f3,f4,f5⟩:=hf it (by simp)
  exact wpAny_pyNext_range_end (I.ok.hd hc) st (by have:n ≤ i:=hg; omega) fun h' eb=>⟨rfl,I.turned (t':=s.toks) (fun b o hb e=>eb b o hb e) f0 f1 f3 f4 f5⟩
 self:=fun _ _ _ _ _ st h=>wpAny_pyIter_rangeiter st h
section
variable {X:Cx} {tg:Expr}
def iList (K:PySem.W.Frag) (tl:TE):TI:=fun σ H R=>tl σ H fun x H1=>∃ a,x = .ref a∧(∃ xs,SqL K H1 a xs)∧R (Itl K a) H1
def iTup (K:PySem.W.Frag) (tl:TE):TI:=fun σ H R=>tl σ H fun x H1=>∃ a,x = .ref a∧(∃ xs,SqT K H1 a xs)∧R (Itt K a) H1
theorem pi_list {l:Expr} {tl:TE} (hl:PE X l tl):PI X tg l (iList X.K tl):=by
 intro pins s σ H R I h
 refine thn (hl pins s σ H _ I h) fun v s1 ⟨x,H1,I1,r1,q1⟩=>?_
 obtain ⟨a,e,⟨xs,hq⟩,q⟩:=q1
 subst e
 cases r1
 obtain ⟨its,rv,p,hz⟩:=I1.list hq
 refine wpAny_pyIter_list p.isList ?_
 refine ⟨s1.heap.objs.size,[s1.heap.objs.size],_,_,H1,rfl,I1.kept (t':=s1.toks) fun b o e=>Heap.get?_push_of_some _ e,turn_list a _,⟨_,Heap.get?_push_size _ rfl,rfl,rfl⟩,fun b hb=>?_,q⟩
 have e:b = s1.heap.objs.size:=by simpa using hb
 subst e
 exact I1.fpOk (Nat.le_refl _) (I1.hok.fresh (Nat.le_refl _))
theorem pi_tup {l:Expr} {tl:TE} (hl:PE X l tl):PI X tg l (iTup X.K tl):=by
 intro pins s σ H R I h
 refine thn (hl pins s σ H _ I h) fun v s1 ⟨x,H1,I1,r1,q1⟩=>?_
 obtain ⟨a,e,⟨xs,hq⟩,q⟩:=q1
 subst e
 cases r1
 obtain ⟨its,rv,p,hz⟩:=I1.tuple hq
 refine wpAny_pyIter_tuple (show s1.heap.IsTuple a its.toArray from p) ?_
 refine ⟨s1.heap.objs.size,[s1.heap.objs.size],_,_,H1,rfl,I1.kept (t':=s1.toks) fun b o e=>Heap.get?_push_of_some _ e,turn_tuple a _,⟨_,Heap.get?_push_size _ rfl,rfl,rfl⟩,fun b hb=>?_,q⟩
 have e:b = s1.heap.objs.size:=by simpa using hb
 subst e
 exact I1.fpOk (Nat.le_refl _) (I1.hok.fresh (Nat.le_refl _))
theorem range_it {pins:List (Addr×Obj)} {σ:St} {H:Hp} {s:Shared} {R:It→Hp→Prop} {E:Value→Shared→Prop} {lo hi:Int} {t u v:Tok} {tk:Nat} (I:Inv X pins σ H s) (h1:-(2 ^ 62) ≤ lo) (h2:lo < 2 ^ 62) (h3:-(2 ^ 62) ≤ hi) (h4:hi < 2 ^ 62)
  (q:R (Itr lo (hi - lo).toNat) H):wpAny (model X.prog X.w) X.A (pyIter (.ref s.heap.objs.size)) (PIE X pins σ tg R) E { s with heap:=s.heap.push { cls:=.type "range",data:=.fields #[.int lo t,.int hi u,.int 1 v] },toks:=tk }:=by
 refine wpAny_pyIter_range (IsRange.new ..) (small_one h1 h2 h3 h4) ?_
 have I1:Inv X pins σ H { s with heap:=s.heap.push { cls:=.type "range",data:=.fields #[.int lo t,.int hi u,.int 1 v] },toks:=tk }:=I.kept fun b o e=>Heap.get?_push_of_some _ e
 refine ⟨(s.heap.push { cls:=.type "range",data:=.fields #[.int lo t,.int hi u,.int 1 v] }).objs.size,[(s.heap.push { cls:=.type "range",data:=.fields #[.int lo t,.int hi u,.int 1 v] }).objs.size],_,_,H,rfl,
  I1.kept (t':=tk) fun b o e=>Heap.get?_push_of_some _ e,turn_range _ lo (hi - lo).toNat,?_,fun b hb=>?_,q⟩
 ·have e1:lo + ((0:Nat):Int) * 1 = lo:=by simp
  have e2:(((hi - lo).toNat:Nat):Int) - ((0:Nat):Int) = Builtin.Range.rangeSize lo hi 1:=by rw [rangeSize_one]; split <;> omega
  show IsRangeIter _ _ (lo + ((0:Nat):Int) * 1) ((((hi - lo).toNat:Nat):Int) - ((0:Nat):Int)) 1
  rw [e1,e2]
  exact Heap.get?_push_size _ rfl
 ·have e:b = (s.heap.push { cls:=.type "range",data:=.fields #[.int lo t,.int hi u,.int 1 v] }).objs.size:=by simpa using hb
  subst e
  exact I1.fpOk (Nat.le_refl _) (I1.hok.fresh (Nat.le_refl _))
def iRng1 (ta:TA):TI:=fun σ H R=>ta σ H fun vs H1=>∃ j:Int,vs = [.int j]∧-(2 ^ 62) ≤ j∧j < 2 ^ 62∧R (Itr 0 j.toNat) H1
def iRng2 (ta:TA):TI:=fun σ H R=>ta σ H fun vs H1=>∃ i j:Int,vs = [.int i,.int j]∧(-(2 ^ 62) ≤ i∧i < 2 ^ 62∧-(2 ^ 62) ≤ j∧j < 2 ^ 62)∧R (Itr i (j - i).toNat) H1
theorem pi_range1 {a:Expr} {ta:TA} {p pos:Pos} (hg:Gl X "range") (hm:X.mg "range" = none) (ha:PA X [a] ta) (hs:starEach [a] X.env = [(false,eval a X.env)]:=by rfl):PI X tg (.Call (.Name "range" p) [a] [] pos) (iRng1 ta):=by
 intro pins s σ H R I h
 refine Call_ (ld_blt I hg hm boot_range (PyProof.Rows.callWith_type1 (thn (ha pos pins s σ H _ I h) fun us s1 ⟨vs,H1,I1,r1,q1⟩=>?_) hs rfl))
 obtain ⟨j,e,q1,q2,q⟩:=q1
 subst e
 cases r1 with
 | cons r rr=>
  cases rr
  obtain ⟨t,rfl⟩:=r
  exact call_range_1 (range_it I1 (by omega) (by omega) q1 q2 (by simpa using q))
theorem pi_range2 {a b:Expr} {ta:TA} {p pos:Pos} (hg:Gl X "range") (hm:X.mg "range" = none) (ha:PA X [a,b] ta) (hs:starEach [a,b] X.env = [(false,eval a X.env),(false,eval b X.env)]:=by rfl) (hs2:starEach [b] X.env = [(false,eval b X.env)]:=by rfl) :
  PI X tg (.Call (.Name "range" p) [a,b] [] pos) (iRng2 ta):=by
 intro pins s σ H R I h
 refine Call_ (ld_blt I hg hm boot_range (PyProof.Rows.callWith_type1 (thn (ha pos pins s σ H _ I h) fun us s1 ⟨vs,H1,I1,r1,q1⟩=>?_) (by rw [hs,hs2]) (by rw [hs2]; rfl)))
 obtain ⟨i,j,e,⟨q1,q2,q3,q4⟩,q⟩:=q1
 subst e
 cases r1 with
 | cons r rr=>
  cases rr with
  | cons r' rr=>
   cases rr
   obtain ⟨t,rfl⟩:=r
   obtain ⟨t',rfl⟩:=r'
   exact call_range_2 (range_it I1 q1 q2 q3 q4 q)
def tFor (wi:TI) (g:TG) (tb:TS):TS:=fun D σ H=>wi σ H fun J H1=>∃ W:Nat→Nat→St→Hp→Prop,(∃ m,W 0 m σ H1)∧∀ i m σ H,W i m σ H →
 (J.stop i H∧D.nx σ H)∨(J.go i H∧∃ N:St→Hp→Prop,(∀ σ' H',N σ' H'→∃ m',m' < m∧W (i + 1) m' σ' H')∧∀ x H',J.yld i H x H'→g x σ H' fun σ2 H2=>tb { D with nx:=N,ct:=N,bk:=D.nx } σ2 H2)
def pinsAt (fp:List Addr) (h:Heap):List (Addr×Obj):=fp.filterMap fun b=>(h.get? b).map fun o=>(b,o)
theorem mem_pinsAt {fp:List Addr} {h:Heap} {b:Addr} {o:Obj} (hb:b ∈ fp) (e:h.get? b = some o):(b,o) ∈ pinsAt fp h:=List.mem_filterMap.mpr ⟨b,hb,by rw [e]; rfl⟩
theorem of_pinsAt {fp:List Addr} {h:Heap} {p:Addr×Obj} (hp:p ∈ pinsAt fp h):p.1 ∈ fp∧h.get? p.1 = some p.2:=by
 obtain ⟨b,hb,e⟩:=List.mem_filterMap.mp hp
 cases q:h.get? b with
 | none=>rw [q] at e; cases e
 | some o=>
  rw [q] at e
  have e':(b,o) = p:=Option.some.inj e
  subst e'
  exact ⟨hb,q⟩
theorem Inv.pinned {pins:List (Addr×Obj)} {σ:St} {H:Hp} {s:Shared} {fp:List Addr} (I:Inv X pins σ H s) (hf:∀ b ∈ fp,FpOk X pins H b) (ho:∀ b ∈ fp,∃ o,s.heap.get? b = some o∧∀ v,o.data ≠ .cell v):Inv X (pins ++ pinsAt fp s.heap) σ H s:=
 I.pins_of fun p hp=>(List.mem_append.mp hp).elim (fun z=>I.pin p (List.mem_append_right _ z)) fun z=>by
  obtain ⟨hb,e⟩:=of_pinsAt z
  obtain ⟨f0,f1,f2,_⟩:=hf p.1 hb
  obtain ⟨o,e',d⟩:=ho p.1 hb
  rw [e] at e'; cases e'
  exact ⟨e,f0,f1,f2,d⟩
theorem Inv.unpinned {pins pl:List (Addr×Obj)} {σ:St} {H:Hp} {s:Shared} (I:Inv X (pins ++ pl) σ H s):Inv X pins σ H s:=I.pins_of fun p hp=>I.pin p (List.mem_append_right _ (List.mem_append_left _ hp))
theorem ps_for {iter:Expr} {body:List Stmt} {wi:TI} {g:TG} {tb:TS} {pos:Pos} (hp:PassesOwn (model X.prog X.w) X.A X.env X.xe) (hc:X.calm = true) (hi:PI X tg iter wi) (hg:PG X tg g) (hb:PSs X body tb)
  (hs:∀ x,foldedSetIterable iter X.env x = pure x:=by intro _; rfl):PS X (.For tg iter body [] pos) (tFor wi g tb):=by
 intro pins s σ H D I h
 refine wpAny_For (thn (hi pins s σ H _ I h) fun v s1 h1=>thn h1 fun itv s2 h2=>?_) hs
 obtain ⟨it,fp,tn,J,H2,e,I2,T,st2,f2,W,⟨m0,w0⟩,turn⟩:=h2
 subst e
 -- what stays true of the iterator's objects through the loop
 have stat:∀ {H':Hp},(∀ b ∈ fp,H' b = none)→∀ b ∈ fp,FpOk X pins H' b:=fun hn b hb=>⟨hn b hb,(f2 b hb).2⟩
 refine codeAny_forLoop_any (fun n s'=>∃ i σ' H',Inv X pins σ' H' s'∧tn i s'.heap∧(∀ b ∈ fp,H' b = none)∧W i n σ' H') ?_ m0 ⟨0,σ,H2,I2,st2,fun b hb=>(f2 b hb).1,w0⟩
 rintro n s3 ⟨i,σ3,H3,I3,st3,fr3,w3⟩
 rcases turn i n σ3 H3 w3 with ⟨stop,qn⟩ | ⟨go,N,hN,step⟩
 ·refine wpAny_passesOwn hp (thn (T.done X rfl rfl rfl hc i pins s3 σ3 H3 X.xe I3 (stat fr3) st3 stop) fun r s4 ⟨hr,I4⟩=>?_)
  subst hr
  exact wpAny_execs_nil ⟨σ3,H3,I4,qn⟩
 ·refine wpAny_passesOwn hp (thn (T.item X rfl rfl rfl hc i pins s3 σ3 H3 X.xe I3 (stat fr3) st3 go) fun r s4 ⟨u,hr,h4⟩=>?_)
  subst hr
  refine wpAny_passesOwn hp (thn h4 fun _ s5 ⟨x,H5,I5,r5,y5,st5,fr5⟩=>?_)
  have I5':=I5.pinned (stat fr5) (T.obj _ _ st5)
  refine wpAny_passesOwn hp (thn (hg _ s5 σ3 H5 x u _ I5' r5 (step x H5 y5)) fun _ s6 ⟨σ6,H6,I6,q6⟩=>?_)
  refine wpAny_passesOwn hp (thn (hb _ s6 σ6 H6 _ I6 q6) fun f s7 q7=>?_)
  have again:∀ {σ7:St} {H7:Hp},Inv X (pins ++ pinsAt fp s5.heap) σ7 H7 s7→N σ7 H7→∃ m,m < n∧∃ i σ' H',Inv X pins σ' H' s7∧tn i s7.heap∧(∀ b ∈ fp,H' b = none)∧W i m σ' H':=fun {σ7 H7} I7 n7=>by
   obtain ⟨m',hm,w7⟩:=hN σ7 H7 n7
   refine ⟨m',hm,i + 1,σ7,H7,I7.unpinned,T.keep _ _ _ st5 fun b hb o e=>(I7.pin (b,o) (List.mem_append_right _ (List.mem_append_right _ (mem_pinsAt hb e)))).1,fun b hb=>?_,w7⟩
   obtain ⟨o,e,d⟩:=T.obj _ _ st5 b hb
   exact (I7.pin (b,o) (List.mem_append_right _ (List.mem_append_right _ (mem_pinsAt hb e)))).2.1
  cases f with
  | next=>obtain ⟨σ7,H7,I7,n7⟩:=q7; exact again I7 n7
  | cont=>obtain ⟨σ7,H7,I7,n7⟩:=q7; exact again I7 n7
  | brk=>obtain ⟨σ7,H7,I7,q7⟩:=q7; exact ⟨σ7,H7,I7.unpinned,q7⟩
  | ret v=>obtain ⟨x7,σ7,H7,I7,r7,q7⟩:=q7; exact ⟨x7,σ7,H7,I7.unpinned,r7,q7⟩
end
theorem for_list {K:PySem.W.Frag} {a:Addr} {xs:List V} {g:TG} {tb:TS} {D:Ends} {σ:St} {H:Hp} (Pv:Nat→St→Hp→Prop) (h0:Pv 0 σ H) (hl:∀ i σ H,i ≤ xs.length→Pv i σ H→SqL K H a xs)
  (hs:∀ i x σ H,xs[i]? = some x→Pv i σ H→g x σ H fun σ2 H2=>tb { D with nx:=Pv (i + 1),ct:=Pv (i + 1),bk:=D.nx } σ2 H2) (hd:∀ σ H,Pv xs.length σ H→D.nx σ H) :
  ∃ W:Nat→Nat→St→Hp→Prop,(∃ m,W 0 m σ H)∧∀ i m σ H,W i m σ H →
   ((Itl K a).stop i H∧D.nx σ H)∨((Itl K a).go i H∧∃ N:St→Hp→Prop,(∀ σ' H',N σ' H'→∃ m',m' < m∧W (i + 1) m' σ' H')∧∀ x H',(Itl K a).yld i H x H'→g x σ H' fun σ2 H2=>tb { D with nx:=N,ct:=N,bk:=D.nx } σ2 H2):=by
 refine ⟨fun i m σ H=>m = xs.length - i∧i ≤ xs.length∧Pv i σ H,⟨xs.length,by simp,Nat.zero_le _,h0⟩,?_⟩
 rintro i m σ H ⟨rfl,hi,p⟩
 have q:=hl i σ H hi p
 by_cases hlt:i < xs.length
 ·refine .inr ⟨⟨xs,xs[i],q,by simp [hlt]⟩,Pv (i + 1),fun σ' H' p'=>⟨xs.length - (i + 1),by omega,rfl,hlt,p'⟩,fun x H' y=>?_⟩
  obtain ⟨e,y⟩:=y
  subst e
  exact hs i x σ _ (y xs q) p
 ·have e:i = xs.length:=by omega
  subst e
  exact .inl ⟨⟨xs,q,Nat.le_refl _⟩,hd σ H p⟩
theorem for_range {lo:Int} {n:Nat} {g:TG} {tb:TS} {D:Ends} {σ:St} {H:Hp} (Pv:Nat→St→Hp→Prop) (h0:Pv 0 σ H)
  (hs:∀ i σ H,i < n→Pv i σ H→g (.int (lo + i)) σ H fun σ2 H2=>tb { D with nx:=Pv (i + 1),ct:=Pv (i + 1),bk:=D.nx } σ2 H2) (hd:∀ σ H,Pv n σ H→D.nx σ H) :
  ∃ W:Nat→Nat→St→Hp→Prop,(∃ m,W 0 m σ H)∧∀ i m σ H,W i m σ H →
   ((Itr lo n).stop i H∧D.nx σ H)∨((Itr lo n).go i H∧∃ N:St→Hp→Prop,(∀ σ' H',N σ' H'→∃ m',m' < m∧W (i + 1) m' σ' H')∧∀ x H',(Itr lo n).yld i H x H'→g x σ H' fun σ2 H2=>tb { D with nx:=N,ct:=N,bk:=D.nx } σ2 H2):=by
 refine ⟨fun i m σ H=>m = n - i∧i ≤ n∧Pv i σ H,⟨n,by simp,Nat.zero_le _,h0⟩,?_⟩
 rintro i m σ H ⟨rfl,hi,p⟩
 by_cases hlt:i < n
 ·refine .inr ⟨hlt,Pv (i + 1),fun σ' H' p'=>⟨n - (i + 1),by omega,rfl,hlt,p'⟩,fun x H' y=>?_⟩
  obtain ⟨e,y⟩:=y
  subst e y
  exact hs i σ _ hlt p
 ·have e:i = n:=by omega
  subst e
  exact .inl ⟨Nat.le_refl _,hd σ H p⟩
abbrev R2:=V→V→Hp→VK→Prop
def OpR (X:Cx) (f:Value→Value→Sem Value) (r:R2):Prop:=
 ∀ (pins:List (Addr×Obj)) (s:Shared) (σ:St) (H:Hp) (x y:V) (v u:Value) (Q:VK),Inv X pins σ H s→RelV x v→RelV y u→r x y H Q →
  wpAny (model X.prog X.w) X.A (f v u) (EP X pins σ Q) X.xe s
def UnR (X:Cx) (f:Value→Sem Value) (r:V→Hp→VK→Prop):Prop:=
 ∀ (pins:List (Addr×Obj)) (s:Shared) (σ:St) (H:Hp) (x:V) (v:Value) (Q:VK),Inv X pins σ H s→RelV x v→r x H Q →
  wpAny (model X.prog X.w) X.A (f v) (EP X pins σ Q) X.xe s
def CallR (X:Cx) (f:Value) (r:List V→Hp→VK→Prop):Prop:=
 ∀ (pins:List (Addr×Obj)) (s:Shared) (σ:St) (H:Hp) (xs:List V) (us:List Value) (Q:VK),Inv X pins σ H s→Vals xs us→r xs H Q →
  wpAny (model X.prog X.w) X.A (call f us) (EP X pins σ Q) X.xe s
def TruR (X:Cx) (r:V→Hp→(Bool→Hp→Prop)→Prop):Prop:=
 ∀ (pins:List (Addr×Obj)) (s:Shared) (σ:St) (H:Hp) (x:V) (v:Value) (Q:Bool→Hp→Prop),Inv X pins σ H s→RelV x v→r x H Q →
  wpAny (model X.prog X.w) X.A (truthy v) (TP X pins σ Q) X.xe s
def tOp (r:R2) (ta tb:TE):TE:=fun σ H Q=>ta σ H fun x H1=>tb σ H1 fun y H2=>r x y H2 Q
def tUn (r:V→Hp→VK→Prop) (ta:TE):TE:=fun σ H Q=>ta σ H fun x H1=>r x H1 Q
def rI (C:Int→Int→Prop) (g:Int→Int→V):R2:=fun x y H Q=>∃ i j,x = .int i∧y = .int j∧C i j∧Q (g i j) H
def rI0 (g:Int→Int→V):R2:=fun x y H Q=>∃ i j,x = .int i∧y = .int j∧Q (g i j) H
def rU (g:Int→V):V→Hp→VK→Prop:=fun x H Q=>∃ i,x = .int i∧Q (g i) H
section
variable {X:Cx} {a b c:Expr} {ta tb tc:TE} {pos:Pos}
theorem binT (ha:PE X a ta) (hb:PE X b tb) {pins:List (Addr×Obj)} {s:Shared} {σ:St} {H:Hp} {R:V→V→Hp→Prop} (I:Inv X pins σ H s)
  (h:ta σ H fun x H1=>tb σ H1 fun y H2=>R x y H2) {Q:Value→Shared→Prop} {f:Value→Value→Sem Value}
  (hf:∀ v u s2 x y H2,Inv X pins σ H2 s2→RelV x v→RelV y u→R x y H2→wpAny (model X.prog X.w) X.A (f v u) Q X.xe s2) :
  wpAny (model X.prog X.w) X.A (eval a X.env) (fun v s₁=>wpAny (model X.prog X.w) X.A (eval b X.env) (fun u s₂=>wpAny (model X.prog X.w) X.A (f v u) Q X.xe s₂) X.xe s₁) X.xe s:=by
 refine thn (ha pins s σ H _ I h) fun v s1 ⟨x,H1,I1,r1,q1⟩=>?_
 refine thn (hb pins s1 σ H1 _ I1 q1) fun u s2 ⟨y,H2,I2,r2,q2⟩=>?_
 exact hf v u s2 x y H2 I2 r1 r2 q2
theorem pe_op {op:Operator} {r:R2} (ho:OpR X (binaryOp op) r) (ha:PE X a ta) (hb:PE X b tb):PE X (.BinOp a op b pos) (tOp r ta tb):=by
 intro pins s σ H Q I h
 exact wpAny_BinOp (binT ha hb I h fun v u s2 x y H2 I2 rx ry q=>ho pins s2 σ H2 x y v u Q I2 rx ry q)
theorem pe_un {op:UnaryOp} {r:V→Hp→VK→Prop} (ho:UnR X (unaryOp op) r) (ha:PE X a ta):PE X (.UnaryOp op a pos) (tUn r ta):=by
 intro pins s σ H Q I h
 exact UnaryOp_ (thn (ha pins s σ H _ I h) fun v s1 ⟨x,H1,I1,r1,q1⟩=>ho pins s1 σ H1 x v Q I1 r1 q1)
theorem opI {f:Value→Value→Sem Value} {C:Int→Int→Prop} {g:Int→Int→Int}
  (rule:∀ (i j:Int) (t u:Tok) (s:Shared) (Q:Value→Shared→Prop) (E:Value→Shared→Prop),C i j→Q (.int (g i j) s.toks) { s with toks:=s.toks + 1 }→wpAny (model X.prog X.w) X.A (f (.int i t) (.int j u)) Q E s) :
  OpR X f (rI C fun i j=>.int (g i j)):=by
 intro pins s σ H x y v u Q I rx ry h
 obtain ⟨i,j,rfl,rfl,hc,q⟩:=h
 obtain ⟨t,rfl⟩:=rx
 obtain ⟨t',rfl⟩:=ry
 exact rule i j t t' s _ _ hc ⟨.int (g i j),H,I.tok _,⟨_,rfl⟩,q⟩
theorem opI0 {f:Value→Value→Sem Value} {g:Int→Int→Int}
  (rule:∀ (i j:Int) (t u:Tok) (s:Shared) (Q:Value→Shared→Prop) (E:Value→Shared→Prop),Q (.int (g i j) s.toks) { s with toks:=s.toks + 1 }→wpAny (model X.prog X.w) X.A (f (.int i t) (.int j u)) Q E s) :
  OpR X f (rI0 fun i j=>.int (g i j)):=by
 intro pins s σ H x y v u Q I rx ry h
 obtain ⟨i,j,rfl,rfl,q⟩:=h
 obtain ⟨t,rfl⟩:=rx
 obtain ⟨t',rfl⟩:=ry
 exact rule i j t t' s _ _ ⟨.int (g i j),H,I.tok _,⟨_,rfl⟩,q⟩
theorem opB0 {f:Value→Value→Sem Value} {g:Int→Int→Bool}
  (rule:∀ (i j:Int) (t u:Tok) (s:Shared) (Q:Value→Shared→Prop) (E:Value→Shared→Prop),Q (.bool (g i j)) s→wpAny (model X.prog X.w) X.A (f (.int i t) (.int j u)) Q E s) :
  OpR X f (rI0 fun i j=>.bl (g i j)):=by
 intro pins s σ H x y v u Q I rx ry h
 obtain ⟨i,j,rfl,rfl,q⟩:=h
 obtain ⟨t,rfl⟩:=rx
 obtain ⟨t',rfl⟩:=ry
 exact rule i j t t' s _ _ ⟨.bl (g i j),H,I,rfl,q⟩
def CPow (i j:Int):Prop:=0 ≤ j∧j ≤ 1000000∧i.natAbs < 2 ^ 64
def CMul (i j:Int):Prop:=(-(2 ^ 64) < i∧i < 2 ^ 64)∨(-(2 ^ 64) < j∧j < 2 ^ 64)
theorem CMul.ok {i j:Int} (h:CMul i j):IntMulOk i j:=by
 rcases h with ⟨h1,h2⟩ | ⟨h1,h2⟩
 ·exact .of_left (intBits_le_64 h1 h2)
 ·exact .of_right (intBits_le_64 h1 h2)
theorem op_add:OpR X (binaryOp .Add) (rI0 fun i j=>.int (i + j)):=opI0 fun _ _ _ _ _ _ _ q=>add_int q
theorem op_sub:OpR X (binaryOp .Sub) (rI0 fun i j=>.int (i - j)):=opI0 fun _ _ _ _ _ _ _ q=>sub_int q
theorem op_mul:OpR X (binaryOp .Mult) (rI CMul fun i j=>.int (i * j)):=opI fun _ _ _ _ _ _ _ hc q=>mul_int q hc.ok
theorem op_mod:OpR X (binaryOp .Mod) (rI (fun _ j=>0 < j) fun i j=>.int (i % j)):=opI fun i j _ _ _ _ _ hc q=>by
 have h1:(0:Int) < j:=hc
 exact mod_int' (by omega) (by rw [Int.fmod_eq_emod_of_nonneg i (by omega)]; exact q)
theorem op_pow:OpR X (binaryOp .Pow) (rI CPow fun i j=>.int (i ^ j.toNat)):=opI fun _ _ _ _ _ _ _ hc q=>pow_int_small hc.1 hc.2.1 hc.2.2 q
theorem unI {f:Value→Sem Value} {g:Int→Int}
  (rule:∀ (i:Int) (t:Tok) (s:Shared) (Q:Value→Shared→Prop) (E:Value→Shared→Prop),Q (.int (g i) s.toks) { s with toks:=s.toks + 1 }→wpAny (model X.prog X.w) X.A (f (.int i t)) Q E s) :
  UnR X f (rU fun i=>.int (g i)):=by
 intro pins s σ H x v Q I rx h
 obtain ⟨i,rfl,q⟩:=h
 obtain ⟨t,rfl⟩:=rx
 exact rule i t s _ _ ⟨.int (g i),H,I.tok _,⟨_,rfl⟩,q⟩
theorem un_neg:UnR X (unaryOp .USub) (rU fun i=>.int (-i)):=unI fun _ _ _ _ _ q=>neg_int q
end
def scal:V→V→Bool
 | .non,.non=>true | .non,.int _=>true | .int _,.non=>true | .non,.bl _=>true | .bl _,.non=>true | .non,.str _=>true | .str _,.non=>true
 | .int _,.int _=>true | .bl _,.bl _=>true | .str _,.str _=>true | .byt _,.byt _=>true
 | .int _,.str _=>true | .str _,.int _=>true | .bl _,.str _=>true | .str _,.bl _=>true
 | _,_=>false
def rEq:R2:=fun x y H Q=>scal x y = true∧Q (.bl (decide (x = y))) H
def rNe:R2:=fun x y H Q=>scal x y = true∧Q (.bl (!decide (x = y))) H
theorem dec_int {i j:Int}:decide (V.int i = V.int j) = (i == j):=by
 rw [Bool.eq_iff_iff]
 simp
theorem dec_bl {i j:Bool}:decide (V.bl i = V.bl j) = (i == j):=by
 rw [Bool.eq_iff_iff]
 simp
theorem dec_str {i j:Str}:decide (V.str i = V.str j) = (i == j):=by
 rw [Bool.eq_iff_iff]
 simp
theorem dec_byt {i j:Array UInt8}:decide (V.byt i = V.byt j) = (i.toList == j.toList):=by
 rw [Bool.eq_iff_iff]
 cases i
 cases j
 simp
section
variable {X:Cx} {a b c:Expr} {ta tb tc:TE} {pos:Pos}
theorem fin_bl {pins:List (Addr×Obj)} {σ:St} {H:Hp} {s:Shared} {Q:VK} {k k':Bool} (I:Inv X pins σ H s) (q:Q (.bl k) H) (e:k = k'):EP X pins σ Q (.bool k') s:=by
 subst e
 exact ⟨.bl k,H,I,rfl,q⟩
theorem op_eq:OpR X (compareOp .Eq) rEq:=by
 intro pins s σ H x y v u Q I rx ry h
 obtain ⟨hs,q⟩:=h
 cases x with
 | non=>
  cases rx
  cases y with
  | non=>cases ry; exact PySem.EqNone.eq_none_none (fin_bl I q (by simp))
  | bl j=>cases ry; exact PySem.EqNone.eq_none_bool (fin_bl I q (by simp))
  | int j=>obtain ⟨t',rfl⟩:=ry; exact PySem.EqNone.eq_none_int (fin_bl I q (by simp))
  | str j=>obtain ⟨t',rfl⟩:=ry; exact PySem.EqNone.eq_none_str (fin_bl I q (by simp))
  | _=>exact absurd (show false = true from hs) Bool.false_ne_true
 | bl i=>
  cases rx
  cases y with
  | non=>cases ry; exact PySem.EqNone.eq_bool_none (fin_bl I q (by simp))
  | bl j=>cases ry; exact eq_bool (fin_bl I q dec_bl)
  | str j=>obtain ⟨t',rfl⟩:=ry; exact PySem.EqMixed.eq_bool_str (fin_bl I q (by simp))
  | _=>exact absurd (show false = true from hs) Bool.false_ne_true
 | int i=>
  obtain ⟨t,rfl⟩:=rx
  cases y with
  | non=>cases ry; exact PySem.EqNone.eq_int_none (fin_bl I q (by simp))
  | int j=>obtain ⟨t',rfl⟩:=ry; exact eq_int (fin_bl I q dec_int)
  | str j=>obtain ⟨t',rfl⟩:=ry; exact PySem.EqMixed.eq_int_str (fin_bl I q (by simp))
  | _=>exact absurd (show false = true from hs) Bool.false_ne_true
 | str i=>
  obtain ⟨t,rfl⟩:=rx
  cases y with
  | non=>cases ry; exact PySem.EqNone.eq_str_none (fin_bl I q (by simp))
  | bl j=>cases ry; exact PySem.EqMixed.eq_str_bool (fin_bl I q (by simp))
  | int j=>obtain ⟨t',rfl⟩:=ry; exact PySem.EqMixed.eq_str_int (fin_bl I q (by simp))
  | str j=>obtain ⟨t',rfl⟩:=ry; exact eq_str (fin_bl I q dec_str)
  | _=>exact absurd (show false = true from hs) Bool.false_ne_true
 | byt i=>
  obtain ⟨t,rfl⟩:=rx
  cases y with
  | byt j=>obtain ⟨t',rfl⟩:=ry; exact PySem.W.eq_bytes (fin_bl I q dec_byt)
  | _=>exact absurd (show false = true from hs) Bool.false_ne_true
 | _=>cases y <;> exact absurd (show false = true from hs) Bool.false_ne_true
theorem op_ne:OpR X (compareOp .NotEq) rNe:=by
 intro pins s σ H x y v u Q I rx ry h
 obtain ⟨hs,q⟩:=h
 cases x with
 | non=>
  cases rx
  cases y with
  | non=>cases ry; exact PySem.EqNone.ne_none_none (fin_bl I q (by simp))
  | bl j=>cases ry; exact PySem.EqNone.ne_none_bool (fin_bl I q (by simp))
  | int j=>obtain ⟨t',rfl⟩:=ry; exact PySem.EqNone.ne_none_int (fin_bl I q (by simp))
  | str j=>obtain ⟨t',rfl⟩:=ry; exact PySem.EqNone.ne_none_str (fin_bl I q (by simp))
  | _=>exact absurd (show false = true from hs) Bool.false_ne_true
 | bl i=>
  cases rx
  cases y with
  | non=>cases ry; exact PySem.EqNone.ne_bool_none (fin_bl I q (by simp))
  | bl j=>cases ry; exact ne_bool (fin_bl I q (congrArg not dec_bl))
  | str j=>obtain ⟨t',rfl⟩:=ry; exact PySem.EqMixed.ne_bool_str (fin_bl I q (by simp))
  | _=>exact absurd (show false = true from hs) Bool.false_ne_true
 | int i=>
  obtain ⟨t,rfl⟩:=rx
  cases y with
  | non=>cases ry; exact PySem.EqNone.ne_int_none (fin_bl I q (by simp))
  | int j=>obtain ⟨t',rfl⟩:=ry; exact ne_int (fin_bl I q (congrArg not dec_int))
  | str j=>obtain ⟨t',rfl⟩:=ry; exact PySem.EqMixed.ne_int_str (fin_bl I q (by simp))
  | _=>exact absurd (show false = true from hs) Bool.false_ne_true
 | str i=>
  obtain ⟨t,rfl⟩:=rx
  cases y with
  | non=>cases ry; exact PySem.EqNone.ne_str_none (fin_bl I q (by simp))
  | bl j=>cases ry; exact PySem.EqMixed.ne_str_bool (fin_bl I q (by simp))
  | int j=>obtain ⟨t',rfl⟩:=ry; exact PySem.EqMixed.ne_str_int (fin_bl I q (by simp))
  | str j=>obtain ⟨t',rfl⟩:=ry; exact ne_str (fin_bl I q (congrArg not dec_str))
  | _=>exact absurd (show false = true from hs) Bool.false_ne_true
 | byt i=>
  obtain ⟨t,rfl⟩:=rx
  cases y with
  | byt j=>obtain ⟨t',rfl⟩:=ry; exact PySem.W.ne_bytes (fin_bl I q (congrArg not dec_byt))
  | _=>exact absurd (show false = true from hs) Bool.false_ne_true
 | _=>cases y <;> exact absurd (show false = true from hs) Bool.false_ne_true
theorem op_lt:OpR X (compareOp .Lt) (rI0 fun i j=>.bl (decide (i < j))):=opB0 fun _ _ _ _ _ _ _ q=>lt_int q
theorem op_le:OpR X (compareOp .LtE) (rI0 fun i j=>.bl (decide (i ≤ j))):=opB0 fun _ _ _ _ _ _ _ q=>le_int q
theorem op_gt:OpR X (compareOp .Gt) (rI0 fun i j=>.bl (decide (j < i))):=opB0 fun _ _ _ _ _ _ _ q=>gt_int q
theorem op_ge:OpR X (compareOp .GtE) (rI0 fun i j=>.bl (decide (j ≤ i))):=opB0 fun _ _ _ _ _ _ _ q=>ge_int q
theorem op_isN:OpR X (compareOp .Is) (fun x y H Q=>y = .non∧Q (.bl (decide (x = .non))) H):=by
 intro pins s σ H x y v u Q I rx ry h
 obtain ⟨rfl,q⟩:=h
 cases ry
 refine is_none_gen (fin_bl I q ?_)
 cases x <;> first
  | (cases rx; rfl)
  | (obtain ⟨t,rfl⟩:=rx; rfl)
theorem op_notN:OpR X (compareOp .IsNot) (fun x y H Q=>y = .non∧Q (.bl (!decide (x = .non))) H):=by
 intro pins s σ H x y v u Q I rx ry h
 obtain ⟨rfl,q⟩:=h
 cases ry
 refine isnot_none_gen (fin_bl I q ?_)
 cases x <;> first
  | (cases rx; rfl)
  | (obtain ⟨t,rfl⟩:=rx; rfl)
theorem nomark (b:Expr) {op:CmpOp} (h:op ≠ .In:=by decide) (h2:op ≠ .NotIn:=by decide):behindInMarks op b = false:=by
 have e1:(op == CmpOp.In) = false:=by cases op <;> first | rfl | exact absurd rfl h
 have e2:(op == CmpOp.NotIn) = false:=by cases op <;> first | rfl | exact absurd rfl h2
 cases b <;> simp [behindInMarks,e1,e2]
theorem pe_cmpR {op:CmpOp} {r:R2} (ho:OpR X (compareOp op) r) (ha:PE X a ta) (hb:PE X b tb) (hm:behindInMarks op b = false):PE X (.Compare a [op] [b] pos) (tOp r ta tb):=by
 intro pins s σ H Q I h
 exact wpAny_Compare1 (binT ha hb I h fun v u s2 x y H2 I2 rx ry q=>ho pins s2 σ H2 x y v u Q I2 rx ry q) hm
def tTest (t:TE):TT:=fun σ H Q=>t σ H fun x H'=>∃ k,x = .bl k∧Q k H'
theorem pt_cmpR {op:CmpOp} {r:R2} (ho:OpR X (compareOp op) r) (ha:PE X a ta) (hb:PE X b tb) (hm:behindInMarks op b = false):PT X (.Compare a [op] [b] pos) (tTest (tOp r ta tb)):=by
 intro pins s σ H Q I h
 refine wpAny_isTrue_Compare1 (thn (ha pins s σ H _ I h) fun v s1 ⟨x,H1,I1,r1,q1⟩=>thn (hb pins s1 σ H1 _ I1 q1) fun u s2 ⟨y,H2,I2,r2,q2⟩=>
  thn (ho pins s2 σ H2 x y v u _ I2 r1 r2 q2) fun c s3 ⟨z,H3,I3,r3,k,e,q3⟩=>?_) hm
 subst e
 cases r3
 exact wpAny_truthy_bool ⟨H3,I3,q3⟩
def tChain (r r':R2) (ta tb tc:TE):TE:=fun σ H Q=>ta σ H fun x H1=>tb σ H1 fun y H2=>r x y H2 fun z H3=>∃ k,z = .bl k ∧
 (if k = true then tc σ H3 fun w' H4=>r' y w' H4 Q else Q (.bl false) H3)
theorem pe_chain {op op':CmpOp} {r r':R2} (ho:OpR X (compareOp op) r) (ho':OpR X (compareOp op') r') (ha:PE X a ta) (hb:PE X b tb) (hc:PE X c tc)
  (hm:lastMarks [op,op'] [b,c] = false:=by with_unfolding_all rfl):PE X (.Compare a [op,op'] [b,c] pos) (tChain r r' ta tb tc):=by
 intro pins s σ H Q I h
 refine Compare_chain (thn (ha pins s σ H _ I h) fun v s1 ⟨x,H1,I1,r1,q1⟩=>chain_link (thn (hb pins s1 σ H1 _ I1 q1) fun u s2 ⟨y,H2,I2,r2,q2⟩=>
  thn (ho pins s2 σ H2 x y v u _ I2 r1 r2 q2) fun d s3 ⟨z,H3,I3,r3,k,e,q3⟩=>?_)) hm
 subst e
 cases r3
 refine wpAny_truthy_bool ?_
 cases k with
 | false=>exact ite_ff ⟨.bl false,H3,I3,rfl,q3⟩
 | true=>exact ite_tt (chain_last (thn (hc pins s3 σ H3 _ I3 q3) fun w' s4 ⟨z',H4,I4,r4,q4⟩=>ho' pins s4 σ H4 y z' u w' Q I4 r2 r4 q4))
def TruV (K:PySem.W.Frag) (x:V) (H:Hp) (k:Bool):Prop:=
 match x with
 | .non=>k = false
 | .bl b=>k = b
 | .int i=>k = (i != 0)
 | .str y=>y.length ≤ sizeLine∧k = ((y.length:Int) != 0)
 | .byt y=>y.size ≤ sizeLine∧k = ((y.size:Int) != 0)
 | .ref p=>(∃ xs,SqL K H p xs∧k = !xs.isEmpty)∨(∃ xs,SqT K H p xs∧k = !xs.isEmpty)∨∃ kvs,H p = some (.dK kvs)∧k = !kvs.isEmpty
 | _=>False
theorem isEmpty_kv {κ:Type} {kvs:List (κ×V)} {vs:List (κ×Value)} (r:KV kvs vs):(!vs.isEmpty) = !kvs.isEmpty:=by
 cases r <;> rfl
theorem isEmpty_of {xs:List V} {its:List Value} (r:Vals xs its):(!its.toArray.isEmpty) = !xs.isEmpty:=by
 cases r <;> simp
theorem line63:(sizeLine:Nat) < 2 ^ 63:=by rw [sizeLine_eq]; decide
theorem tru_ok:TruR X (fun x H Q=>∃ k,TruV X.K x H k∧Q k H):=by
 intro pins s σ H x v Q I rx h
 obtain ⟨k,e,q⟩:=h
 have hl:=line63
 have hs:sizeLine = 16777216:=sizeLine_eq
 cases x with
 | non=>
  cases rx
  have e':k = false:=e
  subst e'
  exact truthy_none ⟨H,I,q⟩
 | bl b=>
  cases rx
  have e':k = b:=e
  subst e'
  exact wpAny_truthy_bool ⟨H,I,q⟩
 | int i=>
  obtain ⟨t,rfl⟩:=rx
  have e':k = (i != 0):=e
  subst e'
  exact PySem.P.truthy_int ⟨H,I,q⟩
 | str y=>
  obtain ⟨t,rfl⟩:=rx
  obtain ⟨hy,e'⟩:y.length ≤ sizeLine∧k = ((y.length:Int) != 0):=e
  subst e'
  exact PySem.P.truthy_str (by omega) ⟨H,I.tok _,q⟩
 | byt y=>
  obtain ⟨t,rfl⟩:=rx
  obtain ⟨hy,e'⟩:y.size ≤ sizeLine∧k = ((y.size:Int) != 0):=e
  subst e'
  exact PySem.W.truthy_bytes (by omega) ⟨H,I.tok _,q⟩
 | ref p=>
  cases rx
  have e':(∃ xs,SqL X.K H p xs∧k = !xs.isEmpty)∨(∃ xs,SqT X.K H p xs∧k = !xs.isEmpty)∨∃ kvs,H p = some (.dK kvs)∧k = !kvs.isEmpty:=e
  rcases e' with ⟨xs,hx,e'⟩ | ⟨xs,hx,e'⟩ | ⟨kvs,hx,e'⟩
  ·subst e'
   obtain ⟨its,r,pl,hz⟩:=I.list hx
   have hlen:=r.length
   exact wpAny_truthy_list pl.isList (by simp only [List.size_toArray]; omega) ⟨H,I.tok _,by rw [isEmpty_of r]; exact q⟩
  ·subst e'
   obtain ⟨its,r,pl,hz⟩:=I.tuple hx
   have hlen:=r.length
   exact truthy_tuple pl (by simp only [List.size_toArray]; omega) ⟨H,I.tok _,by rw [isEmpty_of r]; exact q⟩
  ·subst e'
   obtain ⟨hz,hS,vs,r,m⟩:kvs.length ≤ sizeLine∧(p == sysModules) = false∧∃ vs,KV kvs vs∧s.heap.DictOf (mixKind X.prog X.w) p vs:=I.hok p _ hx
   have hlen:kvs.length = vs.length:=Paired.length r
   exact wpAny_truthy_dict hS m (by omega) ⟨H,I.tok _,by rw [isEmpty_kv r]; exact q⟩
 | _=>exact (show False from e).elim
theorem pt_truth (ha:PE X a ta) (he:∀ whole,isTrue a X.env whole = (do let v ← whole; standAt a.pos; holding [v] (truthy v))) :
  PT X a (fun σ H Q=>ta σ H fun x H'=>∃ k,TruV X.K x H' k∧Q k H'):=by
 intro pins s σ H Q I h
 exact isTrue_plain (thn (ha pins s σ H _ I h) fun v s1 ⟨x,H1,I1,r1,q1⟩=>tru_ok pins s1 σ H1 x v Q I1 r1 q1) (he _)
theorem vals1 {x:V} {us:List Value} (r:Vals [x] us):∃ u,us = [u]∧RelV x u:=by
 cases r with
 | cons r1 r2=>cases r2; exact ⟨_,rfl,r1⟩
theorem vals2 {x y:V} {us:List Value} (r:Vals [x,y] us):∃ u w',us = [u,w']∧RelV x u∧RelV y w':=by
 cases r with
 | cons r1 r2=>
  cases r2 with
  | cons r3 r4=>cases r4; exact ⟨_,_,rfl,r1,r3⟩
theorem call_max2 (hc:X.calm = true):CallR X (.builtin "max") (fun xs H Q=>∃ i j,xs = [.int i,.int j]∧Q (.int (if j > i then j else i)) H):=by
 intro pins s σ H xs us Q I r h
 obtain ⟨i,j,rfl,q⟩:=h
 obtain ⟨u,w',rfl,⟨t,rfl⟩,⟨t',rfl⟩⟩:=vals2 r
 refine max_two_ints (I.ok.hd hc) fun h' tk k=>⟨_,H,I.kept k,?_,q⟩
 by_cases hj:j > i
 ·rw [if_pos hj,if_pos hj]; exact ⟨_,rfl⟩
 ·rw [if_neg hj,if_neg hj]; exact ⟨_,rfl⟩
theorem call_min2 (hc:X.calm = true):CallR X (.builtin "min") (fun xs H Q=>∃ i j,xs = [.int i,.int j]∧Q (.int (if j < i then j else i)) H):=by
 intro pins s σ H xs us Q I r h
 obtain ⟨i,j,rfl,q⟩:=h
 obtain ⟨u,w',rfl,⟨t,rfl⟩,⟨t',rfl⟩⟩:=vals2 r
 refine min_two_ints (I.ok.hd hc) fun h' tk k=>⟨_,H,I.kept k,?_,q⟩
 by_cases hj:j < i
 ·rw [if_pos hj,if_pos hj]; exact ⟨_,rfl⟩
 ·rw [if_neg hj,if_neg hj]; exact ⟨_,rfl⟩
theorem call_int1:CallR X (.type "int") (fun xs H Q=>(∃ i,xs = [.int i]∧Q (.int i) H)∨∃ k,xs = [.bl k]∧Q (.int (if k then 1 else 0)) H):=by
 intro pins s σ H xs us Q I r h
 rcases h with ⟨i,rfl,q⟩ | ⟨k,rfl,q⟩
 ·obtain ⟨u,rfl,t,rfl⟩:=vals1 r
  exact call_int_int ⟨.int i,H,I,⟨_,rfl⟩,q⟩
 ·obtain ⟨u,rfl,r1⟩:=vals1 r
  cases r1
  exact call_int_bool ⟨.int (if k then 1 else 0),H,I.tok _,⟨_,rfl⟩,q⟩
end
structure ObjM (h:Heap) (x dx C:Addr) (mA:Str→Option Value):Prop where
 obj:h.get? x = some (PySem.W.instObj C dx)
 ns:h.Ns1 dx mA
 ne:dx ≠ x
theorem lookIn_ns {h:Heap} {dx:Addr} {mA:Str→Option Value} (n:h.Ns1 dx mA):∃ od,h.get? dx = some od∧∀ name,PySem.W.lookIn name od = some (mA name):=by
 obtain ⟨o,es,ep,ho,hd,hk,_,hm⟩:=n
 refine ⟨o,ho,fun name=>?_⟩
 have e:=hm name
 unfold nsFind findBy at e
 rw [← Array.find?_toList] at e
 unfold PySem.W.lookIn
 rw [hd]
 dsimp only
 split
 ·rename_i y q
  rw [q] at e
  exact congrArg some e
 ·rename_i q
  rw [q] at e
  have a:es.toList.any (·.refKey) = false:=by
   rw [List.any_eq_false]
   intro y hy
   obtain ⟨z,t,hkey⟩:=hk y (Array.mem_toList_iff.mp hy)
   simp [DictEntry.refKey,hkey]
  have a':¬ es.toList.any (·.refKey) = true:=by rw [a]; exact Bool.false_ne_true
  rw [if_neg a']
  exact congrArg some e
theorem ObjM.look {h:Heap} {x dx C:Addr} {mA:Str→Option Value} (I:ObjM h x dx C mA):∃ od,PySem.W.InstAt h x (PySem.W.instObj C dx) C (some od)∧∀ name,PySem.W.lookIn name od = some (mA name):=
 let ⟨od,ho,hl⟩:=lookIn_ns I.ns
 ⟨od,⟨I.obj,rfl,rfl,ho⟩,hl⟩
section
variable {prog:Program} {w:World} {A:Around} {E:Value→Shared→Prop} {s:Shared} {K:PySem.W.Frag} {x dx C f:Addr} {mA:Str→Option Value} {name:Str} {v:Value}
theorem get_map {expr:Bool} {Q:Value→Shared→Prop} (X:K.In s.heap) (I:ObjM s.heap x dx C mA) (hg:PySem.W.plainGet K C name = true) (hh:PySem.W.hasDictIn K C = true)
  (ha:PySem.W.findIn K (.ref C) name = some none) (hv:mA name = some v) (hv':PySem.W.handedIn v = true) (h:Q v { s with toks:=s.toks + 1 }) :
  wpAny (model prog w) A (getAttr (.ref x) name expr) Q E s:=by
 obtain ⟨od,J,hl⟩:=I.look
 exact PySem.W.get_value X J (PySem.W.plainGet_of hg).1 (PySem.W.findObj_own hh ha rfl (by rw [hl,hv])) hv' h
theorem get_meth {pl:Sem Bool} {Q:Value×List Value→Shared→Prop} (X:K.In s.heap) (I:ObjM s.heap x dx C mA) (hg:PySem.W.plainGet K C name = true)
  (hf:PySem.W.findIn K (.ref C) name = some (some (.ref f))) (ht:PySem.W.isFn K (.ref f) = true) (hv:mA name = none) (h:Q (.ref f,[.ref x]) s) :
  wpAny (model prog w) A (getMethod (.ref x) name pl) Q E s:=by
 obtain ⟨od,J,hl⟩:=I.look
 exact PySem.W.method_fn X J (PySem.W.plainGet_of hg).1 (PySem.W.plainGet_of hg).2 hf (beq_iff_eq.mp ht) (by show (PySem.W.lookIn name od).map (·.isSome) = some false; rw [hl,hv]; rfl) h
theorem set_map {ns:List Str} {Q:Unit→Shared→Prop} (X:K.In s.heap) (I:ObjM s.heap x dx C mA)
  (hs:PySem.W.findIn K (.ref C) "__setattr__" = some (some (.builtin "object.__setattr__"))) (hp:PySem.W.plainOver K C = true) (ht:PySem.W.takerIn K C name = some none) (hh:PySem.W.hasDictIn K C = true)
  (hw:PySem.Within mA ns) (hsz:ns.length ≤ sizeLine)
  (h:∀ h',ObjM h' x dx C (fun y=>if y = name then some v else mA y)→Heap.SameBut dx s.heap h'→Q () { s with heap:=h',toks:=s.toks + 2 }) :
  wpAny (model prog w) A (setAttr (.ref x) name v) Q E s:=by
 obtain ⟨od,J,hl⟩:=I.look
 refine PySem.W.set_plain X J hs (PySem.W.osa_open (s:={ s with toks:=s.toks + 1 }) (r:=none) X J hp ht fun b=>?_)
 obtain ⟨cd,hc,hd'⟩:=PySem.W.any_some hh
 have hx:s.heap.get? x = some ⟨.ref C,some dx,.plain,#[]⟩:=I.obj
 refine wpAny_bind (wpAny_pure (wpAny_bind (wpAny_bind (wpAny_loadPart hx (wpAny_bind (PySem.W.Looks.here (s:={ s with toks:=s.toks + 1 }) (PySem.W.looks_clsIn X hc) ?_))))))
 rw [hd']
 refine wpAny_pure (a:=some dx) (wpAny_bind (wpAny_pure (wpAny_bind ?_)))
 refine wpAny_nsSet1 (s:={ s with toks:=s.toks + 1 }) I.ns fun h' hn2 hs2=>?_
 obtain ⟨oD,esD,epD,hoD,hdD,hcD⟩:=hn2.count (PySem.Within.cons name v hw)
 refine wpAny_bind (wpAny_lookBehind hoD (by rw [hdD]; exact pastItsLine_dict (Nat.le_trans hcD (by rw [List.length_cons]; omega))) ?_)
 exact wpAny_pure (h _ ⟨(hs2.2 _ (Ne.symm I.ne)).trans I.obj,hn2,I.ne⟩ hs2)
theorem make_map {R:Result→Shared→Prop} {vs:List Value} {kw:List (Str×Value)} (X:K.In s.heap) (hm:PySem.W.makesIn K C = true)
  (hi:PySem.W.findIn K (.ref C) "__init__" = some (some (.ref f))) (hf:PySem.W.typeIn K (.ref f) = some (.type "function"))
  (h:codeAny (model prog w) (A.under (.builtin "type.__call__" ⟨.ref C :: vs,kw⟩)) (.call (.ref f) ⟨.ref (s.heap.objs.size + 1) :: vs,kw⟩) (PySem.W.InitBack (s.heap.objs.size + 1) R)
   { s with heap:=(s.heap.push PySem.W.emptyDict).push (PySem.W.instObj C s.heap.objs.size) }) :
  codeAny (model prog w) A (.call (.ref C) ⟨vs,kw⟩) R s:=by
 obtain ⟨hh,g,d,t,os⟩:=s
 exact PySem.W.make_core (PySem.W.makes_of X hm) (PySem.W.looks_findIn X hi) (fun self=>PySem.W.bind_fn X self hf) (.inl rfl) h
end
def putF (f:Str) (v:V):List (Str×V)→List (Str×V)
 | []=>[(f,v)]
 | (g,x) :: r=>if g = f then (g,v) :: r else (g,x) :: putF f v r
theorem lookup_putF (f g:Str) (v:V):∀ fs:List (Str×V),(putF f v fs).lookup g = if g = f then some v else fs.lookup g
 | []=>by
  show List.lookup g [(f,v)] = _
  by_cases h:g = f
  ·have hb:(g == f) = true:=beq_iff_eq.mpr h
   simp only [List.lookup,hb,if_pos h]
  ·have hb:(g == f) = false:=beq_eq_false_iff_ne.mpr h
   simp only [List.lookup,hb,if_neg h]
 | (k,x) :: r=>by
  have ih:=lookup_putF f g v r
  rw [show putF f v ((k,x) :: r) = (if k = f then (k,v) :: r else (k,x) :: putF f v r) from rfl]
  by_cases hk:k = f
  ·rw [if_pos hk]
   by_cases h:g = k
   ·have hb:(g == k) = true:=beq_iff_eq.mpr h
    simp only [List.lookup,hb,if_pos (h.trans hk)]
   ·have hb:(g == k) = false:=beq_eq_false_iff_ne.mpr h
    simp only [List.lookup,hb,if_neg (fun e:g = f=>h (e.trans hk.symm))]
  ·rw [if_neg hk]
   by_cases h:g = k
   ·have hb:(g == k) = true:=beq_iff_eq.mpr h
    simp only [List.lookup,hb,if_neg (fun e:g = f=>hk (h.symm.trans e))]
   ·have hb:(g == k) = false:=beq_eq_false_iff_ne.mpr h
    simp only [List.lookup,hb]
    exact ih
theorem keys_putF (f:Str) (v:V):∀ fs:List (Str×V),f ∈ (putF f v fs).map (·.1)∧∀ g,g ∈ fs.map (·.1)→g ∈ (putF f v fs).map (·.1)
 | []=>⟨by simp [putF],fun g h=>by simp at h⟩
 | (k,x) :: r=>by
  obtain ⟨i1,i2⟩:=keys_putF f v r
  rw [show putF f v ((k,x) :: r) = (if k = f then (k,v) :: r else (k,x) :: putF f v r) from rfl]
  by_cases hk:k = f
  ·rw [if_pos hk]
   subst hk
   exact ⟨by simp,fun g h=>by simpa using h⟩
  ·rw [if_neg hk]
   refine ⟨?_,fun g h=>?_⟩
   ·rw [List.map_cons]
    exact List.mem_cons_of_mem _ i1
   ·rw [List.map_cons] at h ⊢
    rcases List.mem_cons.mp h with e | e
    ·exact List.mem_cons.mpr (.inl e)
    ·exact List.mem_cons_of_mem _ (i2 g e)
theorem length_putF (f:Str) (v:V):∀ fs:List (Str×V),(putF f v fs).length ≤ fs.length + 1
 | []=>by simp [putF]
 | (k,x) :: r=>by
  have ih:=length_putF f v r
  rw [show putF f v ((k,x) :: r) = (if k = f then (k,v) :: r else (k,x) :: putF f v r) from rfl]
  by_cases hk:k = f
  ·rw [if_pos hk,List.length_cons,List.length_cons]; omega
  ·rw [if_neg hk,List.length_cons,List.length_cons]; omega
theorem RelO.some_of {v:V} {o:Option Value} (r:RelO (some v) o):∃ u,o = some u∧RelV v u:=by
 cases o with
 | none=>exact (show False from r).elim
 | some u=>exact ⟨u,rfl,r⟩
theorem RelO.none_of {o:Option Value} (r:RelO none o):o = none:=by
 cases o with
 | none=>rfl
 | some u=>exact (show False from r).elim
theorem handed_of {v:V} {u:Value} (r:RelV v u):PySem.W.handedIn u = true:=by
 cases v with
 | non=>cases (show u = Value.none from r); rfl
 | bl b=>cases (show u = Value.bool b from r); rfl
 | int i=>obtain ⟨t,e⟩:=(show ∃ t,u = Value.int i t from r); cases e; rfl
 | str x=>obtain ⟨t,e⟩:=(show ∃ t,u = Value.str x t from r); cases e; rfl
 | byt b=>obtain ⟨t,e⟩:=(show ∃ t,u = Value.bytes b t from r); cases e; rfl
 | flt b=>obtain ⟨t,e⟩:=(show ∃ t,u = Value.float b t from r); cases e; rfl
 | ref a=>cases (show u = Value.ref a from r); rfl
 | ty n=>cases (show u = Value.type n from r); rfl
section
variable {P:Program} {w:World} {H H':Hp} {h h':Heap} {a C dx:Addr} {fs fs':List (Str×V)}
theorem ins_get (hok:HOk P w H h) (e:H a = some (.ins C dx fs)):∃ mA,ObjM h a dx C mA∧(∀ f,RelO (fs.lookup f) (mA f))∧PySem.Within mA (fs.map (·.1))∧fs.length ≤ 1000∧H dx = some (.own a):=by
 obtain ⟨d,z,ne,ob,mA,n,r,q⟩:=(show ObjOk P w H h a (.ins C dx fs) from hok a _ e)
 exact ⟨mA,⟨ob,n,ne⟩,r,q,z,d⟩
end
structure Cls (K:PySem.W.Frag) (C:Addr):Prop where
 pg:PySem.W.plainGet K C Str.empty = true
 hd:PySem.W.hasDictIn K C = true
 po:PySem.W.plainOver K C = true
 sa:PySem.W.findIn K (.ref C) "__setattr__" = some (some (.builtin "object.__setattr__"))
theorem Cls.get {K:PySem.W.Frag} {C:Addr} (c:Cls K C) (f:Str):PySem.W.plainGet K C f = true:=c.pg
def NoAttr (K:PySem.W.Frag) (C:Addr) (f:Str):Prop:=PySem.W.findIn K (.ref C) f = some none
theorem NoAttr.taker {K:PySem.W.Frag} {C:Addr} {f:Str} (n:NoAttr K C f):PySem.W.takerIn K C f = some none:=by
 unfold PySem.W.takerIn
 rw [show PySem.W.findIn K (.ref C) f = some none from n]
 rfl
structure Meth (K:PySem.W.Frag) (C:Addr) (m:Str) (f:Addr):Prop where
 at_:PySem.W.findIn K (.ref C) m = some (some (.ref f))
 fn:PySem.W.isFn K (.ref f) = true
 kp:PySem.W.keepIn K (.ref f) = true
section
variable {X:Cx} {pins:List (Addr×Obj)} {σ:St} {H:Hp} {s:Shared} {a C dx:Addr} {fs:List (Str×V)} {f:Str} {v:V} {A:Around} {E:Value→Shared→Prop}
theorem getattr_ok {b:Bool} {Q:Value→Shared→Prop} (I:Inv X pins σ H s) (e:H a = some (.ins C dx fs)) (c:Cls X.K C) (n:NoAttr X.K C f) (l:fs.lookup f = some v)
  (h:∀ u s',Inv X pins σ H s'→RelV v u→Q u s'):wpAny (model X.prog X.w) A (getAttr (.ref a) f b) Q E s:=by
 obtain ⟨mA,O,r,_,_,_⟩:=ins_get I.hok e
 obtain ⟨u,hu,ru⟩:=RelO.some_of (v:=v) (o:=mA f) (by rw [← l]; exact r f)
 exact get_map I.kIn O (c.get f) c.hd n hu (handed_of ru) (h u _ (I.tok _) ru)
theorem getmeth_ok {m:Str} {g:Addr} {pl:Sem Bool} {Q:Value×List Value→Shared→Prop} (I:Inv X pins σ H s) (e:H a = some (.ins C dx fs)) (c:Cls X.K C) (k:Meth X.K C m g) (l:fs.lookup m = none)
  (h:Q (.ref g,[.ref a]) s):wpAny (model X.prog X.w) A (getMethod (.ref a) m pl) Q E s:=by
 obtain ⟨mA,O,r,_,_,_⟩:=ins_get I.hok e
 have hn:mA m = none:=RelO.none_of (by rw [← l]; exact r m)
 exact get_meth I.kIn O (c.get m) k.at_ k.fn hn h
theorem setattr_ok {y:V} {u:Value} {Q:Unit→Shared→Prop} (I:Inv X pins σ H s) (e:H a = some (.ins C dx fs)) (c:Cls X.K C) (n:NoAttr X.K C f) (hl:fs.length < 1000) (ry:RelV y u)
  (h:∀ s',Inv X pins σ (upd H a (.ins C dx (putF f y fs))) s'→Q () s'):wpAny (model X.prog X.w) A (setAttr (.ref a) f u) Q E s:=by
 obtain ⟨mA,O,r,wi,_,ho⟩:=ins_get I.hok e
 have hz:(fs.map (·.1)).length ≤ sizeLine:=by rw [List.length_map,sizeLine_eq]; omega
 refine set_map I.kIn O c.sa c.po n.taker c.hd wi hz fun h' O' sb=>h _ ?_
 have hd:∃ o,h'.get? dx = some o:=let ⟨o,_,_,e',_⟩:=O'.ns; ⟨o,e'⟩
 refine I.write (x:=a) (e:=dx) (by rw [e]; exact True.intro) (.inr ho) (fun b q hb z=>(sb.2 b hb).trans z) hd ?_
 refine ⟨by rw [upd_ne O.ne]; exact ho,?_,O.ne,O'.obj,_,O'.ns,fun g=>?_,fun g hg=>?_⟩
 ·have:=length_putF f y fs; omega
 ·show RelO ((putF f y fs).lookup g) (if g = f then some u else mA g)
  rw [lookup_putF]
  by_cases q:g = f
  ·rw [if_pos q,if_pos q]; exact ry
  ·rw [if_neg q,if_neg q]; exact r g
 ·by_cases q:g = f
  ·rw [q]; exact (keys_putF f y fs).1
  ·refine (keys_putF f y fs).2 g (wi g fun z=>hg ?_)
   show (if g = f then some u else mA g) = none
   rw [if_neg q]; exact z
theorem Inv.made (I:Inv X pins σ H s):Inv X pins σ (upd (upd H s.heap.objs.size (.own (s.heap.objs.size + 1))) (s.heap.objs.size + 1) (.ins C s.heap.objs.size []))
  { s with heap:=(s.heap.push PySem.W.emptyDict).push (PySem.W.instObj C s.heap.objs.size) }:=by
 have e1:(s.heap.push PySem.W.emptyDict).get? s.heap.objs.size = some PySem.W.emptyDict:=Heap.get?_push_size s.heap rfl
 have e2:((s.heap.push PySem.W.emptyDict).push (PySem.W.instObj C s.heap.objs.size)).get? (s.heap.objs.size + 1) = some (PySem.W.instObj C s.heap.objs.size):=by
  have:=Heap.get?_push_size (s.heap.push PySem.W.emptyDict) (o:=PySem.W.instObj C s.heap.objs.size) rfl
  rwa [Heap.size_push] at this
 have e3:(s.heap.push PySem.W.emptyDict).Ns s.heap.objs.size (fun _=>none):=⟨PySem.W.emptyDict,#[],_,e1,rfl,(fun e he=>absurd he (by simp)),fun _=>rfl⟩
 have I1:=I.laid (a:=s.heap.objs.size) (o:=.own (s.heap.objs.size + 1)) (h':=s.heap.push PySem.W.emptyDict) (t':=s.toks) (fun b u q=>Heap.get?_push_of_some _ q) (Nat.le_refl _) ⟨_,e1⟩
 refine I1.laid (a:=s.heap.objs.size + 1) (o:=.ins C s.heap.objs.size []) (t':=s.toks) (fun b u q=>Heap.get?_push_of_some _ q) (Nat.le_of_eq (Heap.size_push _ _)) ?_
 have ne:s.heap.objs.size ≠ s.heap.objs.size + 1:=Nat.ne_of_lt (Nat.lt_succ_self _)
 refine ⟨by rw [upd_ne ne,upd_same],Nat.zero_le _,ne,e2,fun _=>none,(Heap.Ns1.of_empty e3).at fun o q=>Heap.get?_push_of_some _ q,fun _=>True.intro,fun y hy=>absurd rfl hy⟩
theorem attr_of {prog:Program} {w:World} {env:Env} {e:Expr} {f:Str} {pos:Pos} {s:Shared} {Q:Value→Shared→Prop} (hb:attributeBase e f env (eval e env) = eval e env)
  (h:wpAny (model prog w) A (eval e env) (fun o s₁=>wpAny (model prog w) A (getAttr o f true) Q E s₁) E s):wpAny (model prog w) A (eval (.Attribute e f pos) env) Q E s:=
 Attribute_any_ h (by rw [arm_eval_Attribute,hb])
end
def tFld (K:PySem.W.Frag) (ta:TE) (f:Str):TE:=fun σ H Q=>ta σ H fun x H1=>∃ a C dx fs v,x = .ref a∧H1 a = some (.ins C dx fs)∧Cls K C∧NoAttr K C f∧fs.lookup f = some v∧Q v H1
def sFld (K:PySem.W.Frag) (ta tv:TE) (f:Str):TS:=fun D σ H=>tv σ H fun y H1=>ta σ H1 fun x H2=>∃ a C dx fs,x = .ref a∧H2 a = some (.ins C dx fs)∧Cls K C∧NoAttr K C f∧fs.length < 1000 ∧
 D.nx σ (upd H2 a (.ins C dx (putF f y fs)))
def InOp (X:Cx) (op:Operator) (rd:V→V→Hp→VK→Prop):Prop:=
 ∀ (pins:List (Addr×Obj)) (s:Shared) (σ:St) (H:Hp) (x y:V) (u v:Value) (Q:VK),Inv X pins σ H s→RelV x u→RelV y v→rd x y H Q→wpAny (model X.prog X.w) X.A (inplaceOp op u v) (EP X pins σ Q) X.xe s
def sFldAug (K:PySem.W.Frag) (ta tv:TE) (rd:V→V→Hp→VK→Prop) (f:Str):TS:=fun D σ H=>ta σ H fun x H1=>∃ a C dx fs v,x = .ref a∧H1 a = some (.ins C dx fs)∧Cls K C∧NoAttr K C f∧fs.lookup f = some v ∧
 tv σ H1 fun y H2=>rd v y H2 fun z H3=>∃ dx' fs',H3 a = some (.ins C dx' fs')∧fs'.length < 1000∧D.nx σ (upd H3 a (.ins C dx' (putF f z fs')))
section
variable {X:Cx} {o e value:Expr} {f:Str} {pos pos' tpos:Pos} {ta tv:TE}
theorem pe_fld (he:PE X e ta) (hb:attributeBase e f X.env (eval e X.env) = eval e X.env):PE X (.Attribute e f pos) (tFld X.K ta f):=by
 intro pins s σ H Q I h
 refine attr_of hb (thn (he pins s σ H _ I h) fun u s1 ⟨x,H1,I1,rx,a,C,dx,fs,v,ex,ea,c,n,l,q⟩=>?_)
 subst ex
 obtain rfl:u = Value.ref a:=rx
 exact getattr_ok I1 ea c n l fun u' s2 I2 ru=>⟨v,H1,I2,ru,q⟩
theorem ps_fld (ha:PE X o ta) (hv:PE X value tv) (hs:swapsWith value (some (.Attribute o f pos')) pos.line X.env = pure false):PS X (.Assign [.Attribute o f pos'] value pos) (sFld X.K ta tv f):=by
 intro pins s σ H D I h
 refine plainObj_wpAny_Assign_Attribute (thn (hv pins s σ H _ I h) fun u s1 ⟨y,H1,I1,ry,q⟩=>thn (ha pins s1 σ H1 _ I1 q) fun ov s2 ⟨x,H2,I2,rx,a,C,dx,fs,ex,ea,c,n,l,q2⟩=>?_) hs
 subst ex
 obtain rfl:ov = Value.ref a:=rx
 exact setattr_ok I2 ea c n l ry fun s3 I3=>⟨σ,_,I3,q2⟩
theorem ps_fldaug {op:Operator} {rd:V→V→Hp→VK→Prop} (ha:PE X o ta) (hv:PE X value tv) (hop:InOp X op rd):PS X (.AugAssign (.Attribute o f tpos) op value pos) (sFldAug X.K ta tv rd f):=by
 intro pins s σ H D I h
 refine wpAny_AugAssign_AttributeAny (thn (ha pins s σ H _ I h) fun ov s1 ⟨x,H1,I1,rx,a,C,dx,fs,v,ex,ea,c,n,l,q⟩=>?_)
 subst ex
 obtain rfl:ov = Value.ref a:=rx
 refine getattr_ok I1 ea c n l fun u s2 I2 ru=>thn (hv pins s2 σ H1 _ I2 q) fun w3 s3 ⟨y,H2,I3,ry,q3⟩=>thn (hop pins s3 σ H2 v y u w3 _ I3 ru ry q3) fun w4 s4 ⟨z,H3,I4,rz,dx',fs',ea',l',q4⟩=>?_
 exact setattr_ok I4 ea' c n l' rz fun s5 I5=>⟨σ,_,I5,q4⟩
def rAdd:V→V→Hp→VK→Prop:=fun x y H Q=>∃ i j,x = .int i∧y = .int j∧Q (.int (i + j)) H
theorem in_add:InOp X .Add rAdd:=by
 rintro pins s σ H x y u v Q I rx ry ⟨i,j,rfl,rfl,q⟩
 obtain ⟨t,rfl⟩:=(show ∃ t,u = Value.int i t from rx)
 obtain ⟨t',rfl⟩:=(show ∃ t',v = Value.int j t' from ry)
 exact PyProof.Rows.iadd_int ⟨.int (i + j),H,I.tok _,⟨_,rfl⟩,q⟩
end
section
variable {X:Cx} {pins:List (Addr×Obj)} {σ:St} {H:Hp} {s:Shared} {A:Around} {E:Value→Shared→Prop} {Q:Value→Shared→Prop} {c:Value} {b:Bool}
inductive TyOf (K:PySem.W.Frag) (H:Hp):V→Value→Prop where
 | non:TyOf K H .non (.type "NoneType")
 | bl (x:Bool):TyOf K H (.bl x) (.type "bool")
 | int (i:Int):TyOf K H (.int i) (.type "int")
 | str (x:Str):TyOf K H (.str x) (.type "str")
 | flt (x:UInt64):TyOf K H (.flt x) (.type "float")
 | lst {a:Addr} {xs:List V} (e:H a = some (.lst xs)):TyOf K H (.ref a) (.type "list")
 | frz {a:Addr} {o:Obj} {xs:List V} (e:H a = some (.frz o (.lst xs))):TyOf K H (.ref a) (.type "list")
 | tup {a:Addr} {xs:List V} (e:H a = some (.tup xs)):TyOf K H (.ref a) (.type "tuple")
 | dK {a:Addr} {kvs:List (Key×V)} (e:H a = some (.dK kvs)):TyOf K H (.ref a) (.type "dict")
 | dT {a:Addr} {kvs:List (List Key×V)} (e:H a = some (.dT kvs)):TyOf K H (.ref a) (.type "dict")
 | ins {a C dx:Addr} {fs:List (Str×V)} (e:H a = some (.ins C dx fs)) (cl:Cls K C) (ha:PySem.W.findIn K (.ref C) "__class__" = some (some (.builtin "object.__class__")))
   (hn:PySem.W.specialIn K (.builtin "object.__class__") "__get__" = some (some (.builtin "getset_descriptor.__get__"))) (htk:PySem.W.takesIn K (.builtin "object.__class__") = some true)
   (hm:PySem.W.mroIn K C (.type "object") = some true):TyOf K H (.ref a) (.ref C)
theorem isinst_ok {x:V} {u t:Value} (I:Inv X pins σ H s) (rx:RelV x u) (ty:TyOf X.K H x t) (e:PySem.W.kitOne X.K t c = some b) (h:∀ tk,Q (.bool b) { s with toks:=tk }) :
  wpAny (model X.prog X.w) A (call (.builtin "isinstance") [u,c]) Q E s:=by
 cases ty with
 | non=>cases (show u = Value.none from rx); exact PySem.W.kia_one PySem.W.kitx_none I.kIn True.intro e (fun z=>nomatch z) h
 | bl y=>cases (show u = Value.bool y from rx); exact PySem.W.kia_one PySem.W.kitx_bool I.kIn True.intro e (fun z=>nomatch z) h
 | int i=>obtain ⟨t,q⟩:=(show ∃ t,u = Value.int i t from rx); cases q; exact PySem.W.kia_one PySem.W.kitx_int I.kIn True.intro e (fun z=>nomatch z) h
 | str y=>obtain ⟨t,q⟩:=(show ∃ t,u = Value.str y t from rx); cases q; exact PySem.W.kia_one PySem.W.kitx_str I.kIn True.intro e (fun z=>nomatch z) h
 | flt y=>obtain ⟨t,q⟩:=(show ∃ t,u = Value.float y t from rx); cases q; exact PySem.W.kia_one PySem.W.kitx_float I.kIn True.intro e (fun z=>nomatch z) h
 | @lst a xs ea=>
  cases (show u = Value.ref a from rx)
  obtain ⟨_,_,n,_,h1⟩:=(show ObjOk X.prog X.w H s.heap a (.lst xs) from I.hok a _ ea)
  exact PySem.W.kia_one PySem.W.kitx_list I.kIn ⟨_,h1,rfl⟩ e (fun z=>nomatch z) h
 | @frz a ob xs ea=>
  cases (show u = Value.ref a from rx)
  obtain ⟨_,_,_,n,_,h1⟩:=(show ObjOk X.prog X.w H s.heap a (.frz ob (.lst xs)) from I.hok a _ ea)
  exact PySem.W.kia_one PySem.W.kitx_list I.kIn ⟨_,h1,rfl⟩ e (fun z=>nomatch z) h
 | @tup a xs ea=>
  cases (show u = Value.ref a from rx)
  obtain ⟨_,_,_,p,_⟩:=(show ObjOk X.prog X.w H s.heap a (.tup xs) from I.hok a _ ea)
  obtain ⟨o,h1,h2,_⟩:=p
  exact PySem.W.kia_one PySem.W.kitx_tuple I.kIn ⟨o,h1,h2⟩ e (fun z=>nomatch z) h
 | @dK a kvs ea=>
  cases (show u = Value.ref a from rx)
  obtain ⟨_,_,vs,_,p⟩:=(show ObjOk X.prog X.w H s.heap a (.dK kvs) from I.hok a _ ea)
  obtain ⟨o,es,ep,h1,h2,_⟩:=p
  exact PySem.W.kia_one PySem.W.kitx_dict I.kIn ⟨o,h1,h2.1⟩ e (fun z=>nomatch z) h
 | @dT a kvs ea=>
  cases (show u = Value.ref a from rx)
  obtain ⟨_,_,xs,_,o,es,ep,h1,h2,_⟩:=(show ObjOk X.prog X.w H s.heap a (.dT kvs) from I.hok a _ ea)
  exact PySem.W.kia_one PySem.W.kitx_dict I.kIn ⟨o,h1,h2.1⟩ e (fun z=>nomatch z) h
 | @ins a C dx fs ea cl ha hn htk hm=>
  cases (show u = Value.ref a from rx)
  obtain ⟨mA,O,_⟩:=ins_get I.hok ea
  obtain ⟨od,J,_⟩:=O.look
  exact PySem.W.kia_one (PySem.W.kitx_own (cl.get _) cl.hd ha hn htk hm) I.kIn J e (fun z=>nomatch z) h
end
structure Room (k:Nat) (A:Around):Prop where
 hd:A.handled = none
 dp:A.depth + 3 * k + 5 < recursionLimit
 un:A.units + 16 * k + 200 < cLine
 gd:A.guards = some []
theorem Room.mono {j k:Nat} {A:Around} (r:Room k A) (h:j ≤ k):Room j A:=⟨r.hd,by have:=r.dp; omega,by have:=r.un; omega,r.gd⟩
theorem Room.deeper {k:Nat} {A:Around} (r:Room (k + 1) A) (env:Env):Room k (A.deeper env):=
 ⟨r.hd,by have:=r.dp; show A.depth + 1 + 3 * k + 5 < _; omega,by have:=r.un; show A.units + 3 + 16 * k + 200 < _; omega,r.gd⟩
theorem make_depth {A:Around} {C:Addr} {us:List Value} {kw:List (Str×Value)}:(A.under (.builtin "type.__call__" ⟨.ref C :: us,kw⟩)).depth = A.depth + 1:=by
 first | rfl | simp [Around.under,Code.weight,Code.isCreation,Code.isGuard,Code.isCaller,Code.frames,Code.isFrame,guardIds]
theorem make_units {A:Around} {C:Addr} {us:List Value} {kw:List (Str×Value)}:(A.under (.builtin "type.__call__" ⟨.ref C :: us,kw⟩)).units = A.units + 1:=by
 first | rfl | simp [Around.under,Code.cUnits,Code.frames,Code.isFrame]
theorem make_guards {A:Around} {C:Addr} {us:List Value} {kw:List (Str×Value)}:(A.under (.builtin "type.__call__" ⟨.ref C :: us,kw⟩)).guards = A.guards:=by
 first | rfl | simp [Around.under,Code.cUnits,Code.frames,Code.isFrame]
theorem Room.make {k:Nat} {A:Around} (r:Room (k + 1) A) (C:Addr) (us:List Value) (kw:List (Str×Value)):Room k (A.under (.builtin "type.__call__" ⟨.ref C :: us,kw⟩)):=
 ⟨r.hd,by have:=r.dp; rw [make_depth]; omega,by have:=r.un; rw [make_units]; omega,by rw [make_guards]; exact r.gd⟩
theorem Room.depth {k:Nat} {A:Around} (r:Room k A):A.depth < recursionLimit:=by have:=r.dp; omega
theorem Room.units {k:Nat} {A:Around} (r:Room k A):A.units + 64 < cLine:=by have:=r.un; omega
theorem Room.units0 {k:Nat} {A:Around} (r:Room k A):A.units < cLine:=by have:=r.un; omega
def tNil:TA:=fun _ H Q=>Q [] H
def tCons (ta:TE) (tr:TA):TA:=fun σ H Q=>ta σ H fun x H1=>tr σ H1 fun xs H2=>Q (x :: xs) H2
section
variable {X:Cx} {e:Expr} {es:List Expr} {te:TE} {t:TA} {pos:Pos}
theorem pa_nil:PA X [] tNil:=fun _ _ _ _ H Q I h=>Calls.spliced_nil ⟨[],H,I,.nil,h⟩
theorem pa_cons (ha:PE X e te) (hr:PA X es t) (hs:starEach (e :: es) X.env = (false,eval e X.env) :: starEach es X.env:=by rfl):PA X (e :: es) (tCons te t):=by
 intro pos pins s σ H Q I h
 rw [hs]
 show wpAny _ _ (spliced ((false,eval e X.env) :: backTo pos (starEach es X.env))) _ _ s
 refine Calls.spliced_cons (thn (ha pins s σ H _ I h) fun u s1 ⟨x,H1,I1,r1,q1⟩=>?_)
 exact thn (hr pos pins s1 σ H1 _ I1 q1) fun us s2 ⟨xs,H2,I2,r2,q2⟩=>⟨x :: xs,H2,I2,.cons r1 r2,q2⟩
def tTup (t:TA):TE:=fun σ H Q=>t σ H fun xs H1=>xs.length ≤ sizeLine∧∀ p,H1 p = none→Q (.ref p) (upd H1 p (.tup xs))
def tLst (t:TA):TE:=fun σ H Q=>t σ H fun xs H1=>xs.length ≤ sizeLine∧∀ p,H1 p = none→Q (.ref p) (upd H1 p (.lst xs))
theorem pe_tup {x1} (h:PA X es t):PE X (.Tuple es x1 pos) (tTup t):=by
 intro pins s σ H Q I hq
 refine wpAny_Tuple_spliced (thn (h pos pins s σ H _ I hq) fun us s1 ⟨xs,H1,I1,r,z,q⟩=>⟨by rw [← r.length]; exact z,?_⟩)
 have hf:H1 s1.heap.objs.size = none:=I1.hok.fresh (Nat.le_refl _)
 refine ⟨.ref s1.heap.objs.size,upd H1 s1.heap.objs.size (.tup xs),I1.laid (t':=s1.toks) (fun b u e=>Heap.get?_push_of_some _ e) (Nat.le_refl _) ?_,rfl,q _ hf⟩
 exact ⟨z,us,r,⟨_,Heap.get?_push_size _ rfl,rfl,_,rfl⟩,tup_nodict⟩
theorem pe_lst (h:PA X es t):PE X (.List es pos) (tLst t):=by
 intro pins s σ H Q I hq
 refine wpAny_List_spliced (thn (h pos pins s σ H _ I hq) fun us s1 ⟨xs,H1,I1,r,z,q⟩=>⟨by rw [← r.length]; exact z,?_⟩)
 have hf:H1 s1.heap.objs.size = none:=I1.hok.fresh (Nat.le_refl _)
 refine ⟨.ref s1.heap.objs.size,upd H1 s1.heap.objs.size (.lst xs),I1.laid (t':=s1.toks) (fun b u e=>Heap.get?_push_of_some _ e) (Nat.le_refl _) ?_,rfl,q _ hf⟩
 exact ⟨z,us,0,r,Heap.get?_push_size _ rfl⟩
end
abbrev Sp:=List V→Hp→VK→XK→Prop
abbrev CXT:=List Env→Hp→Shared→XK→Value→Shared→Prop
structure Env0 (P:Program) (w:World) (K:PySem.W.Frag) (mg:Str→Option Value) (base:Heap) (A:Around) (outer:List Env) (s:Shared) (H:Hp):Prop where
 frames:A.frames = some outer
 mod:Mod K mg base
 bs:∀ b o,base.get? b = some o→s.heap.get? b = some o∧H b = none
 bsz:base.objs.size ≤ s.heap.objs.size
 funs:s.heap.FunFrames base outer
 frf:∀ b ∈ frs outer,H b = none
 hok:HOk P w H s.heap
 bare:AllBare s.gens
def CE (outer:List Env) (P:Program) (w:World) (H:Hp) (s:Shared) (Q:VK) (u:Value) (s':Shared):Prop:=
 ∃ v H',s'.os = s.os∧AllBare s'.gens∧Un (frs outer) [] H H' s.heap s'.heap∧HOk P w H' s'.heap∧RelV v u∧Q v H'
def CR (CX:CXT) (outer:List Env) (P:Program) (w:World) (H:Hp) (s:Shared) (Q:VK) (E:XK) (r:Result) (s':Shared):Prop:=
 match r with
 | .ok (.ret u)=>CE outer P w H s Q u s'
 | .ok _=>False
 | .error e=>CX outer H s E e s'
structure FnOk (P:Program) (w:World) (K:PySem.W.Frag) (mg:Str→Option Value) (base:Heap) (CX:CXT) (k:Nat) (f:Addr) (fd:FuncData) (ps:List Str) (sp:Sp):Prop where
 len:∀ vs H Q E,sp vs H Q E→vs.length = ps.length
 run:∀ (A:Around) (outer:List Env) (s:Shared) (H:Hp) (args:Args) (us:List Value) (vs:List V) (Q:VK) (E:XK),Room k A→Env0 P w K mg base A outer s H→BindsTo s fd args (ps.zip us)→Vals vs us→sp vs H Q E →
  codeAny (model P w) A (.call (.ref f) args) (CR CX outer P w H s Q E) s
theorem Env0.make {P:Program} {w:World} {K:PySem.W.Frag} {mg:Str→Option Value} {base:Heap} {A:Around} {outer:List Env} {s:Shared} {H:Hp} (e:Env0 P w K mg base A outer s H) (C:Addr) (us:List Value) (kw:List (Str×Value)) :
  Env0 P w K mg base (A.under (.builtin "type.__call__" ⟨.ref C :: us,kw⟩)) outer s H:=⟨by first | exact e.frames | (simpa [Around.under,Code.envs,Code.isFrame,pushEnvs] using e.frames),e.mod,e.bs,e.bsz,e.funs,e.frf,e.hok,e.bare⟩
section
variable {X:Cx} {pins:List (Addr×Obj)} {σ:St} {H:Hp} {s s':Shared}
theorem Inv.env0 (I:Inv X pins σ H s):Env0 X.prog X.w X.K X.mg X.base X.A X.stack s H:=
 ⟨I.ok.frames,I.ok.mod,I.bs,Nat.le_trans I.ok.bsz I.sz,I.stack,I.stkFree,I.hok,I.bare⟩
theorem Inv.after {Q:VK} {u:Value} (I:Inv X pins σ H s) (h:CE X.stack X.prog X.w H s Q u s'):EP X pins σ Q u s':=by
 obtain ⟨v,H',os,bare,un,hok,r,q⟩:=h
 obtain ⟨hh,g,d,t,os'⟩:=s'
 obtain rfl:os' = s.os:=os
 exact ⟨v,H',I.call (h':=hh) (g':=g) (d':=d) (t':=t) (ch:=[]) un hok bare (fun b z=>absurd z (by simp)),r,q⟩
end
def tCall (sp:Sp) (dvs:List V) (E:XK) (t:TA):TE:=fun σ H Q=>t σ H fun vs H1=>sp (vs ++ dvs) H1 Q E
def tMeth (C:Addr) (m:Str) (sp:Sp) (dvs:List V) (E:XK) (ta:TE) (t:TA):TE:=fun σ H Q=>ta σ H fun x H1=>∃ a dx fs,x = .ref a∧H1 a = some (.ins C dx fs)∧fs.lookup m = none ∧
 t σ H1 fun vs H2=>sp (x :: (vs ++ dvs)) H2 Q E
def tMake (C:Addr) (sp:Sp) (dvs:List V) (E:XK) (t:TA):TE:=fun σ H Q=>t σ H fun vs H1=>∀ x dx,H1 x = none→H1 dx = none→dx ≠ x →
 sp (.ref x :: (vs ++ dvs)) (upd (upd H1 dx (.own x)) x (.ins C dx [])) (fun v H2=>v = .non∧Q (.ref x) H2) E
def Binds (K:PySem.W.Frag) (fd:FuncData) (ps:List Str) (ds:List Value):Prop:=
 ∀ (s:Shared) (us:List Value),K.In s.heap→(us ++ ds).length = ps.length→BindsTo s fd ⟨us,[]⟩ (ps.zip (us ++ ds))
theorem Binds.all {K:PySem.W.Frag} {fd:FuncData} {ps:List Str} (h:∀ us:List Value,us.length = ps.length→bindArgs fd ⟨us,[]⟩ = pure (ps.zip us)):Binds K fd ps []:=fun s us _ hl=>by
 rw [List.append_nil] at hl ⊢
 exact .of_eq (h us hl)
def Passes (CX:CXT) (X:Cx) (E:XK):Prop:=∀ (pins:List (Addr×Obj)) (σ:St) (H:Hp) (s:Shared) (e:Value) (s':Shared),Inv X pins σ H s→CX X.stack H s E e s'→X.xe e s'
section
variable {X:Cx} {CX:CXT} {k:Nat} {f C:Addr} {fd:FuncData} {ps:List Str} {sp:Sp} {dvs:List V} {ds:List Value} {E:XK} {x m:Str} {p pos apos:Pos} {e o:Expr} {es:List Expr} {ta:TE} {t:TA}
theorem run_fn {pins:List (Addr×Obj)} {σ:St} {H:Hp} {s:Shared} {Q:VK} {us:List Value} {vs:List V} (F:FnOk X.prog X.w X.K X.mg X.base CX k f fd ps sp) (hr:Room k X.A) (hb:Binds X.K fd ps ds) (hd:Vals dvs ds) (hx:Passes CX X E)
  (I:Inv X pins σ H s) (r:Vals vs us) (h:sp (vs ++ dvs) H Q E):wpAny (model X.prog X.w) X.A (call (.ref f) us) (EP X pins σ Q) X.xe s:=by
 have r2:Vals (vs ++ dvs) (us ++ ds):=r.append hd
 have hl:(us ++ ds).length = ps.length:=by rw [← r2.length]; exact F.len _ _ _ _ h
 refine wpAny_call (codeAny_mono (F.run X.A X.stack s H ⟨us,[]⟩ (us ++ ds) (vs ++ dvs) Q E hr I.env0 (hb s us I.kIn hl) r2 h) fun r s' hq=>?_)
 cases r with
 | error e=>exact hx pins σ H s e s' I hq
 | ok fl=>
  cases fl with
  | ret u=>exact I.after hq
  | next=>exact False.elim hq
  | brk=>exact False.elim hq
  | cont=>exact False.elim hq
theorem pe_call (F:FnOk X.prog X.w X.K X.mg X.base CX k f fd ps sp) (hr:Room k X.A) (hg:Gl X x) (hm:X.mg x = some (.ref f)) (hk:PySem.W.keepIn X.K (.ref f) = true) (hb:Binds X.K fd ps ds) (hd:Vals dvs ds) (hx:Passes CX X E)
  (ha:PA X (e :: es) t) (hdb:(x == ("__debug__" : Str)) = false:=by decide) (he:starEach (e :: es) X.env = (false,eval e X.env) :: starEach es X.env:=by rfl) (hpl:(backTo pos (starEach es X.env)).any (·.1) = false:=by rfl) :
  PE X (.Call (.Name x p) (e :: es) [] pos) (tCall sp dvs E t):=by
 intro pins s σ H Q I h
 refine wpAny_Call_Name_kw (ld_glob I hg hm ?_ hdb)
 refine PySem.W.callWith_K (h₀:=X.base) I.ok.mod.kin hk (thn (ha pos pins s σ H _ I h) fun us s1 ⟨vs,H1,I1,r,q⟩=>⟨I1.kIn,?_⟩) he hpl
 exact run_fn F hr hb hd hx I1 r q
theorem pe_meth {pl:Sem Bool} (he:PE X o ta) (c:Cls X.K C) (hm:Meth X.K C m f) (F:FnOk X.prog X.w X.K X.mg X.base CX k f fd ps sp) (hr:Room k X.A) (hb:Binds X.K fd ps ds) (hd:Vals dvs ds) (hx:Passes CX X E) (ha:PA X (e :: es) t)
  (hst:starEach (e :: es) X.env = (false,eval e X.env) :: starEach es X.env:=by rfl) (hpl:(backTo pos (starEach es X.env)).any (·.1) = false:=by rfl)
  (ht:eval (.Call (.Attribute o m apos) (e :: es) [] pos) X.env = (do
   let ov ← eval o X.env
   standAt apos.atName
   let (f,first) ← holding [ov] (getMethod ov m pl)
   callWith pos f first (backTo pos (starEach (e :: es) X.env)) (backToKw pos (keywordEach [] X.env))):=by rfl) :
  PE X (.Call (.Attribute o m apos) (e :: es) [] pos) (tMeth C m sp dvs E ta t):=by
 intro pins s σ H Q I h
 refine PySem.W.methodCall_KW (pl:=pl) (thn (he pins s σ H _ I h) fun u s1 ⟨x,H1,I1,rx,a,dx,fs,ex,ea,l,q⟩=>?_) ht
 subst ex
 obtain rfl:u = Value.ref a:=rx
 refine getmeth_ok I1 ea c hm l ?_
 refine PySem.W.callWith_K (first:=[.ref a]) (h₀:=X.base) I.ok.mod.kin hm.kp (thn (ha pos pins s1 σ H1 _ I1 q) fun us s2 ⟨vs,H2,I2,r,q2⟩=>⟨I2.kIn,?_⟩) hst hpl
 exact run_fn (us:=.ref a :: us) (vs:=.ref a :: vs) F hr hb hd hx I2 (.cons rfl r) q2
theorem pe_meth0 {pl:Sem Bool} (he:PE X o ta) (c:Cls X.K C) (hm:Meth X.K C m f) (F:FnOk X.prog X.w X.K X.mg X.base CX k f fd ps sp) (hr:Room k X.A) (hb:Binds X.K fd ps ds) (hd:Vals dvs ds) (hx:Passes CX X E)
  (ht:eval (.Call (.Attribute o m apos) [] [] pos) X.env = (do
   let ov ← eval o X.env
   standAt apos.atName
   let (f,first) ← holding [ov] (getMethod ov m pl)
   callWith pos f first (backTo pos (starEach [] X.env)) (backToKw pos (keywordEach [] X.env))):=by rfl) :
  PE X (.Call (.Attribute o m apos) [] [] pos) (tMeth C m sp dvs E ta tNil):=by
 intro pins s σ H Q I h
 refine PySem.W.methodCall_KW (pl:=pl) (thn (he pins s σ H _ I h) fun u s1 ⟨x,H1,I1,rx,a,dx,fs,ex,ea,l,q⟩=>?_) ht
 subst ex
 obtain rfl:u = Value.ref a:=rx
 refine getmeth_ok I1 ea c hm l ?_
 exact PySem.W.callWith_K0 (first:=[.ref a]) I1.kIn hm.kp (run_fn (us:=[.ref a]) (vs:=[.ref a]) F hr hb hd hx I1 (.cons rfl .nil) q)
structure Mk (K:PySem.W.Frag) (C f:Addr):Prop where
 makes:PySem.W.makesIn K C = true
 init:PySem.W.findIn K (.ref C) "__init__" = some (some (.ref f))
 fn:PySem.W.isFn K (.ref f) = true
 kp:PySem.W.keepIn K (.ref C) = true
theorem run_make {pins:List (Addr×Obj)} {σ:St} {H:Hp} {s:Shared} {Q:VK} {us:List Value} {vs:List V} (M:Mk X.K C f) (F:FnOk X.prog X.w X.K X.mg X.base CX k f fd ps sp) (hr:Room (k + 1) X.A) (hb:Binds X.K fd ps ds) (hd:Vals dvs ds)
  (hx:Passes CX X E) (I:Inv X pins σ H s) (r:Vals vs us)
  (h:∀ x dx,H x = none→H dx = none→dx ≠ x→sp (.ref x :: (vs ++ dvs)) (upd (upd H dx (.own x)) x (.ins C dx [])) (fun v H2=>v = .non∧Q (.ref x) H2) E) :
  wpAny (model X.prog X.w) X.A (call (.ref C) us) (EP X pins σ Q) X.xe s:=by
 have hq:=h (s.heap.objs.size + 1) s.heap.objs.size (I.hok.fresh (Nat.le_succ _)) (I.hok.fresh (Nat.le_refl _)) (Nat.ne_of_lt (Nat.lt_succ_self _))
 have I2:=Inv.made (C:=C) I
 have r2:Vals (V.ref (s.heap.objs.size + 1) :: (vs ++ dvs)) (Value.ref (s.heap.objs.size + 1) :: (us ++ ds)):=.cons rfl (r.append hd)
 have hl:(Value.ref (s.heap.objs.size + 1) :: us ++ ds).length = ps.length:=by
  have e:=r2.length
  rw [F.len _ _ _ _ hq] at e
  exact e.symm
 refine wpAny_call (make_map (f:=f) I.kIn M.makes M.init (beq_iff_eq.mp M.fn) (codeAny_mono (F.run _ X.stack _ _ ⟨Value.ref (s.heap.objs.size + 1) :: us,[]⟩ (Value.ref (s.heap.objs.size + 1) :: (us ++ ds)) _ _ E (hr.make C us [])
  (I2.env0.make C us []) (hb _ (Value.ref (s.heap.objs.size + 1) :: us) I2.kIn hl) r2 hq) fun r s' hq'=>?_))
 cases r with
 | error e=>exact hx pins σ _ _ e s' I2 hq'
 | ok fl=>
  cases fl with
  | ret u=>
   obtain ⟨v,H',I3,rv,ev,q3⟩:=I2.after hq'
   subst ev
   exact ⟨rv,⟨V.ref (s.heap.objs.size + 1),H',I3,rfl,q3⟩⟩
  | next=>exact False.elim hq'
  | brk=>exact False.elim hq'
  | cont=>exact False.elim hq'
theorem pe_make (M:Mk X.K C f) (F:FnOk X.prog X.w X.K X.mg X.base CX k f fd ps sp) (hr:Room (k + 1) X.A) (hg:Gl X x) (hm:X.mg x = some (.ref C)) (hb:Binds X.K fd ps ds) (hd:Vals dvs ds) (hx:Passes CX X E)
  (ha:PA X (e :: es) t) (hdb:(x == ("__debug__" : Str)) = false:=by decide) (he:starEach (e :: es) X.env = (false,eval e X.env) :: starEach es X.env:=by rfl) (hpl:(backTo pos (starEach es X.env)).any (·.1) = false:=by rfl) :
  PE X (.Call (.Name x p) (e :: es) [] pos) (tMake C sp dvs E t):=by
 intro pins s σ H Q I h
 refine wpAny_Call_Name_kw (ld_glob I hg hm ?_ hdb)
 refine PySem.W.callWith_K (h₀:=X.base) I.ok.mod.kin M.kp (thn (ha pos pins s σ H _ I h) fun us s1 ⟨vs,H1,I1,r,q⟩=>⟨I1.kIn,?_⟩) he hpl
 exact run_make M F hr hb hd hx I1 r q
theorem pe_make0 (M:Mk X.K C f) (F:FnOk X.prog X.w X.K X.mg X.base CX k f fd ps sp) (hr:Room (k + 1) X.A) (hg:Gl X x) (hm:X.mg x = some (.ref C)) (hb:Binds X.K fd ps ds) (hd:Vals dvs ds) (hx:Passes CX X E)
  (hdb:(x == ("__debug__" : Str)) = false:=by decide):PE X (.Call (.Name x p) [] [] pos) (tMake C sp dvs E tNil):=by
 intro pins s σ H Q I h
 refine wpAny_Call_Name_kw (ld_glob I hg hm ?_ hdb)
 exact PySem.W.callWith_K0 I.kIn M.kp (run_make (us:=[]) M F hr hb hd hx I .nil h)
end
def PK (X:Cx) (kws:List Keyword) (t:TA):Prop:=
 ∀ (pos:Pos) (pins:List (Addr×Obj)) (s:Shared) (σ:St) (H:Hp) (Q:List V→Hp→Prop),Inv X pins σ H s→t σ H Q→wpAny (model X.prog X.w) X.A (evalAll ((backToKw pos (keywordEach kws X.env)).map (·.2))) (AP X pins σ Q) X.xe s
section
variable {X:Cx} {CX:CXT} {k:Nat} {f C:Addr} {fd:FuncData} {ps ks:List Str} {sp:Sp} {E:XK} {x m:Str} {p pos apos kpos:Pos} {e o:Expr} {es:List Expr} {kws:List Keyword} {te ta:TE} {t tk:TA} {nm:Option Str}
theorem pk_nil:PK X [] tNil:=fun _ _ _ _ H Q I h=>wpAny_evalAll_nil ⟨[],H,I,.nil,h⟩
theorem pk_cons (ha:PE X e te) (hr:PK X kws t):PK X (⟨nm,e,kpos⟩ :: kws) (tCons te t):=by
 intro pos pins s σ H Q I h
 show wpAny _ _ (evalAll ((do let v ← eval e X.env; standAt pos; pure v) :: (backToKw pos (keywordEach kws X.env)).map (·.2))) _ _ s
 refine wpAny_evalAll_cons (wpAny_bind (thn (ha pins s σ H _ I h) fun u s1 ⟨x,H1,I1,r1,q1⟩=>wpAny_bind (wpAny_standAt (wpAny_pure ?_))))
 exact thn (hr pos pins s1 σ H1 _ I1 q1) fun us s2 ⟨xs,H2,I2,r2,q2⟩=>⟨x :: xs,H2,I2,.cons r1 r2,q2⟩
variable {g:List Value→List Value→List Value} {gV:List V→List V→List V}
end
structure FnScope (N P:List Str) (sc:Scope):Prop where
 kind:sc.kind = .function
 co:sc.isCoroutine = false
 gen:sc.isGenerator = false
 nd:N.Nodup
 pre:N.take P.length = P
 par:∀ x ∈ P,sc.names.lookup x = some .local∨sc.names.lookup x = some .cell
 nofree:∀ y ∈ sc.names,y.2 ≠ .free
theorem bindL_out {kindOf:Str→Option NameKind} {x:Str}:∀ {binds:List (Str×Value)} {m:Str→Option Value},(∀ v,(x,v) ∉ binds)→bindL kindOf binds m x = m x
 | [],_,_=>rfl
 | (n,v) :: r,m,h=>by
  unfold bindL
  rw [bindL_out fun w hw=>h w (List.mem_cons_of_mem _ hw)]
  split
  ·have:x ≠ n:=by rintro rfl; exact h v List.mem_cons_self
   simp [this]
  ·rfl
theorem bindC_out {kindOf:Str→Option NameKind} {x:Str}:∀ {binds:List (Str×Value)} {m:Str→Option Value},(∀ v,(x,v) ∉ binds)→bindC kindOf binds m x = m x
 | [],_,_=>rfl
 | (n,v) :: r,m,h=>by
  unfold bindC
  rw [bindC_out fun w hw=>h w (List.mem_cons_of_mem _ hw)]
  split
  ·rfl
  ·have:x ≠ n:=by rintro rfl; exact h v List.mem_cons_self
   simp [this]
theorem bindL_get {kindOf:Str→Option NameKind} {x:Str} {v:Value}:∀ {P:List Str} {vs:List Value} {i:Nat} {m:Str→Option Value},P.Nodup→P[i]? = some x→vs[i]? = some v→kindOf x = some .local →
  bindL kindOf (P.zip vs) m x = some v
 | [],_,_,_,_,h,_,_=>by simp at h
 | _ :: _,[],_,_,_,_,h,_=>by simp at h
 | p :: P,w :: vs,0,m,nd,h1,h2,hk=>by
  simp at h1 h2; subst h1; subst h2
  show bindL kindOf ((p,w) :: P.zip vs) m p = _
  unfold bindL
  rw [bindL_out fun v hv=>(List.nodup_cons.mp nd).1 (List.of_mem_zip hv).1,if_pos hk]
  simp
 | p :: P,w :: vs,i + 1,m,nd,h1,h2,hk=>by
  show bindL kindOf ((p,w) :: P.zip vs) m x = _
  unfold bindL
  exact bindL_get (i:=i) (List.nodup_cons.mp nd).2 (by simpa using h1) (by simpa using h2) hk
theorem bindC_get {kindOf:Str→Option NameKind} {x:Str} {v:Value}:∀ {P:List Str} {vs:List Value} {i:Nat} {m:Str→Option Value},P.Nodup→P[i]? = some x→vs[i]? = some v→kindOf x ≠ some .local →
  bindC kindOf (P.zip vs) m x = some v
 | [],_,_,_,_,h,_,_=>by simp at h
 | _ :: _,[],_,_,_,_,h,_=>by simp at h
 | p :: P,w :: vs,0,m,nd,h1,h2,hk=>by
  simp at h1 h2; subst h1; subst h2
  show bindC kindOf ((p,w) :: P.zip vs) m p = _
  unfold bindC
  rw [bindC_out fun v hv=>(List.nodup_cons.mp nd).1 (List.of_mem_zip hv).1,if_neg hk]
  simp
 | p :: P,w :: vs,i + 1,m,nd,h1,h2,hk=>by
  show bindC kindOf ((p,w) :: P.zip vs) m x = _
  unfold bindC
  exact bindC_get (i:=i) (List.nodup_cons.mp nd).2 (by simpa using h1) (by simpa using h2) hk
def start (N:List Str) (vs:List V):St:=vs.map some ++ List.replicate (N.length - vs.length) none
def cxOf (CX:CXT) (P:Program) (w:World) (K:PySem.W.Frag) (mg:Str→Option Value) (base:Heap) (N:List Str) (qual:Str) (scope:Scope) (f:Addr) (cd:Value) (A:Around) (outer:List Env) (s:Shared) (H:Hp) (E:XK):Cx where
 prog:=P
 w:=w
 K:=K
 mg:=mg
 base:=base
 A:=A.deeper (envOfC qual scope s.heap.objs.size f cd)
 N:=N
 s₀:=s
 H₀:=H
 env:=envOfC qual scope s.heap.objs.size f cd
 outer:=outer
 stack:=envOfC qual scope s.heap.objs.size f cd :: outer
 ex:=[]
 calm:=true
 fn:=fun _=>true
 pn:=[]
 xe:=fun e s'=>wpAny (model P w) (A.deeper (envOfC qual scope s.heap.objs.size f cd)) (leaving (envOfC qual scope s.heap.objs.size f cd) e) (fun _ s''=>CX outer H s E e s'') (fun e' s''=>CX outer H s E e' s'') s'
theorem cell_has {sc:Scope} {n:Nat} {x:Str} (h:sc.names.lookup x = some .cell):∃ c,(cellsFrom n sc.names []).lookup x = some c:=by
 have q:=PySem.W.cellsFrom_some sc.names n [] (.inl h)
 exact Option.isSome_iff_exists.mp q
theorem inv_start {CX:CXT} {P:Program} {w:World} {K:PySem.W.Frag} {mg:Str→Option Value} {base:Heap} {N ps:List Str} {qual:Str} {scope:Scope} {f:Addr} {cd:Value} {A:Around} {outer:List Env} {s s1:Shared} {H:Hp} {E:XK} {us:List Value} {vs:List V}
  (S:FnScope N ps scope) (hd:A.handled = none) (e0:Env0 P w K mg base A outer s H) (hl:vs.length = ps.length) (r:Vals vs us)
  (x:InCallC s s.heap.objs.size (bindL (envOfC qual scope s.heap.objs.size f cd).kindOf (ps.zip us) fun _=>none) (cellsFrom (s.heap.objs.size + 1) scope.names []) (bindC (envOfC qual scope s.heap.objs.size f cd).kindOf (ps.zip us) fun _=>none) s1) :
  Inv (cxOf CX P w K mg base N qual scope f cd A outer s H E) [] (start N vs) H s1:=by
 have hpl:ps.length ≤ N.length:=by have:=congrArg List.length S.pre; rw [List.length_take] at this; omega
 obtain ⟨h1,tk,rfl,hk⟩:=x.done
 have noA:∀ b:Addr,b ∉ (cxOf CX P w K mg base N qual scope f cd A outer s H E).ex:=fun b z=>absurd (show b ∈ ([]:List Addr) from z) (by simp)
 refine ⟨⟨e0.mod,S.kind,rfl,rfl,Nat.le_refl _,fun y z c h1 h2=>?_,fun y hy=>?_,fun y c _ h=>?_,fun _=>hd,Around.frames_deeper e0.frames,.inr ⟨rfl,rfl⟩,fun b z=>absurd z (noA b),e0.bs,e0.bsz,fun b _ _=>noA b,fun b z=>absurd z (noA b),e0.funs,e0.frf⟩,
  rfl,e0.bare,Un.kept hk,⟨_,x.toInCall.ns,fun i y v h1 h2 h3=>?_⟩,fun y c h=>⟨_,x.cell y c h⟩,e0.hok.fresh (Nat.le_refl _),fun y c h=>?_,fun p hp=>absurd (show p ∈ ([]:List (Addr×Obj)) from hp) (by simp),e0.hok.kept hk,?_⟩
 ·exact name_of_addr x.apart (PySem.mem_of_lookup h1) (PySem.mem_of_lookup h2)
 ·have hy:scope.names.lookup y = some .cell∨scope.names.lookup y = some .free:=hy
  rcases hy with hy | hy
  ·exact cell_has hy
  ·exact absurd rfl (S.nofree _ (PySem.mem_of_lookup hy))
 ·exact Nat.le_of_lt (x.above y c (PySem.mem_of_lookup h))
 ·have hi:i < vs.length:=by
   unfold start at h2
   by_cases hi:i < vs.length
   ·exact hi
   ·rw [List.getElem?_append_right (by simpa using hi)] at h2
    rw [List.getElem?_replicate] at h2
    split at h2 <;> cases h2
  have ha:vs[i]? = some v:=by
   unfold start at h2
   rw [List.getElem?_append_left (by simpa using hi),List.getElem?_map] at h2
   cases e:vs[i]? with
   | none=>rw [e] at h2; cases h2
   | some a=>rw [e] at h2; cases h2; rfl
  obtain ⟨u,hu,rv⟩:=r.get ha
  have hp:ps[i]? = some y:=by
   rw [← S.pre,List.getElem?_take_of_lt (by omega)]; exact h1
  have ndP:ps.Nodup:=by rw [← S.pre]; exact S.nd.sublist (List.take_sublist _ _)
  refine ⟨u,rv,?_⟩
  rcases S.par y (List.mem_of_getElem? hp) with k | k
  ·exact .inl ⟨k,bindL_get ndP hp hu k⟩
  ·obtain ⟨c,e⟩:=cell_has (n:=s.heap.objs.size + 1) k
   refine .inr ⟨.inl k,c,e,?_⟩
   have q:=x.cell y c e
   rw [bindC_get ndP hp hu (by show scope.names.lookup y ≠ _; rw [k]; decide)] at q
   exact q
 ·exact e0.hok.fresh (Nat.le_of_lt (x.above y c (PySem.mem_of_lookup h)))
 ·unfold start
  show _ = N.length
  rw [List.length_append,List.length_map,List.length_replicate]
  omega
theorem fn_of {CX:CXT} {P:Program} {w:World} {K:PySem.W.Frag} {mg:Str→Option Value} {base:Heap} {k:Nat} {f:Addr} {name qual:Str} {params:Arguments} {body:List Stmt} {scope:Scope} {dV kV doc pm cdv ct oc:Value} {an od:Option Addr}
  {osl:Array (Option Value)} {N ps:List Str} {sp:Sp} (lk:K.lookup f = some ⟨oc,od,.func (PySem.W.fnOf name qual params body scope dV kV doc pm an cdv ct),osl⟩) (hcd:PySem.W.codeIn K cdv qual = true) (S:FnScope N ps scope)
  (len:∀ vs H Q E,sp vs H Q E→vs.length = ps.length)
  (hbody:∀ (A:Around) (outer:List Env) (s:Shared) (H:Hp) (vs:List V) (Q:VK) (E:XK),Room k (A.deeper (envOfC qual scope s.heap.objs.size f cdv))→sp vs H Q E →
   ∃ t,PSs (cxOf CX P w K mg base N qual scope f cdv A outer s H E) body t∧t { nx:=fun _ H'=>Q .non H',rt:=Q } (start N vs) H) :
  FnOk P w K mg base CX (k + 1) f (PySem.W.fnOf name qual params body scope dV kV doc pm an cdv ct) ps sp:=by
 refine ⟨len,fun A outer s H args us vs Q E hr e0 hb r hsp=>?_⟩
 have hl:=len _ _ _ _ hsp
 have KX:K.In s.heap:=e0.mod.kin.keeps fun b o e=>(e0.bs b o e).1
 have lim:s.heap.NoLimit:=e0.mod.nolimit.keeps fun b o e=>(e0.bs b o e).1
 have hkind:∀ y ∈ ps.zip us,scope.names.lookup y.1 = some .local∨(scope.names.lookup y.1 = some .cell∧((cellsFrom (s.heap.objs.size + 1) scope.names []).lookup y.1).isSome = true):=fun ⟨n,v⟩ hy=>by
  rcases S.par n (List.of_mem_zip hy).1 with q | q
  ·exact .inl q
  ·exact .inr ⟨q,PySem.W.cellsFrom_some _ _ _ (.inl q)⟩
 refine codeAny_call_function hr.depth (KX _ _ lk) rfl S.co S.gen rfl (PySem.W.codeRec_of KX hcd) (hb _ _ _ _ ?_)
 refine wpAny_newFunctionEnv_cells S.kind hkind fun env he s1 x=>?_
 subst he
 refine ⟨lim.keeps x.toInCall.keep,codeAny_func ?_⟩
 obtain ⟨t,ht,hq⟩:=hbody A outer s H vs Q E (hr.deeper _) hsp
 have I:Inv (cxOf CX P w K mg base N qual scope f cdv A outer s H E) [] (start N vs) H s1:=inv_start S hr.hd e0 hl r x
 refine wpAny_mono (ht [] s1 (start N vs) H _ I hq) (fun fl s' hs=>?_) fun e s' hs=>hs
 have fin:∀ {σ':St} {H':Hp} {v:V} {u:Value},Inv (cxOf CX P w K mg base N qual scope f cdv A outer s H E) [] σ' H' s'→RelV v u→Q v H'→CE outer P w H s Q u s':=
  fun {σ' H' v u} J rv q=>⟨v,H',J.os,J.bare,J.base,J.hok,rv,q⟩
 cases fl with
 | ret u=>
  obtain ⟨v,σ',H',J,rv,q⟩:=hs
  exact fin J rv q
 | next=>
  obtain ⟨σ',H',J,q⟩:=hs
  exact fin (v:=V.non) (u:=Value.none) J rfl q
 | brk=>
  obtain ⟨_,_,_,q⟩:=hs
  exact False.elim q
 | cont=>
  obtain ⟨_,_,_,q⟩:=hs
  exact False.elim q
section
variable {X:Cx} {x:Str} {p pos:Pos} {e:Expr} {es:List Expr} {t:TA} {id T:String} {r:List V→Hp→VK→Prop}
def tCB (r:List V→Hp→VK→Prop) (t:TA):TE:=fun σ H Q=>t σ H fun vs H1=>r vs H1 Q
theorem pe_callB (hc:CallR X (.builtin id) r) (hg:Gl X x) (hm:X.mg x = none) (hv:bootBuiltins x = some (.builtin id)) (ha:PA X (e :: es) t) (hn:x ≠ "__name__":=by decide) (hdb:(x == ("__debug__" : Str)) = false:=by decide)
  (he:starEach (e :: es) X.env = (false,eval e X.env) :: starEach es X.env:=by rfl) (hpl:(backTo pos (starEach es X.env)).any (·.1) = false:=by rfl):PE X (.Call (.Name x p) (e :: es) [] pos) (tCB r t):=by
 intro pins s σ H Q I h
 refine wpAny_Call_Name_kw (ld_blt I hg hm hv ?_ hn hdb)
 exact PyProof.Rows.callWith_builtin1 (thn (ha pos pins s σ H _ I h) fun us s1 ⟨vs,H1,I1,r1,q1⟩=>hc pins s1 σ H1 vs us Q I1 r1 q1) he hpl
theorem pe_callTy (hc:CallR X (.type T) r) (hg:Gl X x) (hm:X.mg x = none) (hv:bootBuiltins x = some (.type T)) (ha:PA X (e :: es) t) (hn:x ≠ "__name__":=by decide) (hdb:(x == ("__debug__" : Str)) = false:=by decide)
  (he:starEach (e :: es) X.env = (false,eval e X.env) :: starEach es X.env:=by rfl) (hpl:(backTo pos (starEach es X.env)).any (·.1) = false:=by rfl):PE X (.Call (.Name x p) (e :: es) [] pos) (tCB r t):=by
 intro pins s σ H Q I h
 refine wpAny_Call_Name_kw (ld_blt I hg hm hv ?_ hn hdb)
 exact PyProof.Rows.callWith_type1 (thn (ha pos pins s σ H _ I h) fun us s1 ⟨vs,H1,I1,r1,q1⟩=>hc pins s1 σ H1 vs us Q I1 r1 q1) he hpl
end
section
variable {κ:Type} [DecidableEq κ]
def valV (kvs:List (κ×V)) (k:κ):Option V:=(kvs.find? fun kv=>decide (kv.1 = k)).map (·.2)
def putK (kvs:List (κ×V)) (k:κ) (v:V):List (κ×V):=
 if (kvs.any fun kv=>decide (kv.1 = k)) = true then kvs.map (fun kv=>if kv.1 = k then (kv.1,v) else kv) else kvs ++ [(k,v)]
def dropK (kvs:List (κ×V)) (k:κ):List (κ×V):=kvs.filter fun kv=>decide (kv.1 ≠ k)
theorem valV_pos {p:κ×V} {r:List (κ×V)} {k:κ} (e:p.1 = k):valV (p :: r) k = some p.2:=by simp [valV,List.find?_cons,e]
theorem valV_neg {p:κ×V} {r:List (κ×V)} {k:κ} (e:¬ p.1 = k):valV (p :: r) k = valV r k:=by simp [valV,List.find?_cons,e]
theorem valV_any (k:κ):∀ kvs:List (κ×V),(kvs.any fun kv=>decide (kv.1 = k)) = (valV kvs k).isSome
 | []=>rfl
 | p :: r=>by
  rw [List.any_cons]
  by_cases e:p.1 = k
  ·simp only [valV_pos e,decide_eq_true e,Bool.true_or,Option.isSome_some]
  ·rw [valV_neg e,decide_eq_false e,Bool.false_or]; exact valV_any k r
theorem length_putK (kvs:List (κ×V)) (k:κ) (v:V):(putK kvs k v).length ≤ kvs.length + 1:=by
 unfold putK
 split
 ·rw [List.length_map]; omega
 ·rw [List.length_append,List.length_cons,List.length_nil]; omega
theorem putK_new {kvs:List (κ×V)} {k:κ} (v:V) (h:valV kvs k = none):putK kvs k v = kvs ++ [(k,v)]:=by
 unfold putK
 rw [valV_any,h]
 exact if_neg (by decide)
theorem RelO.isSome_eq {o:Option V} {u:Option Value} (r:RelO o u):o.isSome = u.isSome:=by
 cases o with
 | none=>cases u with
  | none=>rfl
  | some _=>exact (show False from r).elim
 | some _=>cases u with
  | none=>exact (show False from r).elim
  | some _=>rfl
theorem KV.val {kvs:List (κ×V)} {vs:List (κ×Value)} (r:KV kvs vs) (k:κ):RelO (valV kvs k) (valueAt vs k):=by
 unfold KV at r
 induction r with
 | nil=>exact True.intro
 | @cons p q ps qs h t ih=>
  obtain ⟨h1,h2⟩:=h
  by_cases e:p.1 = k
  ·have e':q.1 = k:=h1.symm.trans e
   have b:valueAt (q :: qs) k = some q.2:=by simp [valueAt,List.find?_cons,e']
   rw [valV_pos e,b]; exact h2
  ·have e':¬ q.1 = k:=fun z=>e (h1.trans z)
   have b:valueAt (q :: qs) k = valueAt qs k:=by simp [valueAt,List.find?_cons,e']
   rw [valV_neg e,b]; exact ih
theorem KV.any {kvs:List (κ×V)} {vs:List (κ×Value)} (r:KV kvs vs) (k:κ):(kvs.any fun kv=>decide (kv.1 = k)) = vs.any fun kv=>decide (kv.1 = k):=by
 unfold KV at r
 induction r with
 | nil=>rfl
 | cons h t ih=>rw [List.any_cons,List.any_cons,ih,h.1]
theorem KV.repl {kvs:List (κ×V)} {vs:List (κ×Value)} (r:KV kvs vs) (k:κ) {y:V} {u:Value} (ry:RelV y u) :
  KV (kvs.map fun kv=>if kv.1 = k then (kv.1,y) else kv) (vs.map fun kv=>if kv.1 = k then (kv.1,u) else kv):=by
 unfold KV at r ⊢
 induction r with
 | nil=>exact .nil
 | @cons p q ps qs h t ih=>
  rw [List.map_cons,List.map_cons]
  refine .cons ?_ ih
  obtain ⟨h1,h2⟩:=h
  by_cases e:p.1 = k
  ·rw [if_pos e,if_pos (h1.symm.trans e)]; exact ⟨h1,ry⟩
  ·rw [if_neg e,if_neg (fun z=>e (h1.trans z))]; exact ⟨h1,h2⟩
theorem KV.put {kvs:List (κ×V)} {vs:List (κ×Value)} (r:KV kvs vs) (k:κ) {y:V} {u:Value} (ry:RelV y u):KV (putK kvs k y) (stored vs k u):=by
 unfold putK stored
 rw [r.any k]
 by_cases e:(vs.any fun kv=>decide (kv.1 = k)) = true
 ·rw [if_pos e,if_pos e]; exact r.repl k ry
 ·rw [if_neg e,if_neg e]; exact Paired.snoc r ⟨rfl,ry⟩
theorem KV.drop {kvs:List (κ×V)} {vs:List (κ×Value)} (r:KV kvs vs) (k:κ):KV (dropK kvs k) (without vs k):=by
 unfold KV at r ⊢
 unfold dropK without
 induction r with
 | nil=>exact .nil
 | @cons p q ps qs h t ih=>
  obtain ⟨h1,h2⟩:=h
  rw [List.filter_cons,List.filter_cons]
  by_cases e:p.1 = k
  ·have a:¬ decide (p.1 ≠ k) = true:=by simp [e]
   have b:¬ decide (q.1 ≠ k) = true:=by simp [h1.symm.trans e]
   rw [if_neg a,if_neg b]; exact ih
  ·have e':¬ q.1 = k:=fun z=>e (h1.trans z)
   have a:decide (p.1 ≠ k) = true:=by simp [e]
   have b:decide (q.1 ≠ k) = true:=by simp [e']
   rw [if_pos a,if_pos b]; exact .cons ⟨h1,h2⟩ ih
theorem KV.keys {kvs:List (κ×V)} {vs:List (κ×Value)} (r:KV kvs vs):kvs.map (·.1) = vs.map (·.1):=by
 unfold KV at r
 induction r with
 | nil=>rfl
 | cons h t ih=>rw [List.map_cons,List.map_cons,ih,h.1]
theorem KV.length {kvs:List (κ×V)} {vs:List (κ×Value)} (r:KV kvs vs):kvs.length = vs.length:=Paired.length r
theorem dropK_le (kvs:List (κ×V)) (k:κ):(dropK kvs k).length ≤ kvs.length:=List.length_filter_le _ _
end
theorem kV_is {P:Program} {w:World} {k:Key} {u:Value} (r:RelV (kV k) u):(mixKind P w).is k u = true:=by
 cases k with
 | inl i=>obtain ⟨t,e⟩:=(show ∃ t,u = Value.int i t from r); subst e; exact mixKind_int P w i t
 | inr x=>obtain ⟨t,e⟩:=(show ∃ t,u = Value.str x t from r); subst e; exact mixKind_str P w x t
theorem items_are {P:Program} {w:World}:∀ {ks:List Key} {us:List Value},Vals (ks.map kV) us→ItemsAre (mixKind P w) ks us
 | [],_,r=>by rw [List.map_nil] at r; cases r; exact .nil
 | k :: ks,_,r=>by
  rw [List.map_cons] at r
  cases r with
  | cons h t=>exact .cons (kV_is h) (items_are t)
abbrev KT (H:Hp):List (List Key×V)→List (List Key×Addr×Value)→Prop:=Paired fun p q=>p.1 = q.1∧H q.2.1 = some (.tup (p.1.map kV))∧RelV p.2 q.2.2
theorem KT.val {H:Hp} {kvs:List (List Key×V)} {xs:List (List Key×Addr×Value)} (r:KT H kvs xs) (k:List Key):RelO (valV kvs k) ((atKey xs k).map (·.2)):=by
 induction r with
 | nil=>exact True.intro
 | @cons p q ps qs h t ih=>
  obtain ⟨h1,_,h2⟩:=h
  by_cases e:p.1 = k
  ·have e':q.1 = k:=h1.symm.trans e
   have b:atKey (q :: qs) k = some q.2:=by simp [atKey,List.find?_cons,e']
   rw [valV_pos e,b]; exact h2
  ·have e':¬ q.1 = k:=fun z=>e (h1.trans z)
   have b:atKey (q :: qs) k = atKey qs k:=by simp [atKey,List.find?_cons,e']
   rw [valV_neg e,b]; exact ih
theorem KT.repl {H:Hp} {kvs:List (List Key×V)} {xs:List (List Key×Addr×Value)} (r:KT H kvs xs) (k:List Key) {y:V} {u:Value} (ry:RelV y u) :
  KT H (kvs.map fun kv=>if kv.1 = k then (kv.1,y) else kv) (xs.map (putAt k u)):=by
 induction r with
 | nil=>exact .nil
 | @cons p q ps qs h t ih=>
  rw [List.map_cons,List.map_cons]
  refine .cons ?_ ih
  obtain ⟨h1,h2,h3⟩:=h
  unfold putAt
  by_cases e:p.1 = k
  ·rw [if_pos e,if_pos (h1.symm.trans e)]; exact ⟨h1,h2,ry⟩
  ·rw [if_neg e,if_neg (fun z=>e (h1.trans z))]; exact ⟨h1,h2,h3⟩
theorem KT.put {H:Hp} {kvs:List (List Key×V)} {xs:List (List Key×Addr×Value)} (r:KT H kvs xs) (k:List Key) {b:Addr} {y:V} {u:Value} (hb:H b = some (.tup (k.map kV))) (ry:RelV y u) :
  KT H (putK kvs k y) (storedH xs k b u):=by
 have e:(kvs.any fun kv=>decide (kv.1 = k)) = (atKey xs k).isSome:=by
  rw [valV_any,(r.val k).isSome_eq,Option.isSome_map]
 unfold putK storedH
 rw [e]
 by_cases q:(atKey xs k).isSome = true
 ·rw [if_pos q,if_pos q]; exact r.repl k ry
 ·rw [if_neg q,if_neg q]; exact Paired.snoc r ⟨rfl,hb,ry⟩
theorem KT.keeps {H H':Hp} {kvs:List (List Key×V)} {xs:List (List Key×Addr×Value)} (r:KT H kvs xs) (ht:∀ b ys,H b = some (.tup ys)→H' b = some (.tup ys)):KT H' kvs xs:=
 Paired.mapP r fun _ _ z=>⟨z.1,ht _ _ z.2.1,z.2.2⟩
section
variable {P:Program} {w:World} {H:Hp} {h:Heap} {a:Addr}
theorem rd_of {u:HO} (ok:HOk P w H h) (e:Rd H a u):ObjOk P w H h a u:=e.ok ok
theorem dk_rd {kvs:List (Key×V)} (ok:HOk P w H h) (e:Rd H a (.dK kvs)):kvs.length ≤ sizeLine∧(a == sysModules) = false∧∃ vs,KV kvs vs∧h.DictOf (mixKind P w) a vs:=
 show ObjOk P w H h a (.dK kvs) from rd_of ok e
theorem dk_of {kvs:List (Key×V)} (ok:HOk P w H h) (e:H a = some (.dK kvs)):kvs.length ≤ sizeLine∧(a == sysModules) = false∧∃ vs,KV kvs vs∧h.DictOf (mixKind P w) a vs:=dk_rd ok (.inl e)
theorem key_of {ks:List Key} (ok:HOk P w H h) (e:H a = some (.tup (ks.map kV))):(tupleKind (mixKind P w)).is h ks a:=by
 obtain ⟨_,its,r,⟨o,h1,h2,n,h3⟩,_⟩:=(show ObjOk P w H h a (.tup (ks.map kV)) from ok a _ e)
 exact ⟨o,its.toArray,n,h1,h2,h3,by simpa using items_are r⟩
theorem dt_rd {kvs:List (List Key×V)} (ok:HOk P w H h) (e:Rd H a (.dT kvs)):kvs.length ≤ sizeLine∧(a == sysModules) = false ∧
  ∃ xs,KT H kvs xs∧h.DictOfH (tupleKind (mixKind P w)) a xs:=by
 obtain ⟨z,y,xs,r,o,es,ep,h1,h2,h3,h4,h5⟩:=(show ObjOk P w H h a (.dT kvs) from rd_of ok e)
 refine ⟨z,y,xs,r,o,es,ep,h1,h2,h3,h4,fun x hx=>?_,h5⟩
 have all:∀ {l:List (List Key×V)} {m:List (List Key×Addr×Value)},KT H l m→∀ x ∈ m,(tupleKind (mixKind P w)).is h x.1 x.2.1:=by
  intro l m q
  induction q with
  | nil=>intro x hx; exact nomatch hx
  | @cons p q ps qs hq t ih=>
   intro x hx
   rcases List.mem_cons.mp hx with e | hx
   ·subst e
    exact key_of ok (by rw [← hq.1]; exact hq.2.1)
   ·exact ih x hx
 exact all r x hx
theorem dt_of {kvs:List (List Key×V)} (ok:HOk P w H h) (e:H a = some (.dT kvs)):kvs.length ≤ sizeLine∧(a == sysModules) = false ∧
  ∃ xs,KT H kvs xs∧h.DictOfH (tupleKind (mixKind P w)) a xs:=dt_rd ok (.inl e)
end
def DGet (H:Hp) (a:Addr) (y:V) (r:Option V):Prop:=
 (∃ kvs k,Rd H a (.dK kvs)∧y = kV k∧r = valV kvs k)∨∃ kvs k b,Rd H a (.dT kvs)∧y = .ref b∧H b = some (.tup (k.map kV))∧r = valV kvs k
def DPut (H:Hp) (a:Addr) (y v:V) (H':Hp):Prop:=
 (∃ kvs k,H a = some (.dK kvs)∧y = kV k∧kvs.length < sizeLine∧H' = upd H a (.dK (putK kvs k v))) ∨
 ∃ kvs k b,H a = some (.dT kvs)∧y = .ref b∧H b = some (.tup (k.map kV))∧kvs.length < sizeLine∧H' = upd H a (.dT (putK kvs k v))
theorem DGet.k {H:Hp} {a:Addr} {kvs:List (Key×V)} {k:Key} (e:H a = some (.dK kvs)):DGet H a (kV k) (valV kvs k):=.inl ⟨kvs,k,.inl e,rfl,rfl⟩
theorem DPut.k {H:Hp} {a:Addr} {kvs:List (Key×V)} {k:Key} {v:V} (e:H a = some (.dK kvs)) (hl:kvs.length < sizeLine):DPut H a (kV k) v (upd H a (.dK (putK kvs k v))):=.inl ⟨kvs,k,e,rfl,hl,rfl⟩
section
variable {X:Cx} {pins:List (Addr×Obj)} {σ:St} {H:Hp} {s:Shared} {a:Addr} {y v:V} {u r:Value} {o:Option V} {A:Around} {E:Value→Shared→Prop}
theorem Inv.big (I:Inv X pins σ H s):sysModules < s.heap.objs.size:=by
 have h:mainGlobals < s.heap.objs.size:=(I.mod.glob.keeps I.bk).lt
 exact Nat.lt_trans (by decide) h
theorem d_getItem {Q:Value→Shared→Prop} (hu:A.units + 1 < cLine) (I:Inv X pins σ H s) (g:DGet H a y (some v)) (ry:RelV y u) (h:∀ w' s',Inv X pins σ H s'→RelV v w'→Q w' s') :
  wpAny (model X.prog X.w) A (getItem (.ref a) u) Q E s:=by
 rcases g with ⟨kvs,k,e,ey,l⟩ | ⟨kvs,k,b,e,ey,eb,l⟩
 ·subst ey
  obtain ⟨z,hd,vs,rel,dd⟩:=dk_rd I.hok e
  obtain ⟨w',hw,rw'⟩:=RelO.some_of (v:=v) (o:=valueAt vs k) (by rw [l]; exact rel.val k)
  exact wpAny_getItem_of (kV_is ry) dd.mapOf hw (h w' _ (I.tok _) rw')
 ·subst ey
  cases (show u = Value.ref b from ry)
  obtain ⟨z,hd,xs,rel,dd⟩:=dt_rd I.hok e
  obtain ⟨w',hw,rw'⟩:=RelO.some_of (v:=v) (o:=(atKey xs k).map (·.2)) (by rw [l]; exact rel.val k)
  obtain ⟨p,hp,hp2⟩:=Option.map_eq_some_iff.mp hw
  refine wpAny_getItem_heap (tupleKind_room_in1 hu) (key_of I.hok eb) dd hp ?_
  rw [hp2]
  exact h w' _ (I.tok _) rw'
theorem d_in {Q:Value→Shared→Prop} (hu:A.units + 1 < cLine) (I:Inv X pins σ H s) (g:DGet H a y o) (ry:RelV y u) (h:∀ s',Inv X pins σ H s'→Q (.bool o.isSome) s') :
  wpAny (model X.prog X.w) A (compareOp .In u (.ref a)) Q E s:=by
 rcases g with ⟨kvs,k,e,ey,l⟩ | ⟨kvs,k,b,e,ey,eb,l⟩
 ·subst ey
  obtain ⟨z,hd,vs,rel,dd⟩:=dk_rd I.hok e
  refine wpAny_in_of (kV_is ry) hd dd.mapOf ?_
  rw [← (rel.val k).isSome_eq,← l]
  exact h _ (I.tok _)
 ·subst ey
  cases (show u = Value.ref b from ry)
  obtain ⟨z,hd,xs,rel,dd⟩:=dt_rd I.hok e
  refine wpAny_in_heap (tupleKind_room_in1 hu) (key_of I.hok eb) hd dd ?_
  have q:=(rel.val k).isSome_eq
  rw [Option.isSome_map] at q
  rw [← q,← l]
  exact h _ (I.tok _)
theorem d_notIn {Q:Value→Shared→Prop} (hu:A.units + 1 < cLine) (I:Inv X pins σ H s) (g:DGet H a y o) (ry:RelV y u) (h:∀ s',Inv X pins σ H s'→Q (.bool (!o.isSome)) s') :
  wpAny (model X.prog X.w) A (compareOp .NotIn u (.ref a)) Q E s:=by
 rcases g with ⟨kvs,k,e,ey,l⟩ | ⟨kvs,k,b,e,ey,eb,l⟩
 ·subst ey
  obtain ⟨z,hd,vs,rel,dd⟩:=dk_rd I.hok e
  refine wpAny_notIn_of (kV_is ry) hd dd.mapOf ?_
  rw [← (rel.val k).isSome_eq,← l]
  exact h _ (I.tok _)
 ·subst ey
  cases (show u = Value.ref b from ry)
  obtain ⟨z,hd,xs,rel,dd⟩:=dt_rd I.hok e
  refine wpAny_notIn_heap (tupleKind_room_in1 hu) (key_of I.hok eb) hd dd ?_
  have q:=(rel.val k).isSome_eq
  rw [Option.isSome_map] at q
  rw [← q,← l]
  exact h _ (I.tok _)
theorem d_write {h':Heap} {t':Nat} {ob:HO} (I:Inv X pins σ H s) (mu:Mut (H a)) (hs:Heap.SameBut a s.heap h') (he:∃ q,h'.get? a = some q) (new:ObjOk X.prog X.w (upd H a ob) h' a ob) :
  Inv X pins σ (upd H a ob) { s with heap:=h',toks:=t' }:=
 I.write (x:=a) (e:=a) mu (.inl rfl) (fun b q hb z=>(hs.2 b hb).trans z) he new
theorem dk_new {P:Program} {w:World} {H':Hp} {h':Heap} {kvs:List (Key×V)} {vs:List (Key×Value)} (z:kvs.length ≤ sizeLine) (hd:(a == sysModules) = false) (rel:KV kvs vs) (dd:h'.DictOf (mixKind P w) a vs) :
  ObjOk P w H' h' a (.dK kvs):=⟨z,hd,vs,rel,dd⟩
theorem d_setItem {H':Hp} {Q:Unit→Shared→Prop} (hu:A.units + 1 < cLine) (I:Inv X pins σ H s) (g:DPut H a y v H') (ry:RelV y u) (rv:RelV v r) (h:∀ s',Inv X pins σ H' s'→Q () s') :
  wpAny (model X.prog X.w) A (setItem (.ref a) u r) Q E s:=by
 rcases g with ⟨kvs,k,e,ey,l,eH⟩ | ⟨kvs,k,b,e,ey,eb,l,eH⟩
 ·subst ey eH
  obtain ⟨z,hd,vs,rel,dd⟩:=dk_of I.hok e
  have hz:vs.length ≤ sizeLine:=by rw [← rel.length]; exact z
  have hl:(putK kvs k v).length ≤ sizeLine:=by have:=length_putK kvs k v; omega
  refine wpAny_setItem_pairs (hsz:=hz) (kV_is ry) dd fun h' dd' hs=>h _ ?_
  have he:∃ q,h'.get? a = some q:=let ⟨q,_,_,hq,_⟩:=dd'; ⟨q,hq⟩
  exact d_write I (by rw [e]; exact True.intro) hs he (dk_new hl hd (rel.put k rv) dd')
 ·subst ey eH
  cases (show u = Value.ref b from ry)
  obtain ⟨z,hd,xs,rel,dd⟩:=dt_of I.hok e
  have hz:xs.length ≤ sizeLine:=by rw [← Paired.length rel]; exact z
  have hl:(putK kvs k v).length ≤ sizeLine:=by have:=length_putK kvs k v; omega
  refine wpAny_setItem_heap (hsz:=hz) (tupleKind_room_in1 hu) (key_of I.hok eb) dd fun h' dd' hs=>h _ ?_
  obtain ⟨q,es,ep,hq,h2,h3,h4,_,h5⟩:=dd'
  refine d_write I (by rw [e]; exact True.intro) hs ⟨q,hq⟩ ⟨hl,hd,_,(rel.put k eb rv).keeps fun c ys ec=>?_,q,es,ep,hq,h2,h3,h4,h5⟩
  rw [upd_ne (ne_of ec e (fun z=>nomatch z))]
  exact ec
end
section
variable {X:Cx} {pins:List (Addr×Obj)} {σ:St} {H:Hp} {s:Shared} {a:Addr} {kvs:List (Key×V)} {k:Key} {u:Value} {A:Around} {E:Value→Shared→Prop}
theorem d_pop {v:V} {more:List Value} {Q:Value→Shared→Prop} (I:Inv X pins σ H s) (e:H a = some (.dK kvs)) (ry:RelV (kV k) u) (l:valV kvs k = some v) (hm:more = []∨∃ x,more = [x])
  (h:∀ w' s',Inv X pins σ (upd H a (.dK (dropK kvs k))) s'→RelV v w'→Q w' s'):wpAny (model X.prog X.w) A (call (.builtin "dict.pop") (.ref a :: u :: more)) Q E s:=by
 obtain ⟨z,hd,vs,rel,dd⟩:=dk_of I.hok e
 obtain ⟨w',hw,rw'⟩:=RelO.some_of (v:=v) (o:=valueAt vs k) (by rw [← l]; exact rel.val k)
 have hp:(keyPart u).isSome = true:=by
  cases k with
  | inl i=>obtain ⟨t,q⟩:=(show ∃ t,u = Value.int i t from ry); subst q; rfl
  | inr x=>obtain ⟨t,q⟩:=(show ∃ t,u = Value.str x t from ry); subst q; rfl
 have ha:argsOk "dict.pop" ⟨.ref a :: u :: more,[]⟩:=by
  rcases hm with q | ⟨x,q⟩
  ·subst q; exact PySem.F.args_dict_pop_2 _ _
  ·subst q; exact PySem.F.args_dict_pop_3 _ _ _
 refine call_meetsIn PySem.F.slot_dict_pop dd.typeIs PySem.F.entry_dict_pop ha (meets_dict_pop_there (mixKind X.prog X.w) a (kV_is ry) more hm hp)
  ⟨vs,w',dd,by rw [← rel.length]; exact z,hw,fun h' dd' hs=>h w' _ ?_ rw'⟩
 have he:∃ q,h'.get? a = some q:=let ⟨q,_,_,hq,_⟩:=dd'; ⟨q,hq⟩
 exact d_write I (by rw [e]; exact True.intro) hs he (dk_new (Nat.le_trans (dropK_le kvs k) z) hd (rel.drop k) dd')
theorem d_len {Q:Value→Shared→Prop} (I:Inv X pins σ H s) (e:Rd H a (.dK kvs)) (h:∀ t s',Inv X pins σ H s'→Q (.int kvs.length t) s'):wpAny (model X.prog X.w) A (call (.builtin "len") [.ref a]) Q E s:=by
 obtain ⟨z,hd,vs,rel,dd⟩:=dk_rd I.hok e
 refine call_len_dict hd dd (by rw [← rel.length]; rw [sizeLine_eq] at z; omega) ?_
 rw [← rel.length]
 exact h _ _ (I.tok _)
end
def NoSl (i:Expr):Prop:=∀ ov iv,subscripted i false ov iv = operate [ov,iv] (getItem ov iv)
theorem subD_of {prog:Program} {w:World} {A:Around} {E:Value→Shared→Prop} {s:Shared} {env:Env} {value slice:Expr} {pos:Pos} {T id:String} {Q:Value→Shared→Prop}
  (hl:typeLookup (.type T) "__getitem__" = pure (some (.builtin id))) (hs:NoSl slice)
  (h:wpAny (model prog w) A (eval value env) (fun o s₁=>wpAny (model prog w) A (eval slice env) (fun i s₂=>s₂.TypeIs o T∧wpAny (model prog w) A (getItem o i) Q E s₂) E s₁) E s) :
  wpAny (model prog w) A (eval (.Subscript value slice pos) env) Q E s:=by
 refine Subscript_ (wpAny_mono h (fun o s₁ h₁=>wpAny_mono h₁ (fun i s₂ h₂=>?_) fun _ _ x=>x) fun _ _ x=>x)
 obtain ⟨hT,h₂⟩:=h₂
 unfold subscriptTail
 refine wpAny_bind ?_
 rw [getitemInPython_of_ne hT.not_modules]
 refine wpAny_bind (wpAny_specialOf hT hl ?_)
 have fin:wpAny (model prog w) A (subscripted slice false o i) (fun r s₃=>wpAny (model prog w) A (letTemporaryGo value o r >>= fun _=>pure r) Q E s₃) E s₂:=by
  rw [hs o i]
  exact wpAny_operating (wpAny_mono h₂ (fun r s₃ h₃=>wpAny_bind (wpAny_letTemporaryGo (wpAny_pure h₃))) fun _ _ x=>x)
 first
  | exact wpAny_pure (wpAny_bind fin)
  | exact wpAny_bind (wpAny_pure (wpAny_bind fin))
  | exact wpAny_bind fin
theorem dict_typeIs {X:Cx} {pins:List (Addr×Obj)} {σ:St} {H:Hp} {s:Shared} {a:Addr} {y:V} {o:Option V} (I:Inv X pins σ H s) (g:DGet H a y o):s.TypeIs (.ref a) "dict":=by
 rcases g with ⟨kvs,k,e,_,_⟩ | ⟨kvs,k,b,e,_,_,_⟩
 ·obtain ⟨_,_,vs,_,dd⟩:=dk_rd I.hok e
  exact dd.typeIs
 ·obtain ⟨_,_,xs,_,dd⟩:=dt_rd I.hok e
  exact dd.typeIs
def tDGet (td ty:TE):TE:=fun σ H Q=>td σ H fun x H1=>ty σ H1 fun y H2=>∃ a v,x = .ref a∧DGet H2 a y (some v)∧Q v H2
def sDPut (td ty tv:TE):TS:=fun D σ H=>tv σ H fun v H1=>td σ H1 fun x H2=>ty σ H2 fun y H3=>∃ a H4,x = .ref a∧DPut H3 a y v H4∧D.nx σ H4
def sDAug (td ty tv:TE) (rd:V→V→Hp→VK→Prop):TS:=fun D σ H=>td σ H fun x H1=>ty σ H1 fun y H2=>∃ a v,x = .ref a∧DGet H2 a y (some v) ∧
 tv σ H2 fun y2 H3=>rd v y2 H3 fun z H4=>∃ H5,DPut H4 a y z H5∧D.nx σ H5
section
variable {X:Cx} {o i e value:Expr} {pos pos' tpos:Pos} {td ty tv:TE}
theorem pe_dget (hu:X.A.units + 1 < cLine) (ho:PE X o td) (hi:PE X i ty) (hs:NoSl i):PE X (.Subscript o i pos) (tDGet td ty):=by
 intro pins s σ H Q I h
 refine subD_of PySem.F.slot_dict_getitem.lookup hs (thn (ho pins s σ H _ I h) fun u s1 ⟨x,H1,I1,rx,q1⟩=>thn (hi pins s1 σ H1 _ I1 q1) fun iv s2 ⟨y,H2,I2,ry,a,v,ex,g,q2⟩=>?_)
 subst ex
 obtain rfl:u = Value.ref a:=rx
 exact ⟨dict_typeIs I2 g,d_getItem hu I2 g ry fun w' s3 I3 rw'=>⟨v,H2,I3,rw',q2⟩⟩
theorem ps_dput (hu:X.A.units + 1 < cLine) (ho:PE X o td) (hi:PE X i ty) (hv:PE X value tv) (hs:swapsWith value (some (.Subscript o i pos')) pos.line X.env = pure false) :
  PS X (.Assign [.Subscript o i pos'] value pos) (sDPut td ty tv):=by
 intro pins s σ H D I h
 refine wpAny_Assign_Subscript (thn (hv pins s σ H _ I h) fun r s1 ⟨v,H1,I1,rv,q1⟩=>thn (ho pins s1 σ H1 _ I1 q1) fun u s2 ⟨x,H2,I2,rx,q2⟩=>thn (hi pins s2 σ H2 _ I2 q2) fun iv s3 ⟨y,H3,I3,ry,a,H4,ex,g,q3⟩=>?_) hs
 subst ex
 obtain rfl:u = Value.ref a:=rx
 exact d_setItem hu I3 g ry rv fun s4 I4=>⟨σ,H4,I4,q3⟩
theorem ps_daug {op:Operator} {rd:V→V→Hp→VK→Prop} (hu:X.A.units + 1 < cLine) (ho:PE X o td) (hi:PE X i ty) (hv:PE X value tv) (hop:InOp X op rd)
  (ha:∀ ov iv new,augStore i ov iv new = (do holding [new,ov,iv] (setItem ov iv new); release [new,ov,iv] []; pure .next)):PS X (.AugAssign (.Subscript o i tpos) op value pos) (sDAug td ty tv rd):=by
 intro pins s σ H D I h
 refine wpAny_AugAssign_SubscriptAny (thn (ho pins s σ H _ I h) fun u s1 ⟨x,H1,I1,rx,q1⟩=>thn (hi pins s1 σ H1 _ I1 q1) fun iv s2 ⟨y,H2,I2,ry,a,v,ex,g,q2⟩=>?_) ha
 subst ex
 obtain rfl:u = Value.ref a:=rx
 refine d_getItem hu I2 g ry fun w' s3 I3 rw'=>thn (hv pins s3 σ H2 _ I3 q2) fun w2 s4 ⟨y2,H3,I4,ry2,q3⟩=>thn (hop pins s4 σ H3 v y2 w' w2 _ I4 rw' ry2 q3) fun w3 s5 ⟨z,H4,I5,rz,H5,g5,q4⟩=>?_
 exact d_setItem hu I5 g5 ry rz fun s6 I6=>⟨σ,H5,I6,q4⟩
end
theorem dk_empty {P:Program} {w:World} {H:Hp} (h:Heap) (hb:sysModules < h.objs.size):ObjOk P w H (h.push { cls:=.type "dict",data:=.dict #[] }) h.objs.size (.dK []):=
 ⟨Nat.zero_le _,beq_eq_false_iff_ne.mpr (Ne.symm (Nat.ne_of_lt hb)),[],.nil,Heap.DictOf.new h⟩
def tDNewK:TE:=fun _ H Q=>∀ p,H p = none→Q (.ref p) (upd H p (.dK []))
section
variable {X:Cx} {pos:Pos}
theorem pe_dnewK:PE X (.Dict [] [] pos) tDNewK:=fun pins s σ H Q I h=>
 wpAny_Dict_empty ⟨.ref s.heap.objs.size,_,I.laid (a:=s.heap.objs.size) (o:=.dK []) (t':=s.toks) (fun _ _ q=>Heap.get?_push_of_some _ q) (Nat.le_refl _) (dk_empty s.heap I.big),rfl,h _ (I.hok.fresh (Nat.le_refl _))⟩
end
def tPairs:List (TE×TE)→St→Hp→(List (V×V)→Hp→Prop)→Prop
 | [],_,H,Q=>Q [] H
 | (tk,tv) :: r,σ,H,Q=>tk σ H fun x H1=>tv σ H1 fun y H2=>tPairs r σ H2 fun ps H3=>Q ((x,y) :: ps) H3
abbrev VV:List (V×V)→List (Value×Value)→Prop:=Paired fun p q=>RelV p.1 q.1∧RelV p.2 q.2
def PPs (X:Cx) (pos:Pos) (keys:List (Option Expr)) (values:List Expr) (trs:List (TE×TE)):Prop:=
 ∀ (pins:List (Addr×Obj)) (s:Shared) (σ:St) (H:Hp) (Q:List (V×V)→Hp→Prop),Inv X pins σ H s→tPairs trs σ H Q →
  wpAny (model X.prog X.w) X.A (evalPairs (pairTrees keys values X.env pos)) (fun vs s'=>∃ ps H',Inv X pins σ H' s'∧VV ps vs∧Q ps H') X.xe s
theorem pps_nil {X:Cx} {pos:Pos}:PPs X pos [] [] []:=fun pins s σ H Q I h=>pairTrees_nil_walk ⟨[],H,I,.nil,h⟩
theorem pps_cons {X:Cx} {pos:Pos} {k v:Expr} {ks:List (Option Expr)} {vs:List Expr} {tk tv:TE} {trs:List (TE×TE)} (hk:PE X k tk) (hv:PE X v tv) (hr:PPs X pos ks vs trs) :
  PPs X pos (some k :: ks) (v :: vs) ((tk,tv) :: trs):=fun pins s σ H Q I h=>
 pairTrees_cons_walk (thn (hk pins s σ H _ I h) fun u s1 ⟨x,H1,I1,rx,q1⟩=>thn (hv pins s1 σ H1 _ I1 q1) fun w2 s2 ⟨y,H2,I2,ry,q2⟩=>
  thn (hr pins s2 σ H2 _ I2 q2) fun ws s3 ⟨ps,H3,I3,rel,q3⟩=>⟨(x,y) :: ps,H3,I3,.cons ⟨rx,ry⟩ rel,q3⟩)
def mergeK (kvs more:List (Key×V)):List (Key×V):=more.foldl (fun acc kv=>putK acc kv.1 kv.2) kvs
theorem KV.merge:∀ {more:List (Key×V)} {rs:List (Key×Value)} {kvs:List (Key×V)} {vs:List (Key×Value)},KV more rs→KV kvs vs→KV (mergeK kvs more) (merged vs rs):=by
 intro more rs kvs vs r
 unfold KV at r
 induction r generalizing kvs vs with
 | nil=>intro q; exact q
 | @cons p q ps qs h t ih=>
  intro r0
  have e:KV (putK kvs p.1 p.2) (stored vs q.1 q.2):=by
   have:=r0.put p.1 h.2
   rw [← h.1]; exact this
  exact ih e
theorem length_mergeK:∀ (more kvs:List (Key×V)),(mergeK kvs more).length ≤ kvs.length + more.length
 | [],kvs=>by show kvs.length ≤ kvs.length + 0; omega
 | p :: r,kvs=>by
  have h1:=length_mergeK r (putK kvs p.1 p.2)
  have h2:=length_putK kvs p.1 p.2
  show (mergeK (putK kvs p.1 p.2) r).length ≤ _
  rw [List.length_cons]; omega
theorem carries_of {P:Program} {w:World}:∀ {kvs:List (Key×V)} {ws:List (Value×Value)},VV (kvs.map fun kv=>(kV kv.1,kv.2)) ws→∃ rs,Carries (mixKind P w) ws rs∧KV kvs rs
 | [],_,r=>by rw [List.map_nil] at r; cases r; exact ⟨[],True.intro,.nil⟩
 | p :: kvs,_,r=>by
  rw [List.map_cons] at r
  cases r with
  | @cons a b as bs h t=>
   obtain ⟨rs,c,q⟩:=carries_of (P:=P) (w:=w) t
   obtain ⟨b1,b2⟩:=b
   exact ⟨(p.1,b2) :: rs,⟨kV_is h.1,rfl,c⟩,.cons ⟨rfl,h.2⟩ q⟩
def tDisp (trs:List (TE×TE)):TE:=fun σ H Q=>∀ p,H p = none→tPairs trs σ (upd H p (.dK [])) fun ps H2=>H2 p = some (.dK [])∧∃ kvs:List (Key×V),ps = kvs.map (fun kv=>(kV kv.1,kv.2))∧kvs.length ≤ 15∧Q (.ref p) (upd H2 p (.dK (mergeK [] kvs)))
theorem pe_disp {X:Cx} {pos:Pos} {keys:List (Option Expr)} {values:List Expr} {trs:List (TE×TE)} (h:PPs X pos keys values trs) (hall:keys.all (·.isSome) = true) (hl:keys.length = values.length) (h0:keys ≠ [])
  (h15:keys.length ≤ 15):PE X (.Dict keys values pos) (tDisp trs):=by
 intro pins s σ H Q I q
 have hn:=I.hok.fresh (Nat.le_refl s.heap.objs.size)
 have I1:=I.laid (a:=s.heap.objs.size) (o:=.dK []) (h':=s.heap.push { cls:=.type "dict",data:=.dict #[] }) (t':=s.toks) (fun _ _ q=>Heap.get?_push_of_some _ q) (Nat.le_refl _) (dk_empty s.heap I.big)
 refine wpAny_Dict_walk (knd:=mixKind X.prog X.w) hall hl h0 h15 (thn (h pins _ σ _ _ I1 (q _ hn)) fun ws s2 ⟨ps,H2,I2,rel,e,kvs,ep,lk,q2⟩=>?_)
 subst ep
 obtain ⟨rs,c,rk⟩:=carries_of (P:=X.prog) (w:=X.w) rel
 obtain ⟨z,hd,vs0,r0,dd⟩:=dk_of I2.hok e
 cases r0
 refine ⟨rs,c,dd,fun h' dd' hs=>⟨.ref s.heap.objs.size,_,?_,rfl,q2⟩⟩
 have hz:(mergeK [] kvs).length ≤ sizeLine:=by
  have h1:=length_mergeK kvs []
  rw [List.length_nil] at h1
  rw [sizeLine_eq]; omega
 have he:∃ q,h'.get? s.heap.objs.size = some q:=let ⟨q,_,_,hq,_⟩:=dd'; ⟨q,hq⟩
 exact d_write I2 (by rw [e]; exact True.intro) hs he (dk_new hz hd (rk.merge .nil) dd')
structure M1 (X:Cx) (o:Expr) (m:Str) (apos:Pos) (e:Expr) (cpos:Pos):Prop where
 base:attributeBase o m X.env (eval o X.env) = eval o X.env
 few:((backTo cpos (starEach [e] X.env)).all (fun x=>!x.1) && (backToKw cpos (keywordEach [] X.env)).all (fun x=>x.1.isSome)
  && decide (([e]:List Expr).length + ([]:List Keyword).length + (if ([]:List Keyword).isEmpty then 0 else 1) < 30)) = true
 line:(apos.endLine == cpos.line) = true
 trees:backTo cpos (starEach [e] X.env) = [(false,eval e X.env)]
structure M2 (X:Cx) (o:Expr) (m:Str) (apos:Pos) (e f:Expr) (cpos:Pos):Prop where
 base:attributeBase o m X.env (eval o X.env) = eval o X.env
 few:((backTo cpos (starEach [e,f] X.env)).all (fun x=>!x.1) && (backToKw cpos (keywordEach [] X.env)).all (fun x=>x.1.isSome)
  && decide (([e,f]:List Expr).length + ([]:List Keyword).length + (if ([]:List Keyword).isEmpty then 0 else 1) < 30)) = true
 line:(apos.endLine == cpos.line) = true
 trees:backTo cpos (starEach [e,f] X.env) = [(false,eval e X.env),(false,eval f X.env)]
def IsD (H:Hp) (a:Addr):Prop:=(∃ kvs,Rd H a (.dK kvs))∨∃ kvs,Rd H a (.dT kvs)
theorem isD_at {X:Cx} {pins:List (Addr×Obj)} {σ:St} {H:Hp} {s:Shared} {a:Addr} (I:Inv X pins σ H s) (d:IsD H a) :
  s.TypeIs (.ref a) "dict"∧(∀ b,Value.ref a = .ref b→∃ ob,s.heap.get? b = some ob∧ob.dict = none)∧(a == sysModules) = false:=by
 rcases d with ⟨kvs,e⟩ | ⟨kvs,e⟩
 ·obtain ⟨_,hd,vs,_,dd⟩:=dk_rd I.hok e
  refine ⟨dd.typeIs,fun b q=>?_,hd⟩
  cases q
  obtain ⟨ob,_,_,h1,h2,_⟩:=dd
  exact ⟨ob,h1,h2.2.1⟩
 ·obtain ⟨_,hd,xs,_,dd⟩:=dt_rd I.hok e
  refine ⟨dd.typeIs,fun b q=>?_,hd⟩
  cases q
  obtain ⟨ob,_,_,h1,h2,_⟩:=dd
  exact ⟨ob,h1,h2.2.1⟩
section
variable {X:Cx} {pins:List (Addr×Obj)} {σ:St} {H:Hp} {s:Shared} {a:Addr} {y d:V} {u r:Value} {o:Option V} {A:Around} {E:Value→Shared→Prop}
end
def tDPop1 (td ty:TE):TE:=fun σ H Q=>td σ H fun x H1=>∃ a,x = .ref a∧IsD H1 a∧ty σ H1 fun y H2=>∃ kvs k v,H2 a = some (.dK kvs)∧y = kV k∧valV kvs k = some v∧Q v (upd H2 a (.dK (dropK kvs k)))
section
variable {X:Cx} {o e f:Expr} {apos cpos:Pos} {td ty tx:TE}
theorem pe_dpop1 (ho:PE X o td) (he:PE X e ty) (m:M1 X o "pop" apos e cpos):PE X (.Call (.Attribute o "pop" apos) [e] [] cpos) (tDPop1 td ty):=by
 intro pins s σ H Q I h
 refine wpAny_Call_method m.base m.few m.line PySem.F.plainAttrs_dict PySem.F.slot_dict_pop PySem.F.type_dict_pop (thn (ho pins s σ H _ I h) fun u s1 ⟨x,H1,I1,rx,a,ex,d,q1⟩=>?_)
 subst ex
 obtain rfl:u = Value.ref a:=rx
 obtain ⟨t1,t2,_⟩:=isD_at I1 d
 refine ⟨t1,t2,?_⟩
 rw [m.trees]
 refine Calls.callWith_builtin rfl (Calls.evalArgs_plain (Calls.spliced_cons (thn (he pins s1 σ H1 _ I1 q1) fun iv s2 ⟨y,H2,I2,ry,kvs,k,v,ea,ey,l,q2⟩=>Calls.spliced_nil ?_)))
 subst ey
 exact d_pop I2 ea ry l (.inl rfl) fun w' s3 I3 rw'=>⟨v,_,I3,rw',q2⟩
end
section
variable {X:Cx} {pins:List (Addr×Obj)} {σ:St} {H:Hp} {s:Shared} {a:Addr} {kvs:List (Key×V)} {A:Around} {E:Value→Shared→Prop}
end
section
variable {X:Cx} {pins:List (Addr×Obj)} {σ:St} {H:Hp} {s:Shared} {a:Addr} {y:V} {u:Value} {A:Around} {E:Value→Shared→Prop}
end
end L2
namespace HT
open PySem PyProof.Rows
section
open PySem.SeqAt
open PySem.AutoSeq1 (wpAny_loadPart')
open PySem.MeetsSeq PySem.MeetsSeq2 PySem.MeetsSeq3
end
section
variable {prog:Program} {w:World} {A:Around} {E:Value→Shared→Prop} {s:Shared}
def sIx (n d:Nat):Option Int→Nat
 | none=>d
 | some v=>if v < 0 then (v + (n:Int)).toNat else min v.toNat n
end
end HT
namespace L2
open PySem PySem.Spec PyProof.Rows
abbrev TO:=St→Hp→(Option Int→Hp→Prop)→Prop
def PO (X:Cx) (e:Option Expr) (t:TO):Prop:=
 ∀ (pins:List (Addr×Obj)) (s:Shared) (σ:St) (H:Hp) (Q:Option Int→Hp→Prop),Inv X pins σ H s→t σ H Q →
  wpAny (model X.prog X.w) X.A (evalPart e X.env) (fun u s'=>∃ o H',Inv X pins σ H' s'∧IsPart u o∧Q o H') X.xe s
def tNoPart:TO:=fun _ H Q=>Q none H
def tPart (t:TE):TO:=fun σ H Q=>t σ H fun x H1=>∃ i,x = .int i∧Q (some i) H1
section
variable {X:Cx} {e:Expr} {te:TE} {lo hi:Option Expr} {tl th:TO} {pos p2:Pos}
theorem po_none:PO X none tNoPart:=by
 intro pins s σ H Q I h
 rw [evalPart_none]
 exact wpAny_pure ⟨none,H,I,.none,h⟩
theorem po_some (h:PE X e te):PO X (some e) (tPart te):=by
 intro pins s σ H Q I hw
 rw [evalPart_some]
 refine thn (h pins s σ H _ I hw) fun u s1 ⟨x,H1,I1,r1,q1⟩=>?_
 obtain ⟨i,rfl,q⟩:=q1
 obtain ⟨t,rfl⟩:=r1
 exact ⟨some i,H1,I1,.int i t,q⟩
def SlR (X:Cx) (r:V→Option Int→Option Int→Hp→VK→Prop):Prop:=
 ∀ (pins:List (Addr×Obj)) (s:Shared) (σ:St) (H:Hp) (x:V) (v vl vu:Value) (lo hi:Option Int) (sl:Addr) (Q:VK),Inv X pins σ H s→RelV x v→s.heap.IsSliceOf sl vl vu .none→IsPart vl lo→IsPart vu hi→r x lo hi H Q →
  ∃ T id,typeLookup (.type T) "__getitem__" = pure (some (.builtin id))∧s.TypeIs v T∧wpAny (model X.prog X.w) X.A (getItem v (.ref sl)) (EP X pins σ Q) X.xe s
def tSl (r:V→Option Int→Option Int→Hp→VK→Prop) (te:TE) (tl th:TO):TE:=fun σ H Q=>te σ H fun x H1=>tl σ H1 fun l H2=>th σ H2 fun u H3=>r x l u H3 Q
theorem pe_slice {r:V→Option Int→Option Int→Hp→VK→Prop} (hr:SlR X r) (he:PE X e te) (hl:PO X lo tl) (hu:PO X hi th):PE X (.Subscript e (.Slice lo hi none p2) pos) (tSl r te tl th):=by
 intro pins s σ H Q I h
 refine Subscript_ (thn (he pins s σ H _ I h) fun v s1 ⟨x,H1,I1,r1,q1⟩=>?_)
 refine wpAny_Slice (thn (hl pins s1 σ H1 _ I1 q1) fun vl s2 ⟨l,H2,I2,pl,q2⟩=>thn (hu pins s2 σ H2 _ I2 q2) fun vu s3 ⟨u,H3,I3,pu,q3⟩=>?_)
 rw [evalPart_none]
 refine wpAny_pure ?_
 have I4:Inv X pins σ H3 { s3 with heap:=s3.heap.push { cls:=.type "slice",data:=.fields #[vl,vu,.none] } }:=I3.kept (t':=s3.toks) fun b ob q=>Heap.get?_push_of_some _ q
 obtain ⟨T,id,hT,ht,hg⟩:=hr pins { s3 with heap:=s3.heap.push { cls:=.type "slice",data:=.fields #[vl,vu,.none] } } σ H3 x v vl vu l u s3.heap.objs.size Q I4 r1 (Heap.IsSliceOf.new ..) pl pu q3
 show wpAny (model X.prog X.w) X.A (subscriptTail e (.Slice lo hi none p2) v (.ref s3.heap.objs.size)) (EP X pins σ Q) X.xe { s3 with heap:=s3.heap.push { cls:=.type "slice",data:=.fields #[vl,vu,.none] } }
 exact tail_any (ops:=[.ref s3.heap.objs.size,v]) ht hT hg (by with_unfolding_all rfl)
def cutV (xs:List V) (lo hi:Option Int):List V:=(xs.drop (HT.sIx xs.length 0 lo)).take (HT.sIx xs.length xs.length hi - HT.sIx xs.length 0 lo)
theorem cutV_length (xs:List V) (lo hi:Option Int):(cutV xs lo hi).length ≤ xs.length:=by
 unfold cutV
 rw [List.length_take,List.length_drop]
 omega
end
def ixN (n:Nat) (i:Int):Option Nat:=if 0 ≤ i then (if i < n then some i.toNat else none) else if -(n:Int) ≤ i then some (i + n).toNat else none
def atI {α:Type} (xs:List α) (i:Int):Option α:=(ixN xs.length i).bind fun j=>xs[j]?
theorem ixN_seq {n:Nat} {i:Int} {j:Nat} (h:ixN n i = some j):seqIndex? i n = some j∧j < n∧-(n:Int) ≤ i∧i < n:=by
 unfold ixN at h
 by_cases h0:0 ≤ i
 ·rw [if_pos h0] at h
  by_cases h1:i < n
  ·rw [if_pos h1] at h
   have e:i.toNat = j:=Option.some.inj h
   exact ⟨by rw [seqIndex_of h0 h1,e],by omega,by omega,h1⟩
  ·rw [if_neg h1] at h; cases h
 ·rw [if_neg h0] at h
  by_cases h1:-(n:Int) ≤ i
  ·rw [if_pos h1] at h
   have e:(i + n).toNat = j:=Option.some.inj h
   exact ⟨by rw [seqIndex_neg (by omega) h1,e],by omega,h1,by omega⟩
  ·rw [if_neg h1] at h; cases h
theorem atI_get {α:Type} {xs:List α} {i:Int} {v:α} (h:atI xs i = some v):∃ j,seqIndex? i xs.length = some j∧xs[j]? = some v∧j < xs.length∧-(xs.length:Int) ≤ i∧i < xs.length:=by
 unfold atI at h
 cases e:ixN xs.length i with
 | none=>rw [e] at h; cases h
 | some j=>
  rw [e] at h
  obtain ⟨h1,h2,h3,h4⟩:=ixN_seq e
  exact ⟨j,h1,h,h2,h3,h4⟩
theorem atI_nat {α:Type} {xs:List α} {j:Nat} {v:α} (h:xs[j]? = some v):atI xs (j:Int) = some v:=by
 have hj:j < xs.length:=(List.getElem?_eq_some_iff.mp h).1
 have e:ixN xs.length (j:Int) = some j:=by
  unfold ixN
  rw [if_pos (by omega),if_pos (by omega)]; simp
 unfold atI; rw [e]; exact h
def PlainIx (b:Expr):Prop:=∀ o i,subscripted b false o i = operate [o,i] (getItem o i)
def IxR (X:Cx) (r:R2):Prop:=
 ∀ (value slice:Expr) (pins:List (Addr×Obj)) (s:Shared) (σ:St) (H:Hp) (x y:V) (v u:Value) (Q:VK),Inv X pins σ H s→RelV x v→RelV y u→r x y H Q →
  subscripted slice false v u = operate [v,u] (getItem v u)→wpAny (model X.prog X.w) X.A (subscriptTail value slice v u) (EP X pins σ Q) X.xe s
def MtR (X:Cx) (id:String) (r:V→List V→Hp→VK→Prop):Prop:=
 ∀ (pins:List (Addr×Obj)) (s:Shared) (σ:St) (H:Hp) (x:V) (xs:List V) (v:Value) (us:List Value) (Q:VK),Inv X pins σ H s→RelV x v→Vals xs us→r x xs H Q →
  wpAny (model X.prog X.w) X.A (call (.builtin id) (v :: us)) (EP X pins σ Q) X.xe s
section
variable {X:Cx} {a b:Expr} {ta tb:TE} {pos:Pos}
theorem IxR.or {r r':R2} (h:IxR X r) (h':IxR X r'):IxR X (fun x y H Q=>r x y H Q∨r' x y H Q):=by
 intro value slice pins s σ H x y v u Q I rx ry q hs
 rcases q with q | q
 ·exact h value slice pins s σ H x y v u Q I rx ry q hs
 ·exact h' value slice pins s σ H x y v u Q I rx ry q hs
theorem pe_ix {r:R2} (hr:IxR X r) (ha:PE X a ta) (hb:PE X b tb) (hs:PlainIx b):PE X (.Subscript a b pos) (tOp r ta tb):=by
 intro pins s σ H Q I h
 exact Subscript_ (binT ha hb I h fun v u s2 x y H2 I2 rx ry q=>hr a b pins s2 σ H2 x y v u Q I2 rx ry q (hs _ _))
def rIxL (K:PySem.W.Frag):R2:=fun x y H Q=>∃ p xs i v,x = .ref p∧y = .int i∧SqL K H p xs∧atI xs i = some v∧Q v H
def rIxT (K:PySem.W.Frag):R2:=fun x y H Q=>∃ p xs i v,x = .ref p∧y = .int i∧SqT K H p xs∧atI xs i = some v∧Q v H
def rIxS:R2:=fun x y H Q=>∃ z i c,x = .str z∧y = .int i∧z.length ≤ sizeLine∧atI z.cps.toList i = some c∧Q (.str ⟨#[c]⟩) H
theorem ix_list:IxR X (rIxL X.K):=by
 intro value slice pins s σ H x y v u Q I rx ry h hs
 obtain ⟨p,xs,i,z,rfl,rfl,hq,he,q⟩:=h
 cases rx
 obtain ⟨t,rfl⟩:=ry
 obtain ⟨its,r,pl,hz⟩:=I.list hq
 obtain ⟨j,h1,h2,h3,h4,h5⟩:=atI_get he
 obtain ⟨w,ew,rw'⟩:=r.get h2
 have hl:=r.length
 have hn:=line63
 have fin:EP X pins σ Q w s:=⟨z,H,I,rw',q⟩
 by_cases h0:0 ≤ i
 ·have hj:i.toNat = j:=by
   rw [seqIndex_of h0 h5] at h1
   exact Option.some.inj h1
  exact item_listR pl.isList h0 (by omega) (by rw [hj]; simpa using ew) fin hs
 ·have hj:(i + (its.toArray.size:Int)).toNat = j:=by
   rw [seqIndex_neg (by omega) h4] at h1
   rw [List.size_toArray,← hl]
   exact Option.some.inj h1
  exact subscriptTail_builtinR (x:=w) pl.isList.typeIs slot_list_getitem.lookup
   (wpAny_getItem_list_neg (Q:=fun r s'=>r = w∧EP X pins σ Q r s') pl.isList (by omega) (by rw [List.size_toArray] <;> omega) (by omega) (by rw [hj]; simpa using ew) ⟨rfl,fin⟩) hs
theorem ix_tup:IxR X (rIxT X.K):=by
 intro value slice pins s σ H x y v u Q I rx ry h hs
 obtain ⟨p,xs,i,z,rfl,rfl,hq,he,q⟩:=h
 cases rx
 obtain ⟨t,rfl⟩:=ry
 obtain ⟨its,r,pl,hz⟩:=I.tuple hq
 obtain ⟨j,h1,h2,h3,h4,h5⟩:=atI_get he
 obtain ⟨w,ew,rw'⟩:=r.get h2
 have hl:=r.length
 have hn:=line63
 have fin:EP X pins σ Q w s:=⟨z,H,I,rw',q⟩
 exact subscriptTail_builtinR (x:=w) pl.typeIs slot_tuple_getitem.lookup
  (getItem_tuple (j:=j) (Q:=fun r s'=>r = w∧EP X pins σ Q r s') pl (by omega) (by omega) (by rw [List.size_toArray,← hl]; exact h1) (by simpa using ew) ⟨rfl,fin⟩) hs
theorem ix_str:IxR X rIxS:=by
 intro value slice pins s σ H x y v u Q I rx ry h hs
 obtain ⟨z,i,c,rfl,rfl,hz,he,q⟩:=h
 obtain ⟨t,rfl⟩:=rx
 obtain ⟨t',rfl⟩:=ry
 obtain ⟨j,h1,h2,h3,h4,h5⟩:=atI_get he
 have hl:z.cps.toList.length = z.length:=by simp [Str.length]
 rw [hl] at h1 h4 h5
 have hn:=line63
 exact tail_any (typeIs_str s z t) slot_str_getitem.lookup (getItem_str (c:=c) (by
  have e1:decide (i < -(2 ^ 63:Int)) = false:=decide_eq_false (by omega)
  have e2:decide (i ≥ 2 ^ 63) = false:=decide_eq_false (by omega)
  rw [e1,e2,Bool.or_false]) (by rw [h1]; simpa using h2) ⟨.str ⟨#[c]⟩,H,I.tok _,⟨_,rfl⟩,q⟩) hs
def rIx (K:PySem.W.Frag):R2:=fun x y H Q=>rIxL K x y H Q∨rIxT K x y H Q∨rIxS x y H Q
theorem ix_seq:IxR X (rIx X.K):=ix_list.or (ix_tup.or ix_str)
theorem mapSeq_set (its:List Value) (n j:Nat) (u:Value):Obj.mapSeq (·.setIfInBounds j u) { cls:=.type "list",data:=.seq its.toArray n } = { cls:=.type "list",data:=.seq (its.set j u).toArray n }:=by
 simp [Obj.mapSeq]
theorem Inv.lst {pins:List (Addr×Obj)} {σ:St} {H:Hp} {s:Shared} {p:Addr} {xs:List V} (I:Inv X pins σ H s) (h:H p = some (.lst xs)) :
  ∃ (its:List Value) (n:Nat),Vals xs its∧s.heap.get? p = some { cls:=.type "list",data:=.seq its.toArray n }∧xs.length ≤ sizeLine:=by
 obtain ⟨z,its,n,r,e⟩:=I.hok p _ h
 exact ⟨its,n,r,e,z⟩
theorem Inv.lstUpd {pins:List (Addr×Obj)} {σ:St} {H:Hp} {s:Shared} {p:Addr} {xs ys:List V} {its its':List Value} {n n':Nat} {f:Obj→Obj} (I:Inv X pins σ H s) (h:H p = some (.lst xs))
  (ho:s.heap.get? p = some { cls:=.type "list",data:=.seq its.toArray n }) (hf:f { cls:=.type "list",data:=.seq its.toArray n } = { cls:=.type "list",data:=.seq its'.toArray n' }) (r:Vals ys its') (hz:ys.length ≤ sizeLine) (t:Nat) :
  Inv X pins σ (upd H p (.lst ys)) { s with heap:=s.heap.update p f,toks:=t }:=by
 have e:(s.heap.update p f).get? p = some { cls:=.type "list",data:=.seq its'.toArray n' }:=by
  rw [Heap.get?_update_self f ho (by rw [hf] <;> rfl),hf]
 refine I.write (x:=p) (e:=p) (by rw [h]; trivial) (.inl rfl) (fun b u hb q=>(Heap.get?_update_other _ _ (Ne.symm hb)).trans q) ⟨_,e⟩ ?_
 exact ⟨hz,its',n',r,e⟩
def rSetL:V→V→V→Hp→(Hp→Prop)→Prop:=fun o i v H Q=>∃ p xs k j,o = .ref p∧i = .int k∧H p = some (.lst xs)∧ixN xs.length k = some j∧Q (upd H p (.lst (xs.set j v)))
theorem set_list:PSet X rSetL:=by
 intro pins s σ H o i v ov iv u Q I ro ri rv h
 obtain ⟨p,xs,k,j,rfl,rfl,hp,hj,q⟩:=h
 cases ro
 obtain ⟨t,rfl⟩:=ri
 obtain ⟨its,n,r,ho,hz⟩:=I.lst hp
 obtain ⟨h1,h2,h3,h4⟩:=ixN_seq hj
 have hl:=r.length
 have hn:=line63
 have I':Inv X pins σ (upd H p (.lst (xs.set j v))) { s with heap:=s.heap.update p (Obj.mapSeq (·.setIfInBounds j u)) }:=
  I.lstUpd hp ho (mapSeq_set its n j u) (r.set rv j) (by rw [List.length_set]; exact hz) s.toks
 by_cases h0:0 ≤ k
 ·have hk:k.toNat = j:=by
   rw [seqIndex_of h0 h4] at h1
   exact Option.some.inj h1
  exact PySem.W.ki_setAt ho h0 (by omega) (by rw [List.size_toArray,← hl]; exact h4) (by rw [hk]; exact ⟨_,I',q⟩)
 ·have hk:(k + (its.toArray.size:Int)).toNat = j:=by
   rw [seqIndex_neg (by omega) h3] at h1
   rw [List.size_toArray,← hl]
   exact Option.some.inj h1
  exact PySem.W.ki_setBack ho (by omega) (by rw [List.size_toArray,← hl]; exact h3) (by omega) (by rw [hk]; exact ⟨_,I',q⟩)
theorem slice_bounds (lo hi:Option Int) (n:Nat):(sliceBounds lo hi none n).1 = ((HT.sIx n 0 lo:Nat):Int)∧(sliceBounds lo hi none n).2.1 = ((HT.sIx n n hi:Nat):Int)∧(sliceBounds lo hi none n).2.2 = 1:=by
 refine ⟨?_,?_,rfl⟩
 ·cases lo with
  | none=>simp [sliceBounds,HT.sIx]
  | some i=>
   simp only [sliceBounds,HT.sIx,Option.getD_none,show (1:Int) > 0 by decide,if_true]
   by_cases h:i < 0
   ·simp only [h,if_true] <;> omega
   ·simp only [h,if_false] <;> omega
 ·cases hi with
  | none=>simp [sliceBounds,HT.sIx]
  | some i=>
   simp only [sliceBounds,HT.sIx,Option.getD_none,show (1:Int) > 0 by decide,if_true]
   by_cases h:i < 0
   ·simp only [h,if_true] <;> omega
   ·simp only [h,if_false] <;> omega
theorem slicePick_cut (its:List Value) (lo hi:Option Int):slicePick its.toArray lo hi none = ((its.drop (HT.sIx its.length 0 lo)).take (HT.sIx its.length its.length hi - HT.sIx its.length 0 lo)).toArray:=by
 obtain ⟨h1,h2,h3⟩:=slice_bounds lo hi its.toArray.size
 unfold slicePick
 rw [h1,h2,h3]
 simp only [sliceRange_one,pick_run,List.size_toArray] <;> rfl
def rSlL (K:PySem.W.Frag):V→Option Int→Option Int→Hp→VK→Prop:=fun x lo hi H Q=>∃ a xs,x = .ref a∧SqL K H a xs∧∀ p,H p = none→Q (.ref p) (upd H p (.lst (cutV xs lo hi)))
theorem sl_list:SlR X (rSlL X.K):=by
 intro pins s σ H x v vl vu lo hi sl Q I rx hs pl pu h
 obtain ⟨a,xs,rfl,hx,q⟩:=h
 cases rx
 obtain ⟨its,r,ht,hz⟩:=I.list hx
 have hlen:=r.length
 refine ⟨"list",_,slot_list_getitem.lookup,ht.isList.typeIs,?_⟩
 refine wpAny_getItem_list_slice ht.isList hs pl pu .none (by simp) ?_ (by rw [List.size_toArray] <;> omega)
 rw [slicePick_cut,← hlen]
 refine ⟨.ref s.heap.objs.size,_,I.laid (t':=s.toks) (o:=.lst (cutV xs lo hi)) (fun b ob q=>Heap.get?_push_of_some _ q) (Nat.le_refl _) ?_,rfl,q _ (I.hok.fresh (Nat.le_refl _))⟩
 exact ⟨Nat.le_trans (cutV_length xs lo hi) hz,_,0,(r.drop (HT.sIx xs.length 0 lo)).take (HT.sIx xs.length xs.length hi - HT.sIx xs.length 0 lo),Heap.get?_push_size _ rfl⟩
def flatV:V→Bool
 | .non=>true
 | .bl _=>true
 | .int _=>true
 | .str _=>true
 | _=>false
def eqV:V→V→Bool
 | .non,.non=>true
 | .bl a,.bl b=>a == b
 | .bl a,.int b=>(if a then 1 else 0) == b
 | .int a,.bl b=>a == (if b then 1 else 0)
 | .int a,.int b=>a == b
 | .str a,.str b=>a == b
 | _,_=>false
theorem eqAt_V {A:Around} {s:Shared} {y x:V} {u v:Value} (ry:RelV y u) (rx:RelV x v) (fy:flatV y = true) (fx:flatV x = true):SeqAt.EqAt A s u v (eqV y x):=by
 cases y with
 | non=>
  cases ry
  cases x with
  | non=>cases rx; exact SeqAt.EqAt.same _
  | bl b=>cases rx; exact SeqAt.EqAt.none_bool b
  | int b=>obtain ⟨t,rfl⟩:=rx; exact SeqAt.EqAt.none_int b t
  | str b=>obtain ⟨t,rfl⟩:=rx; exact SeqAt.EqAt.none_str b t
  | _=>exact absurd (show false = true from fx) Bool.false_ne_true
 | bl a=>
  cases ry
  cases x with
  | non=>cases rx; exact SeqAt.EqAt.bool_none a
  | bl b=>cases rx; exact SeqAt.EqAt.bool_bool a b
  | int b=>obtain ⟨t,rfl⟩:=rx; exact SeqAt.EqAt.bool_int a b t
  | str b=>obtain ⟨t,rfl⟩:=rx; exact SeqAt.EqAt.bool_str a b t
  | _=>exact absurd (show false = true from fx) Bool.false_ne_true
 | int a=>
  obtain ⟨t',rfl⟩:=ry
  cases x with
  | non=>cases rx; exact SeqAt.EqAt.int_none a t'
  | bl b=>cases rx; exact SeqAt.EqAt.int_bool a t' b
  | int b=>obtain ⟨t,rfl⟩:=rx; exact SeqAt.EqAt.int_int a t' b t
  | str b=>obtain ⟨t,rfl⟩:=rx; exact SeqAt.EqAt.int_str a t' b t
  | _=>exact absurd (show false = true from fx) Bool.false_ne_true
 | str a=>
  obtain ⟨t',rfl⟩:=ry
  cases x with
  | non=>cases rx; exact SeqAt.EqAt.str_none a t'
  | bl b=>cases rx; exact SeqAt.EqAt.str_bool a t' b
  | int b=>obtain ⟨t,rfl⟩:=rx; exact SeqAt.EqAt.str_int a t' b t
  | str b=>obtain ⟨t,rfl⟩:=rx; exact SeqAt.EqAt.str_str a t' b t
  | _=>exact absurd (show false = true from fx) Bool.false_ne_true
 | _=>exact absurd (show false = true from fy) Bool.false_ne_true
def eqU (x:V) (u:Value):Bool:=match u with
 | .none=>eqV .non x
 | .bool b=>eqV (.bl b) x
 | .int i _=>eqV (.int i) x
 | .str z _=>eqV (.str z) x
 | _=>false
theorem eqU_of {x y:V} {u:Value} (r:RelV y u) (f:flatV y = true):eqU x u = eqV y x:=by
 cases y with
 | non=>cases r; rfl
 | bl b=>cases r; rfl
 | int i=>obtain ⟨t,rfl⟩:=r; rfl
 | str z=>obtain ⟨t,rfl⟩:=r; rfl
 | _=>exact absurd (show false = true from f) Bool.false_ne_true
theorem any_eqU {x:V}:∀ {xs:List V} {us:List Value},Vals xs us→xs.all flatV = true→us.any (eqU x) = xs.any fun y=>eqV y x
 | _,_,.nil,_=>rfl
 | y :: xs,u :: us,.cons r t,f=>by
  rw [List.all_cons,Bool.and_eq_true] at f
  rw [List.any_cons,List.any_cons,eqU_of r f.1,any_eqU t f.2]
theorem mem_eqAt {A:Around} {s:Shared} {x:V} {v:Value} (rx:RelV x v) (fx:flatV x = true):∀ {xs:List V} {us:List Value},Vals xs us→xs.all flatV = true→∀ u ∈ us,SeqAt.EqAt A s u v (eqU x u)
 | _,_,.nil,_=>fun u hu=>by cases hu
 | y :: xs,u :: us,.cons r t,f=>fun u' hu=>by
  rw [List.all_cons,Bool.and_eq_true] at f
  rcases List.mem_cons.mp hu with rfl | hu
  ·rw [eqU_of r f.1]; exact eqAt_V r rx f.1 fx
  ·exact mem_eqAt rx fx t f.2 u' hu
def inV (x:V) (xs:List V):Bool:=xs.any fun y=>eqV y x
def rIn (K:PySem.W.Frag) (neg:Bool):R2:=fun x y H Q=>∃ p xs,y = .ref p∧(SqL K H p xs∨SqT K H p xs)∧flatV x = true∧xs.all flatV = true∧Q (.bl (if neg then !inV x xs else inV x xs)) H
theorem op_in_seq:OpR X (compareOp .In) (rIn X.K false):=by
 intro pins s σ H x y v u Q I rx ry h
 obtain ⟨p,xs,rfl,hq,fx,fs,q⟩:=h
 cases ry
 rcases hq with hq | hq
 ·obtain ⟨its,r,pl,hz⟩:=I.list hq
  refine SeqAt.in_listAt (eqU x) pl.isList (fun w hw=>mem_eqAt rx fx r fs w (by simpa using hw)) ⟨.bl _,H,I,rfl,?_⟩
  rw [show its.toArray.any (eqU x) = its.any (eqU x) by simp,any_eqU r fs]
  exact q
 ·obtain ⟨its,r,pl,hz⟩:=I.tuple hq
  refine SeqAt.in_tupleAt (eqU x) pl (fun w hw=>mem_eqAt rx fx r fs w (by simpa using hw)) ⟨.bl _,H,I,rfl,?_⟩
  rw [show its.toArray.any (eqU x) = its.any (eqU x) by simp,any_eqU r fs]
  exact q
theorem op_notIn_seq:OpR X (compareOp .NotIn) (rIn X.K true):=by
 intro pins s σ H x y v u Q I rx ry h
 obtain ⟨p,xs,rfl,hq,fx,fs,q⟩:=h
 cases ry
 rcases hq with hq | hq
 ·obtain ⟨its,r,pl,hz⟩:=I.list hq
  refine SeqAt.notIn_listAt (eqU x) pl.isList (fun w hw=>mem_eqAt rx fx r fs w (by simpa using hw)) ⟨.bl _,H,I,rfl,?_⟩
  rw [show its.toArray.any (eqU x) = its.any (eqU x) by simp,any_eqU r fs]
  exact q
 ·obtain ⟨its,r,pl,hz⟩:=I.tuple hq
  refine SeqAt.notIn_tupleAt (eqU x) pl (fun w hw=>mem_eqAt rx fx r fs w (by simpa using hw)) ⟨.bl _,H,I,rfl,?_⟩
  rw [show its.toArray.any (eqU x) = its.any (eqU x) by simp,any_eqU r fs]
  exact q
theorem call_len_seq:CallR X (.builtin "len") (fun xs H Q=>∃ p ys,xs = [.ref p]∧(SqL X.K H p ys∨SqT X.K H p ys)∧Q (.int ys.length) H):=by
 intro pins s σ H xs us Q I r h
 obtain ⟨p,ys,rfl,hq,q⟩:=h
 obtain ⟨u,rfl,rx⟩:=vals1 r
 cases rx
 have hn:=line63
 rcases hq with hq | hq
 ·obtain ⟨its,r',pl,hz⟩:=I.list hq
  have hlen:=r'.length
  exact Calls.call_len_list pl.isList (by simp only [List.size_toArray] <;> omega) ⟨.int ys.length,H,I.tok _,⟨s.toks + 1,by rw [List.size_toArray,hlen]⟩,q⟩
 ·obtain ⟨its,r',pl,hz⟩:=I.tuple hq
  have hlen:=r'.length
  exact len_tuple pl (by simp only [List.size_toArray] <;> omega) ⟨.int ys.length,H,I.tok _,⟨s.toks + 1,by rw [List.size_toArray,hlen]⟩,q⟩
theorem call_list_of:CallR X (.type "list") (fun xs H Q=>∃ p ys,xs = [.ref p]∧(SqL X.K H p ys∨SqT X.K H p ys)∧∀ l,H l = none→Q (.ref l) (upd H l (.lst ys))):=by
 intro pins s σ H xs us Q I r h
 obtain ⟨p,ys,rfl,hq,q⟩:=h
 obtain ⟨u,rfl,rx⟩:=vals1 r
 cases rx
 have fin:∀ (its:List Value),Vals ys its→ys.length ≤ sizeLine→∀ (h':Heap) (c':Nat),(∀ b o',s.heap.get? b = some o'→h'.get? b = some o') →
   h'.get? s.heap.objs.size = some { cls:=.type "list",dict:=none,data:=.seq its.toArray c',slots:=#[] }→EP X pins σ Q (.ref s.heap.objs.size) { s with heap:=h' }:=fun its r' hz h' c' kp e=>
  ⟨.ref s.heap.objs.size,_,I.laid (t':=s.toks) kp (Nat.le_refl _) (show ObjOk X.prog X.w _ h' _ (.lst ys) from ⟨hz,its,c',r',e⟩),rfl,q _ (I.hok.fresh (Nat.le_refl _))⟩
 rcases hq with hq | hq
 ·obtain ⟨its,r',pl,hz⟩:=I.list hq
  have hlen:=r'.length
  obtain ⟨o,ho,hc,n,hd⟩:=pl.isList
  exact call_list_seq p (.inl rfl) ho hc hd (fun h' c' kp e=>fin its r' hz h' c' kp e) (by simp only [List.size_toArray] <;> omega)
 ·obtain ⟨its,r',pl,hz⟩:=I.tuple hq
  have hlen:=r'.length
  obtain ⟨o,ho,hc,n,hd⟩:=pl
  exact call_list_seq p (.inr rfl) ho hc hd (fun h' c' kp e=>fin its r' hz h' c' kp e) (by simp only [List.size_toArray] <;> omega)
theorem call_tuple_of:CallR X (.type "tuple") (fun xs H Q=>∃ p ys,xs = [.ref p]∧((SqL X.K H p ys∧∀ l,H l = none→Q (.ref l) (upd H l (.tup ys)))∨(SqT X.K H p ys∧Q (.ref p) H))):=by
 intro pins s σ H xs us Q I r h
 obtain ⟨p,ys,rfl,h⟩:=h
 obtain ⟨u,rfl,rx⟩:=vals1 r
 cases rx
 rcases h with ⟨hq,q⟩ | ⟨hq,q⟩
 ·obtain ⟨its,r',pl,hz⟩:=I.list hq
  have hlen:=r'.length
  refine call_tuple_list pl.isList (fun h' kp=>?_) (by simp only [List.size_toArray] <;> omega)
  have I1:Inv X pins σ H { s with heap:=h' }:=I.kept (t':=s.toks) kp
  have I2:Inv X pins σ (upd H h'.objs.size (.tup ys)) { s with heap:=h'.push { cls:=.type "tuple",data:=.seq its.toArray } }:=
   I1.laid (t':=s.toks) (fun b o e=>Heap.get?_push_of_some _ e) (Nat.le_refl _) (show ObjOk X.prog X.w _ _ _ (.tup ys) from ⟨hz,its,r',IsTup.new _ _,tup_nodict⟩)
  exact ⟨.ref h'.objs.size,_,I2,rfl,q _ (I1.hok.fresh (Nat.le_refl _))⟩
 ·obtain ⟨its,r',pl,hz⟩:=I.tuple hq
  exact call_tuple_same pl ⟨.ref p,H,I,rfl,q⟩
def tyV (K:PySem.W.Frag) (T:String) (x:V) (H:Hp):Prop:=match x with
 | .str _=>T = "str"
 | .int _=>T = "int"
 | .ref p=>(T = "list"∧∃ xs,SqL K H p xs)∨(T = "tuple"∧∃ o,K.lookup p = some o∧o.cls = .type "tuple"∧o.dict = none) ∨
   (T = "dict"∧((∃ kvs,H p = some (.dK kvs))∨∃ kvs,H p = some (.dT kvs)))∨(T = "set"∧∃ S n,H p = some (.set S n))
 | _=>False
theorem tyV_is {pins:List (Addr×Obj)} {σ:St} {H:Hp} {s:Shared} {T:String} {x:V} {v:Value} (I:Inv X pins σ H s) (r:RelV x v) (ty:tyV X.K T x H) :
  s.TypeIs v T∧∀ a,v = .ref a→∃ ob,s.heap.get? a = some ob∧ob.dict = none:=by
 cases x with
 | str z=>
  obtain ⟨t,rfl⟩:=r
  cases (show T = "str" from ty)
  exact ⟨typeIs_str s z t,fun _ e=>nomatch e⟩
 | int i=>
  obtain ⟨t,rfl⟩:=r
  cases (show T = "int" from ty)
  exact ⟨typeIs_int s i t,fun _ e=>nomatch e⟩
 | ref p=>
  cases r
  rcases ty with ⟨rfl,xs,hq⟩ | ⟨rfl,o,hk,hc,hd⟩ | ⟨rfl,hk⟩ | ⟨rfl,S,n,hk⟩
  ·obtain ⟨its,_,pl,_⟩:=I.list hq
   refine ⟨pl.isList.typeIs,fun a e=>?_⟩
   cases e
   obtain ⟨o,n,e,c,hd,_⟩:=pl
   exact ⟨o,e,hd⟩
  ·refine ⟨⟨o,I.kIn p o hk,hc⟩,fun a e=>?_⟩
   cases e
   exact ⟨o,I.kIn _ o hk,hd⟩
  ·have z:∃ o,s.heap.get? p = some o∧o.ExactDict:=by
    rcases hk with ⟨kvs,hk⟩ | ⟨kvs,hk⟩
    ·obtain ⟨_,_,_,_,o,_,_,e,ex,_⟩:=I.hok p _ hk
     exact ⟨o,e,ex⟩
    ·obtain ⟨_,_,_,_,o,_,_,e,ex,_⟩:=I.hok p _ hk
     exact ⟨o,e,ex⟩
   obtain ⟨o,e,ex⟩:=z
   refine ⟨⟨o,e,ex.1⟩,fun a e2=>?_⟩
   cases e2
   exact ⟨o,e,ex.2.1⟩
  ·obtain ⟨o,_,_,_,e,ex,_⟩:=I.hok p _ hk
   refine ⟨⟨o,e,ex.1⟩,fun a e2=>?_⟩
   cases e2
   exact ⟨o,e,ex.2.1⟩
 | _=>exact False.elim ty
def tBM0 (K:PySem.W.Frag) (T:String) (r:V→List V→Hp→VK→Prop) (to:TE):TE:=fun σ H Q=>to σ H fun x H1=>tyV K T x H1∧r x [] H1 Q
def tBM (K:PySem.W.Frag) (T:String) (r:V→List V→Hp→VK→Prop) (to:TE) (t:TA):TE:=fun σ H Q=>to σ H fun x H1=>tyV K T x H1∧t σ H1 fun xs H2=>r x xs H2 Q
variable {o e:Expr} {es:List Expr} {to:TE} {t:TA} {name:Str} {apos cpos:Pos} {T id:String} {r:V→List V→Hp→VK→Prop}
theorem pe_bm0 (pa:PlainAttrs T) (slot:Slot T name id) (hty:typeOf (.builtin id) = pure (.type "method_descriptor")) (hm:MtR X id r) (ho:PE X o to)
  (hbase:attributeBase o name X.env (eval o X.env) = eval o X.env:=by rfl) (hline:(apos.endLine == cpos.line) = true:=by rfl):PE X (.Call (.Attribute o name apos) [] [] cpos) (tBM0 X.K T r to):=by
 intro pins s σ H Q I h
 refine wpAny_Call_method0_late hbase hline (thn (ho pins s σ H _ I h) fun v s1 ⟨x,H1,I1,r1,ty,q1⟩=>?_)
 obtain ⟨h1,h2⟩:=tyV_is I1 r1 ty
 exact ⟨T,id,pa,slot,hty,h1,h2,Calls.callWith_builtin rfl (PySem.evalArgs_none (hm pins s1 σ H1 x [] v [] Q I1 r1 .nil q1))⟩
theorem pe_bm (pa:PlainAttrs T) (slot:Slot T name id) (hty:typeOf (.builtin id) = pure (.type "method_descriptor")) (hm:MtR X id r) (ho:PE X o to) (ha:PA X (e :: es) t)
  (hbase:attributeBase o name X.env (eval o X.env) = eval o X.env:=by rfl)
  (hfew:((backTo cpos (starEach (e :: es) X.env)).all (fun x=>!x.1) && (backToKw cpos (keywordEach [] X.env)).all (fun x=>x.1.isSome)
   && decide ((e :: es).length + ([]:List Keyword).length + (if ([]:List Keyword).isEmpty then 0 else 1) < 30)) = true:=by rfl)
  (hline:(apos.endLine == cpos.line) = true:=by rfl) (hs:starEach (e :: es) X.env = (false,eval e X.env) :: starEach es X.env:=by rfl) (hplain:(backTo cpos (starEach es X.env)).any (·.1) = false:=by rfl) :
  PE X (.Call (.Attribute o name apos) (e :: es) [] cpos) (tBM X.K T r to t):=by
 intro pins s σ H Q I h
 refine wpAny_Call_method_late hbase hfew hline rfl (thn (ho pins s σ H _ I h) fun v s1 ⟨x,H1,I1,r1,ty,q1⟩=>?_)
 obtain ⟨h1,h2⟩:=tyV_is I1 r1 ty
 refine ⟨T,id,pa,slot,hty,h1,h2,?_⟩
 have hA:=ha cpos pins s1 σ H1 _ I1 q1
 rw [hs] at hA ⊢
 refine Calls.callWith_builtin (by show (false || (backTo cpos (starEach es X.env)).any (·.1)) = false; rw [hplain] <;> rfl) (Calls.evalArgs_plain ?_)
 exact thn hA fun us s2 ⟨vs,H2,I2,r2,q2⟩=>hm pins s2 σ H2 x vs v us Q I2 r1 r2 q2
end
def MtM (X:Cx) (id:String) (r:V→List V→Hp→VK→Prop):Prop:=
 ∀ (pins:List (Addr×Obj)) (s:Shared) (σ:St) (H:Hp) (x:V) (xs:List V) (v:Value) (us:List Value) (Q:VK),Inv X pins σ H s→RelV x v→Vals xs us→r x xs H Q →
  wpAny (model X.prog X.w) X.A (call (.builtin id) (v :: us)) (EP X pins σ Q) X.xe s
theorem Vals.one:∀ {x:V} {us:List Value},Vals [x] us→∃ u,us = [u]∧RelV x u
 | _,_,.cons r .nil=>⟨_,rfl,r⟩
theorem Vals.zero:∀ {us:List Value},Vals [] us→us = []
 | _,.nil=>rfl
theorem Vals.eraseIdx:∀ {xs:List V} {us:List Value} (i:Nat),Vals xs us→Vals (xs.eraseIdx i) (us.eraseIdx i)
 | _,_,_,.nil=>.nil
 | _,_,0,.cons _ t=>t
 | _,_,i + 1,.cons r t=>.cons r (Vals.eraseIdx i t)
theorem Vals.reverse {xs:List V} {us:List Value} (h:Vals xs us):Vals xs.reverse us.reverse:=by
 induction h with
 | nil=>exact .nil
 | cons r t ih=>rw [List.reverse_cons,List.reverse_cons]; exact Vals.append ih (.cons r .nil)
theorem len_erase {α:Type}:∀ (l:List α) (i:Nat),(l.eraseIdx i).length ≤ l.length
 | [],_=>Nat.le_refl _
 | _ :: _,0=>Nat.le_succ _
 | _ :: r,i + 1=>Nat.succ_le_succ (len_erase r i)
section
variable {X:Cx} {pins:List (Addr×Obj)} {σ:St} {H:Hp} {s:Shared} {l b:Addr} {xs ys zs:List V}
theorem Inv.lset {its its':List Value} {n:Nat} {f:Array Value→Array Value} {t':Nat} (I:Inv X pins σ H s) (hH:H l = some (.lst xs))
  (e:s.heap.get? l = some { cls:=.type "list",data:=.seq its.toArray n }) (hf:f its.toArray = its'.toArray) (hv:Vals ys its') (hz:ys.length ≤ sizeLine) :
  Inv X pins σ (upd H l (.lst ys)) { s with heap:=s.heap.update l (Obj.mapSeq f),toks:=t' }:=by
 have q:=PySem.IsL.update e f
 rw [hf] at q
 refine I.write (x:=l) (e:=l) (by rw [hH]; exact trivial) (.inl rfl) (fun b' u hb hu=>(Heap.get?_update_other s.heap (Obj.mapSeq f) (Ne.symm hb)).trans hu) ⟨_,q⟩ ?_
 exact ⟨hz,its',_,hv,q⟩
theorem Inv.lnew {its:List Value} {t':Nat} (I:Inv X pins σ H s) (hv:Vals ys its) (hz:ys.length ≤ sizeLine) :
  Inv X pins σ (upd H s.heap.objs.size (.lst ys)) { s with heap:=s.heap.push { cls:=.type "list",data:=.seq its.toArray },toks:=t' }:=
 I.laid (fun _ _ q=>Heap.get?_push_of_some _ q) (Nat.le_refl _) ⟨hz,its,0,hv,Heap.get?_push_size _ rfl⟩
theorem Inv.fresh (I:Inv X pins σ H s):H s.heap.objs.size = none:=I.hok.fresh (Nat.le_refl _)
theorem Inv.lstM (I:Inv X pins σ H s) (hH:H l = some (.lst xs)):xs.length ≤ sizeLine∧∃ (its:List Value) (n:Nat),Vals xs its∧xs.length = its.length∧s.heap.get? l = some { cls:=.type "list",data:=.seq its.toArray n }:=by
 obtain ⟨z,its,n,r,e⟩:=I.hok l _ hH
 exact ⟨z,its,n,r,r.length,e⟩
end
section
variable {X:Cx}
def rAppend:V→List V→Hp→VK→Prop:=fun x vs H Q=>∃ l xs y,x = .ref l∧vs = [y]∧H l = some (.lst xs)∧xs.length < sizeLine∧Q .non (upd H l (.lst (xs ++ [y])))
theorem mt_append:MtM X "list.append" rAppend:=by
 intro pins s σ H x vs v us Q I rx rv h
 obtain ⟨l,xs,y,rfl,rfl,hH,hz,q⟩:=h
 cases rx
 obtain ⟨u,rfl,ru⟩:=rv.one
 obtain ⟨z,its,n,r,hl,e⟩:=I.lstM hH
 refine call_meets F.slot_list_append ⟨_,e,rfl⟩ F.entry_list_append (F.args_list_append_2 _ _) (PySem.list_append l its.toArray n u (by rw [List.size_toArray]; omega)) ⟨e,?_⟩
 refine ⟨.non,_,I.lset (its':=its ++ [u]) hH e (by simp) (r.append (.cons ru .nil)) ?_,rfl,q⟩
 rw [List.length_append,List.length_singleton]
 omega
def rReverse:V→List V→Hp→VK→Prop:=fun x vs H Q=>∃ l xs,x = .ref l∧vs = []∧H l = some (.lst xs)∧Q .non (upd H l (.lst xs.reverse))
theorem mt_reverse:MtM X "list.reverse" rReverse:=by
 intro pins s σ H x vs v us Q I rx rv h
 obtain ⟨l,xs,rfl,rfl,hH,q⟩:=h
 cases rx
 have hus:=rv.zero
 subst hus
 obtain ⟨z,its,n,r,hl,e⟩:=I.lstM hH
 refine call_meets F.slot_list_reverse ⟨_,e,rfl⟩ F.entry_list_reverse (F.args_list_reverse_1 _) (AutoSeq1.list_reverse_list_0 l its.toArray n (by rw [List.size_toArray]; omega)) ⟨e,?_⟩
 refine ⟨.non,_,I.lset (its':=its.reverse) hH e (by simp) r.reverse ?_,rfl,q⟩
 rw [List.length_reverse]
 omega
def rCat:R2:=fun x y H Q=>∃ l b xs zs,x = .ref l∧y = .ref b∧H l = some (.lst xs)∧H b = some (.lst zs)∧xs.length + zs.length ≤ sizeLine∧∀ p,H p = none→Q (.ref p) (upd H p (.lst (xs ++ zs)))
theorem op_cat:OpR X (binaryOp .Add) rCat:=by
 intro pins s σ H x y v u Q I rx ry h
 obtain ⟨l,b,xs,zs,rfl,rfl,hH,hB,hz,q⟩:=h
 cases rx
 cases ry
 obtain ⟨z,its,n,r,hl,e⟩:=I.lstM hH
 obtain ⟨z2,its2,n2,r2,hl2,e2⟩:=I.lstM hB
 refine PySem.P.add_list e e2 ?_ (by rw [List.size_toArray,List.size_toArray]; omega)
 have ea:its.toArray ++ its2.toArray = (its ++ its2).toArray:=by simp
 rw [ea]
 exact ⟨.ref _,_,I.lnew (t':=s.toks) (r.append r2) (by rw [List.length_append]; omega),rfl,q _ I.fresh⟩
end
section
variable {prog:Program} {w:World} {A:Around} {E:Value→Shared→Prop} {s:Shared}
end
section
variable {X:Cx}
end
end L2
namespace Att
open PySem PySem.W PySem.Calls PyProof.Rows
theorem ints_of_wellAll {P:Params} {h:Heap}:∀ (ns:List Int) (vs:List Value),WellAll P h vs (ns.map WData.int)→IntsAre vs ns:=by
 intro ns
 induction ns with
 | nil=>
  intro vs w
  rw [List.map_nil] at w
  cases w
  exact .nil
 | cons n ns ih=>
  intro vs w
  rw [List.map_cons] at w
  cases w with
  | cons a b=>
   cases a
   exact .cons _ _ (ih _ b)
theorem script_of {l:OpenLaw} {n:Nat} (hn:l.most = some n) {P:Params} {h:Heap} {args:List WData} {vals:List Value}
  (hpre:l.row.toRowW.claim.pre args = true) (hwl:WellAll P h vals args) :
  ∃ a vs ns,vals = [Value.ref a]∧args = [WData.list (ns.map WData.int)]∧h.get? a = some { cls:=.type "list",data:=.seq vs.toArray }∧IntsAre vs ns∧ns.length ≤ n:=by
 have hsh:WShape.hasAll [] args [.list .int] = true:=(pre_splitW hpre).1
 have hc:l.pre.holds [] { args:=args } = true:=(pre_splitW hpre).2
 obtain ⟨d,r,rfl,h1,h2⟩:=hasAllW_cons hsh
 obtain rfl:=hasAllW_nil h2
 obtain ⟨xs,rfl,h3⟩:=hasW_list h1
 obtain ⟨ns,rfl⟩:=items_int h3
 have hlen:ns.length ≤ n:=by
  unfold OpenLaw.pre at hc
  have h4:(WTm.not (.lt (.lit (.int (n:Int))) (.len (.arg 0)))).holds [] { args:=[.list (ns.map .int)] } = true:=by
   have h4:=(holds_andW hc).1
   rw [hn] at h4
   exact h4
  have h5:=condW_of h4 (w_not (w_lt w_lit (w_len_list (w_arg rfl))))
  rw [List.length_map] at h5
  refine Nat.le_of_not_lt fun q=>?_
  have q':(n:Int) < ((ns.length:Nat):Int):=by omega
  first
   | (rw [decide_eq_true q'] at h5; exact absurd h5 (by decide))
   | (simp at h5; omega)
 cases hwl with
 | cons w1 w2=>
  cases w2
  cases w1 with
  | list ho hall=>exact ⟨_,_,ns,rfl,rfl,ho,ints_of_wellAll ns _ hall,hlen⟩
theorem post_true (l:OpenLaw) (args:List WData):l.row.toRowW.claim.post args (.bool true) args = true:=
 postW_of (r:=l.row.toRowW) (X:=(true == true))
  (show WShape.has [] (.bool true) .bool = true by first | rfl | decide | simp [WShape.has,WShape.arms,WShape.armsAll])
  (show (WTm.eq .res (.lit (.bool true))).value [] { args:=args,res:=some (.bool true),after:=args } = some (.bool (true == true)) from w_eq_bool (w_res rfl) w_lit) rfl
theorem attach_call {l:OpenLaw} {n:Nat} {q:Program} {loose:List Str} {XP:(Str→Option Value)→Heap→Prop} {YP:World→Heap→Prop} {d:DefRec}
  (hn:l.most = some n) (hdf:d.params.defaults = [])
  (call:∀ (w:World) (s₀ s₁:Shared) (mg mb:Str→Option Value) (fa:Addr) (o:Obj) (pm cd doc:Value) (a:Addr) (vs:List Value) (ns:List Int),
   Ground q loose [] XP w s₀ mg mb s₁.heap→YP w s₁.heap →
   s₁.heap.get? fa = some o→o.data = .func (docDef d.name d.params d.body d.scope pm cd doc)→s₁.heap.CodeRec cd d.name→mg d.name = some (.ref fa) →
   s₁.heap.get? a = some { cls:=.type "list",data:=.seq vs.toArray }→IntsAre vs ns→ns.length ≤ n→s₁.gens = #[] →
   codeAny (model l.prog w) callerA (.call (.ref fa) ⟨[.ref a],[]⟩) (fun r s'=>r = .ok (.ret (.bool true))∧OldK s₁.heap s'.heap∧s'.os = s₁.os∧AllBare s'.gens) s₁) :
  WalkO q loose XP YP l.row.toRowW d [] (fun f vs=>PySem.call f vs):=by
 intro w s₀ s₁ mg mb G Y fa o pm cd doc dV kV ho hd hcd hD hmg hg args vals as hpre hlay hrd hwl hlo
 obtain rfl:dV = .none:=Dflts.none hD hdf
 obtain rfl:kV = .none:=Dflts.noKw hD
 obtain ⟨a,vs,ns,rfl,rfl,hobj,hints,hlen⟩:=script_of hn hpre hwl
 refine enter_call (codeAny_mono (call w s₀ s₁ mg mb fa o pm cd doc a vs ns G Y ho (fd_plain hd) hcd hmg hobj hints hlen hg) fun r s' hq=>?_)
 obtain ⟨rfl,h2,h3,h4⟩:=hq
 exact ⟨.inl ⟨.bool true,.bool true,[],rfl,fun _=>rfl,.bool true,post_true l _,fun _=>⟨List.Pairwise.nil,fun _ hm=>(nomatch hm)⟩⟩,h2,h3,h4⟩
section
variable {prog:Program} {w:World} {A:Around} {E:Value→Shared→Prop} {s:Shared} {K:Frag}
end
end Att
namespace L2
open PySem PySem.Spec PyProof.Rows
theorem vals_ints:∀ {vs:List Value} {ns:List Int},IntsAre vs ns→Vals (ns.map V.int) vs
 | _,_,.nil=>.nil
 | _,_,.cons n t h=>.cons ⟨t,rfl⟩ (vals_ints h)
def Only (H:Hp):Prop:=∀ b,H b = none∨∃ o xs,H b = some (.frz o (.lst xs))
theorem law_call {P:Program} {w:World} {K:PySem.W.Frag} {mg mb:Str→Option Value} {CX:CXT} {k:Nat} {fa a:Addr} {fd:FuncData} {x:Str} {sp:Sp} {s₁:Shared} {vs:List Value} {ns:List Int}
  (KX:K.In s₁.heap) (hns:s₁.heap.Ns mainGlobals mg) (hb:s₁.heap.Ns builtinsNs mb) (hbb:∀ x:Str,x ≠ "__name__"→mb x = bootBuiltins x) (hlim:s₁.heap.NoLimit) (hg:s₁.gens = #[])
  (ha:s₁.heap.get? a = some { cls:=.type "list",data:=.seq vs.toArray }) (hi:IntsAre vs ns) (hl:ns.length ≤ sizeLine) (hr:Room k callerA)
  (F:∀ base:Heap,K.In base→base.Ns mainGlobals mg→FnOk P w K mg base CX k fa fd [x] sp) (hbind:∀ (s:Shared) (u:Value),BindsTo s fd ⟨[u],[]⟩ [(x,u)])
  (hsp:∀ H:Hp,Only H→SqL K H a (ns.map V.int)→sp [.ref a] H (fun v _=>v = .bl true) fun _ _ _=>False)
  (hCX:∀ H e s',CX [] H s₁ (fun _ _ _=>False) e s'→False) :
  codeAny (model P w) callerA (.call (.ref fa) ⟨[.ref a],[]⟩) (fun r s'=>r = .ok (.ret (.bool true))∧OldK s₁.heap s'.heap∧s'.os = s₁.os∧AllBare s'.gens) s₁:=by
 have rv:=vals_ints hi
 have lenV:=hi.length
 -- from an abstract heap in which nothing but the script may be tracked
 have core:∀ H:Hp,Only H→SqL K H a (ns.map V.int)→HOk P w H s₁.heap→(∀ b,H b ≠ none→b = a)→(H a ≠ none→K.lookup a = none) →
   codeAny (model P w) callerA (.call (.ref fa) ⟨[.ref a],[]⟩) (fun r s'=>r = .ok (.ret (.bool true))∧OldK s₁.heap s'.heap∧s'.os = s₁.os∧AllBare s'.gens) s₁:=by
  intro H hO hS hok hA hK
  have base_of:∀ {b:Addr} {o:Obj},s₁.heap.get? b = some o→H b = none→(hidT s₁.heap H).get? b = some o:=fun e n=>hidT_get e n
  have noA:∀ {b:Addr} {o:Obj} {es:Array DictEntry} {ep:Nat},s₁.heap.get? b = some o→o.data = .dict es ep→H b = none:=fun {b o es ep} e d=>by
   cases q:H b with
   | none=>rfl
   | some u=>
    have e':b = a:=hA b (by rw [q]; simp)
    subst e'
    rw [ha] at e; cases e
    have d':Data.seq vs.toArray _ = Data.dict es ep:=d
    cases d'
  have nsK:∀ {b:Addr} {m:Str→Option Value},s₁.heap.Ns b m→(hidT s₁.heap H).Ns b m:=fun {b m} ⟨o,es,ep,e,d,r⟩=>⟨o,es,ep,base_of e (noA e d),d,r⟩
  have hKb:K.In (hidT s₁.heap H):=fun b o e=>base_of (KX b o e) (by
   cases q:H b with
   | none=>rfl
   | some u=>
    have e':b = a:=hA b (by rw [q]; simp)
    subst e'
    rw [hK (by rw [q]; simp)] at e; cases e)
  have hM:Mod K mg (hidT s₁.heap H):=⟨hKb,nsK hns,⟨mb,nsK hb,hbb⟩,let ⟨mc,h1,h2⟩:=hlim; ⟨mc,nsK h1,h2⟩⟩
  have e0:Env0 P w K mg (hidT s₁.heap H) callerA [] s₁ H:=⟨rfl,hM,fun b o e=>of_hidT e,Nat.le_of_eq (hidT_size _ _),trivial,fun b hb=>absurd (show b ∈ ([]:List Addr) from hb) (by simp),hok,.of_eq hg⟩
  refine codeAny_mono ((F _ hKb (nsK hns)).run callerA [] s₁ H ⟨[.ref a],[]⟩ [.ref a] [.ref a] _ _ hr e0 (hbind s₁ (.ref a)) (.cons rfl .nil) (hsp H hO hS)) fun r s' h=>?_
  cases r with
  | error e=>exact (hCX H e s' h).elim
  | ok fl=>
   cases fl with
   | next=>exact False.elim h
   | brk=>exact False.elim h
   | cont=>exact False.elim h
   | ret u=>
    obtain ⟨v,H',os,bare,un,hok',r',q⟩:=h
    have q':v = .bl true:=q
    subst q'
    obtain rfl:u = Value.bool true:=r'
    refine ⟨rfl,OldK.of_keep fun b o e=>?_,os,bare⟩
    cases q:H b with
    | none=>exact un.keep b o e q (by intro z; exact absurd (show b ∈ ([]:List Addr) from z) (by simp)) (by simp)
    | some u=>
     rcases hO b with z | ⟨ob,xs,z⟩
     ·rw [q] at z; cases z
     ·have z2:=un.frzs b ob _ z
      obtain ⟨e1,_⟩:=hok b _ z
      obtain ⟨e2,_⟩:=hok' b _ z2
      rw [e] at e1; cases e1
      exact e2
 cases hk:K.lookup a with
 | some o=>
  -- the script is one of the module's own objects
  have e:=KX a o hk
  rw [ha] at e
  cases e
  refine core (fun _=>none) (fun _=>.inl rfl) (.inr ⟨_,vs.toArray,_,hk,rfl,rfl,rfl,by rw [List.size_toArray,lenV]; exact hl,by simpa using rv⟩) (fun b u z=>by have z':(none:Option HO) = some u:=z; cases z') (fun b z=>absurd rfl z) fun z=>absurd rfl z
 | none=>
  refine core (fun b=>if b = a then some (.frz { cls:=.type "list",data:=.seq vs.toArray } (.lst (ns.map V.int))) else none) (fun b=>?_) (.inl (.inr ⟨{ cls:=.type "list",data:=.seq vs.toArray },if_pos rfl⟩)) (fun b u z=>?_) (fun b z=>?_) fun _=>hk
  ·by_cases hb:b = a
   ·exact .inr ⟨_,_,if_pos hb⟩
   ·exact .inl (if_neg hb)
  ·by_cases hb:b = a
   ·have z':=(if_pos hb).symm.trans z
    cases z'
    subst hb
    exact ⟨ha,by rw [List.length_map]; exact hl,vs,_,rv,ha⟩
   ·have z':=(if_neg hb).symm.trans z
    cases z'
  ·by_cases hb:b = a
   ·exact hb
   ·exact absurd (if_neg hb) z
abbrev KOf {K:PySem.W.Frag} {h:Heap} (_:K.In h):PySem.W.Frag:=K
theorem walk_of {l:PySem.W.OpenLaw} {n k:Nat} {q:Program} {loose:List Str} {XP:(Str→Option Value)→Heap→Prop} {YP:World→Heap→Prop} {d:DefRec} {K:Params→PySem.W.Frag} {CX:World→CXT} {sp:World→Sp} {x:Str}
  (hn:l.most = some n) (hn2:n ≤ sizeLine) (hdf:d.params.defaults = []) (hr:Room k callerA)
  (hY:∀ (w:World) (h:Heap),YP w h→(K w.params).In h)
  (F:∀ (w:World) (mg:Str→Option Value) (fa:Addr) (h:Heap),(K w.params).In h→h.Ns mainGlobals mg→mg d.name = some (.ref fa) →
   ∃ fd:FuncData,(∀ (s:Shared) (u:Value),BindsTo s fd ⟨[u],[]⟩ [(x,u)]) ∧
    ∀ base:Heap,(K w.params).In base→base.Ns mainGlobals mg→FnOk l.prog w (K w.params) mg base (CX w) k fa fd [x] (sp w))
  (hsp:∀ (w:World) (H:Hp) (a:Addr) (ns:List Int),ns.length ≤ n→Only H→SqL (K w.params) H a (ns.map V.int)→sp w [.ref a] H (fun v _=>v = .bl true) fun _ _ _=>False)
  (hCX:∀ (w:World) (H:Hp) (s:Shared) (e:Value) (s':Shared),CX w [] H s (fun _ _ _=>False) e s'→False) :
  PySem.W.WalkO q loose XP YP l.row.toRowW d [] (fun f vs=>PySem.call f vs):=by
 refine Att.attach_call hn hdf fun w s₀ s₁ mg mb fa o pm cd doc a vs ns G Y ho hd hcd hmg hobj hints hlen hg=>?_
 have KX:=hY w _ Y
 obtain ⟨fd,hb,hF⟩:=F w mg fa _ KX G.T.g hmg
 exact law_call KX G.T.g G.T.b G.T.builtins G.T.nolimit hg hobj hints (Nat.le_trans hlen hn2) hr hF hb (fun H hO hS=>hsp w H a ns hlen hO hS) fun H e s'=>hCX w H s₁ e s'
theorem walk_ofK {l:PySem.W.OpenLaw} {n k:Nat} {q:Program} {loose:List Str} {XP:(Str→Option Value)→Heap→Prop} {YP:World→Heap→Prop} {d:DefRec} {K:Params→PySem.W.Frag} {CX:CXT} {sp:PySem.W.Frag→Sp} {x:Str}
  (hn:l.most = some n) (hn2:n ≤ sizeLine) (hdf:d.params.defaults = []) (hr:Room k callerA)
  (hY:∀ (w:World) (h:Heap),YP w h→(K w.params).In h)
  (F:∀ (w:World) (mg:Str→Option Value) (fa:Addr) (h:Heap),(K w.params).In h→h.Ns mainGlobals mg→mg d.name = some (.ref fa) →
   ∃ fd:FuncData,(∀ (s:Shared) (u:Value),BindsTo s fd ⟨[u],[]⟩ [(x,u)]) ∧
    ∀ base:Heap,(K w.params).In base→base.Ns mainGlobals mg→FnOk l.prog w (K w.params) mg base CX k fa fd [x] (sp (K w.params)))
  (hsp:∀ (K:PySem.W.Frag) (H:Hp) (a:Addr) (ns:List Int),ns.length ≤ n→Only H→SqL K H a (ns.map V.int)→sp K [.ref a] H (fun v _=>v = .bl true) fun _ _ _=>False)
  (hCX:∀ (H:Hp) (s:Shared) (e:Value) (s':Shared),CX [] H s (fun _ _ _=>False) e s'→False) :
  PySem.W.WalkO q loose XP YP l.row.toRowW d [] (fun f vs=>PySem.call f vs):=
 walk_of (K:=K) (CX:=fun _=>CX) (sp:=fun w=>sp (K w.params)) hn hn2 hdf hr hY F (fun w H a ns h1 h2 h3=>hsp (K w.params) H a ns h1 h2 h3) fun _ H s e s'=>hCX H s e s'
def inClass (s:Stmt) (j:Nat):Stmt:=match s with
 | .ClassDef _ _ _ body _ _ _ _ _ _ _=>body.getD j (.Pass ⟨0,0,0,0⟩)
 | _=>.Pass ⟨0,0,0,0⟩
def defArgs (s:Stmt):Arguments:=match s with
 | .FunctionDef _ a _ _ _ _ _ _ _ _=>a
 | _=>{ posonlyargs:=[],args:=[],vararg:=none,kwonlyargs:=[],kw_defaults:=[],kwarg:=none,defaults:=[] }
def defBody (s:Stmt):List Stmt:=match s with
 | .FunctionDef _ _ b _ _ _ _ _ _ _=>b
 | _=>[]
def defScope (s:Stmt):Scope:=match s with
 | .FunctionDef _ _ _ _ _ _ sc _ _ _=>sc
 | _=>{ kind:=.function,names:=[],isGenerator:=false,isCoroutine:=false }
abbrev CX0:CXT:=fun _ _ _ _ _ _=>False
abbrev E0:XK:=fun _ _ _=>False
theorem pass0 {X:Cx}:Passes CX0 X E0:=fun _ _ _ _ _ _ _ h=>h.elim
structure Fun (K:PySem.W.Frag) (x qual:Str) (st:Stmt) (f:Addr) (fd:FuncData):Prop where
 ex:∃ (oc:Value) (od:Option Addr) (kV doc pm:Value) (an:Option Addr) (cdv ct:Value) (osl:Array (Option Value)),
  fd = PySem.W.fnOf x qual (defArgs st) (defBody st) (defScope st) .none kV doc pm an cdv ct∧K.lookup f = some ⟨oc,od,.func fd,osl⟩∧PySem.W.codeIn K cdv qual = true
 kp:PySem.W.keepIn K (.ref f) = true
section
variable {P:Program} {w:World} {K:PySem.W.Frag} {mg:Str→Option Value} {base:Heap}
theorem Fun.ok {x qual:Str} {st:Stmt} {f:Addr} {fd:FuncData} {N ps:List Str} {k:Nat} {sp:Sp} (F:Fun K x qual st f fd) (S:FnScope N ps (defScope st)) (len:∀ vs H Q E,sp vs H Q E→vs.length = ps.length)
  (hbody:∀ (cdv:Value) (A:Around) (outer:List Env) (s:Shared) (H:Hp) (vs:List V) (Q:VK) (E:XK),Room k (A.deeper (envOfC qual (defScope st) s.heap.objs.size f cdv))→sp vs H Q E →
   ∃ t,PSs (cxOf CX0 P w K mg base N qual (defScope st) f cdv A outer s H E).nox (defBody st) t∧t { nx:=fun _ H'=>Q .non H',rt:=Q } (start N vs) H):FnOk P w K mg base CX0 (k + 1) f fd ps sp:=by
 obtain ⟨oc,od,kV,doc,pm,an,cdv,ct,osl,rfl,lk,hcd⟩:=F.ex
 refine fn_of lk hcd S len fun A outer s H vs Q E hr hsp=>?_
 obtain ⟨t,h,q⟩:=hbody cdv A outer s H vs Q E hr hsp
 exact ⟨t,h.nox,q⟩
theorem Fun.binds {x qual:Str} {st:Stmt} {f:Addr} {fd:FuncData} {ps:List Str} (F:Fun K x qual st f fd)
  (h:∀ (kV doc pm:Value) (an:Option Addr) (cdv ct:Value) (us:List Value),us.length = ps.length→bindArgs (PySem.W.fnOf x qual (defArgs st) (defBody st) (defScope st) .none kV doc pm an cdv ct) ⟨us,[]⟩ = pure (ps.zip us)):Binds K fd ps []:=by
 obtain ⟨oc,od,kV,doc,pm,an,cdv,ct,osl,rfl,lk,hcd⟩:=F.ex
 exact .all (h kV doc pm an cdv ct)
theorem fun_mk {x qual:Str} {st:Stmt} {f:Addr} {oc:Value} {od an:Option Addr} {osl:Array (Option Value)} {kV doc pm cdv ct:Value} (l:K.lookup f = some ⟨oc,od,.func (PySem.W.fnOf x qual (defArgs st) (defBody st) (defScope st) .none kV doc pm an cdv ct),osl⟩)
  (c:PySem.W.codeIn K cdv qual = true) (k:PySem.W.keepIn K (.ref f) = true):Fun K x qual st f (PySem.W.fnOf x qual (defArgs st) (defBody st) (defScope st) .none kV doc pm an cdv ct):=⟨⟨oc,od,kV,doc,pm,an,cdv,ct,osl,rfl,l,c⟩,k⟩
end
theorem hu_of {A:Around} {k:Nat} (hr:Room k A):A.units + 1 < cLine:=Nat.lt_of_le_of_lt (Nat.add_le_add_left (by decide:1 ≤ 64) _) hr.units
section
variable {X:Cx}
theorem pv (i:Nat) {x:Str} {pos:Pos} (hN:X.N[i]? = some x:=by rfl) (hv:Vis X.env.scope x:=by first | exact Or.inl rfl | exact Or.inr (Or.inl rfl) | exact Or.inr (Or.inr rfl)) (hd:(x == ("__debug__" : Str)) = false:=by decide)
  (hcd:(x == ("__classdict__" : Str)) = false:=by decide):PE X (.Name x pos) (tVar i):=pe_var hN hv hd hcd
theorem call_lenD:CallR X (.builtin "len") (fun xs H Q=>∃ a kvs,xs = [V.ref a]∧H a = some (.dK kvs)∧Q (.int kvs.length) H):=by
 intro pins s σ H xs us Q I r h
 obtain ⟨a,kvs,rfl,ha,q⟩:=h
 obtain ⟨u,rfl,ru⟩:=vals1 r
 cases ru
 exact d_len I (.inl ha) fun t s' I'=>⟨.int kvs.length,H,I',⟨t,rfl⟩,q⟩
end
theorem iteF {A B:Prop} (h:B):if false = true then A else B:=by
 rw [if_neg Bool.false_ne_true]
 exact h
theorem iteT {A B:Prop} (h:A):if true = true then A else B:=by
 rw [if_pos rfl]
 exact h
theorem ite2 {c A B:Prop} [Decidable c] (h1:c→A) (h2:¬ c→B):if c then A else B:=by
 by_cases h:c
 ·rw [if_pos h]
  exact h1 h
 ·rw [if_neg h]
  exact h2 h
theorem iteNS {c A B:Prop} [Decidable c] (hc:c) (h:B):if (!decide c) = true then A else B:=by
 rw [decide_eq_true hc]
 exact iteF h
def Same (H H':Hp):Prop:=∀ b o,H b = some o→H' b = some o
theorem Same.refl (H:Hp):Same H H:=fun _ _ h=>h
theorem Same.trans {H H1 H2:Hp} (a:Same H H1) (b:Same H1 H2):Same H H2:=fun c o h=>b c o (a c o h)
theorem Same.free {H H':Hp} (e:Same H H') {l:Addr} (h:H' l = Option.none):H l = Option.none:=by
 cases q:H l with
 | none=>rfl
 | some o=>
  rw [e l o q] at h
  cases h
section
variable {κ:Type} [DecidableEq κ]
theorem valV_in {kvs:List (κ×V)} {k:κ} {v:V} (h:valV kvs k = some v):k ∈ kvs.map (·.1):=by
 have q:(kvs.any fun kv=>decide (kv.1 = k)) = true:=by
  rw [valV_any,h]
  all_goals rfl
 obtain ⟨p,hp,e⟩:=List.any_eq_true.mp q
 exact List.mem_map.mpr ⟨p,hp,of_decide_eq_true e⟩
theorem nd_snoc:∀ {l:List κ} {k:κ},l.Nodup→¬ k ∈ l→(l ++ [k]).Nodup
 | [],k,_,_=>by simp
 | a :: r,k,h,hk=>by
  obtain ⟨h1,h2⟩:=List.nodup_cons.mp h
  show (a :: (r ++ [k])).Nodup
  refine List.nodup_cons.mpr ⟨fun m=>?_,nd_snoc h2 fun m=>hk (List.mem_cons.mpr (Or.inr m))⟩
  rcases List.mem_append.mp m with q | q
  ·exact h1 q
  ·exact hk (List.mem_cons.mpr (Or.inl (List.mem_singleton.mp q).symm))
end
def clGo (env : Env) : List (Str × NameKind) → List (Str × Addr) → List (Str × Addr)
 | [], cs => cs
 | (n, k) :: r, cs => clGo env r (if (k == NameKind.free) = true then (n, (env.cells.lookup n).getD 0) :: cs else cs)
theorem clGo_pure {env : Env} : ∀ (ns : List (Str × NameKind)) (cs : List (Str × Addr)), (∀ y ∈ ns, y.2 = .free → ∃ c, env.cells.lookup y.1 = some c) →
  (forIn (m := Sem) ns cs fun y cs => if (y.2 == NameKind.free) = true then (do let a ← cellOf env y.1; pure (ForInStep.yield ((y.1, a) :: cs))) else pure (ForInStep.yield cs)) = pure (clGo env ns cs)
 | [], cs, _ => rfl
 | (n, k) :: r, cs, h => by
  rw [List.forIn_cons]
  have hr : ∀ y ∈ r, y.2 = .free → ∃ c, env.cells.lookup y.1 = some c := fun y hy => h y (List.mem_cons_of_mem _ hy)
  by_cases hk : (k == NameKind.free) = true
  ·obtain ⟨c, hc⟩ := h (n, k) List.mem_cons_self (beq_iff_eq.mp hk)
   have e1 : cellOf env n = pure c := by unfold cellOf; rw [show env.cells.lookup n = some c from hc]
   simp only [hk, if_true, e1, pure_bind]
   rw [clGo_pure r _ hr]
   show _ = pure (clGo env r (if (k == NameKind.free) = true then (n, (env.cells.lookup n).getD 0) :: cs else cs))
   rw [if_pos hk, show env.cells.lookup n = some c from hc]
   rfl
  ·simp only [hk, Bool.false_eq_true, if_false, pure_bind]
   rw [clGo_pure r _ hr]
   show _ = pure (clGo env r (if (k == NameKind.free) = true then (n, (env.cells.lookup n).getD 0) :: cs else cs))
   rw [if_neg hk]
theorem closure_of {scope : Scope} {env : Env} (h : ∀ y ∈ scope.names, y.2 = .free → ∃ c, env.cells.lookup y.1 = some c) : closureFor scope env = pure (clGo env scope.names []) := by
 have e := clGo_pure scope.names [] h
 unfold closureFor
 refine Eq.trans ?_ (e.trans rfl)
 first
  | rfl
  | (simp only [bind_pure]; rfl)
  | simp
theorem clGo_look {env : Env} {x : Str} {c : Addr} : ∀ (ns : List (Str × NameKind)) (cs : List (Str × Addr)), (∀ y ∈ ns, y.2 = .free → ∃ c, env.cells.lookup y.1 = some c) →
  (∀ c, cs.lookup x = some c → env.cells.lookup x = some c) → (clGo env ns cs).lookup x = some c → env.cells.lookup x = some c
 | [], cs, _, hc, e => hc c e
 | (n, k) :: r, cs, h, hc, e => by
  refine clGo_look r _ (fun y hy => h y (List.mem_cons_of_mem _ hy)) (fun c' e' => ?_) e
  by_cases hk : (k == NameKind.free) = true
  ·rw [if_pos hk] at e'
   rw [List.lookup_cons] at e'
   cases hx : x == n with
   | true =>
    rw [hx] at e'
    obtain ⟨c2, h2⟩ := h (n, k) List.mem_cons_self (beq_iff_eq.mp hk)
    have h2' : env.cells.lookup n = some c2 := h2
    rw [h2'] at e'
    rw [beq_iff_eq.mp hx, h2']
    exact e'
   | false =>
    rw [hx] at e'
    exact hc c' e'
  ·rw [if_neg hk] at e'
   exact hc c' e'
theorem clGo_has {env : Env} {x : Str} : ∀ (ns : List (Str × NameKind)) (cs : List (Str × Addr)), ((x, NameKind.free) ∈ ns ∨ (∃ c, cs.lookup x = some c)) → ∃ c, (clGo env ns cs).lookup x = some c
 | [], cs, h => by
  rcases h with h | h
  ·cases h
  ·exact h
 | (n, k) :: r, cs, h => by
  refine clGo_has r _ ?_
  rcases h with h | ⟨c, h⟩
  ·rcases List.mem_cons.mp h with e | e
   ·cases e
    refine .inr ⟨(env.cells.lookup x).getD 0, ?_⟩
    rw [if_pos (by rfl), List.lookup_cons]
    simp
   ·exact .inl e
  ·right
   by_cases hk : (k == NameKind.free) = true
   ·rw [if_pos hk, List.lookup_cons]
    cases hx : x == n with
    | true => exact ⟨_, rfl⟩
    | false => exact ⟨c, h⟩
   ·rw [if_neg hk]
    exact ⟨c, h⟩
def blk (X : Cx) (scope : Scope) (Nc : List Str) (C : Addr) (s₂ : Shared) (H₂ : Hp) (ex : List Addr) (pins : List (Addr × Obj)) : Cx :=
  { prog := X.prog, w := X.w, K := X.K, mg := X.mg, base := X.base, A := X.A, N := Nc, s₀ := s₂, H₀ := H₂, env := compEnvC scope (clGo X.env scope.names []) C X.env, outer := X.stack, stack := X.stack, ex := ex,
    fn := fun _ => false, calm := X.calm, pn := X.pn ++ pins, xe := fun _ _ => False }
structure BlkScope (X : Cx) (scope : Scope) (x : Str) (Nf : List Str) (js : List Nat) : Prop where
 kind : scope.kind = .function
 nocell : ∀ y ∈ scope.names, y.2 ≠ .cell
 loc : ∀ y ∈ scope.names, y.2 = .local → scope.names.lookup y.1 = some .local
 own : scope.names.lookup x = some .local
 nd : (x :: Nf).Nodup
 free : ∀ y ∈ scope.names, y.2 = .free → X.env.kindOf y.1 = some .cell
 slots : Nf.length = js.length
 at_ : ∀ (i : Nat) (z : Str), Nf[i]? = some z → ∃ j : Nat, js[i]? = some j ∧ X.N[j]? = some z ∧ scope.names.lookup z = some .free ∧ X.env.scope.names.lookup z = some .cell
section
variable {X : Cx} {scope : Scope} {x : Str} {Nf : List Str} {js : List Nat} {C : Addr} {s₂ : Shared} {H₂ : Hp} {ex : List Addr} {pins : List (Addr × Obj)} {σ : St}
theorem BlkScope.hasCell (B : BlkScope X scope x Nf js) (ok : X.Ok) : ∀ y ∈ scope.names, y.2 = .free → ∃ c, X.env.cells.lookup y.1 = some c := fun y hy hf => ok.has y.1 (.inl (B.free y hy hf))
theorem BlkScope.look (B : BlkScope X scope x Nf js) (ok : X.Ok) {z : Str} {c : Addr} (e : (clGo X.env scope.names []).lookup z = some c) : X.env.cells.lookup z = some c :=
 clGo_look scope.names [] (B.hasCell ok) (fun c h => by simp at h) e
theorem relabel_free {sc : Scope} {env : Env} {z : Str} : ∀ {ns : List (Str × NameKind)}, (∀ y ∈ ns, y.2 ≠ .cell) →
    ((ns.map fun (n, k) => if (k == NameKind.free && env.scope.kind == .function && env.kindOf n == some .cell) then (n, NameKind.cell) else (n, k)).lookup z = some .cell ∨
     (ns.map fun (n, k) => if (k == NameKind.free && env.scope.kind == .function && env.kindOf n == some .cell) then (n, NameKind.cell) else (n, k)).lookup z = some .free) → (z, NameKind.free) ∈ ns
  | [], _, h => by simp at h
  | (n, k) :: r, hc, h => by
    have ih := @relabel_free sc env z r fun y hy => hc y (List.mem_cons_of_mem _ hy)
    rw [List.map_cons, List.lookup_cons] at h
    by_cases hk : (k == NameKind.free && env.scope.kind == .function && env.kindOf n == some .cell) = true
    · have kf : k = .free := by
        rw [Bool.and_eq_true, Bool.and_eq_true] at hk
        exact beq_iff_eq.mp hk.1.1
      subst kf
      simp only [hk, if_true] at h
      cases hz : z == n with
      | true => rw [beq_iff_eq.mp hz]; exact List.mem_cons_self
      | false => rw [hz] at h; exact List.mem_cons_of_mem _ (ih h)
    · simp only [hk, Bool.false_eq_true, if_false] at h
      cases hz : z == n with
      | true =>
        rw [hz] at h
        have h' : k = .cell ∨ k = .free := by
          rcases h with h | h
          · exact .inl (Option.some.inj h)
          · exact .inr (Option.some.inj h)
        rcases h' with e | e
        · exact absurd e (hc (n, k) List.mem_cons_self)
        · rw [beq_iff_eq.mp hz, e]; exact List.mem_cons_self
      | false => rw [hz] at h; exact List.mem_cons_of_mem _ (ih h)
theorem relabel_cell {env : Env} {z : Str} (hk : env.scope.kind = .function) (hz : env.kindOf z = some .cell) : ∀ {ns : List (Str × NameKind)}, (∀ y ∈ ns, y.2 = .local → ns.lookup y.1 = some .local) → (∀ y ∈ ns, y.2 ≠ .cell) → ns.lookup z = some .free →
  (ns.map fun (n, k) => if (k == NameKind.free && env.scope.kind == .function && env.kindOf n == some .cell) then (n, NameKind.cell) else (n, k)).lookup z = some .cell
 | [], _, _, h => by simp at h
 | (n, k) :: r, _, _, h => by
  have ih : ∀ {ns : List (Str × NameKind)}, ns.lookup z = some .free → (ns.map fun (n, k) => if (k == NameKind.free && env.scope.kind == .function && env.kindOf n == some .cell) then (n, NameKind.cell) else (n, k)).lookup z = some .cell := by
   intro ns
   induction ns with
   | nil => intro h; simp at h
   | cons p ps ihp =>
    intro h
    obtain ⟨n', k'⟩ := p
    rw [List.lookup_cons] at h
    rw [List.map_cons, List.lookup_cons]
    cases hx : z == n' with
    | true =>
     rw [hx] at h
     have e : k' = .free := Option.some.inj h
     subst e
     rw [← beq_iff_eq.mp hx]
     simp [hk, hz]
    | false =>
     rw [hx] at h
     by_cases hc : (k' == NameKind.free && env.scope.kind == .function && env.kindOf n' == some .cell) = true
     ·simp only [hc, if_true, hx]; exact ihp h
     ·simp only [hc, Bool.false_eq_true, if_false, hx]; exact ihp h
  exact ih h
theorem BlkScope.ok (B : BlkScope X scope x Nf js) {H : Hp} {s : Shared} (I : Inv X pins σ H s) (hC : s.heap.objs.size ≤ C) {fp : List Addr} (hf : ∀ b ∈ fp, FpOk X pins H b) (ho : ∀ b ∈ fp, ∃ o, s.heap.get? b = some o ∧ ∀ v, o.data ≠ .cell v) :
  (blk X scope (x :: Nf) C s H fp pins).Ok where
 mod := I.ok.mod
 kind := B.kind
 glob := I.ok.glob
 blt := I.ok.blt
 above := hC
 inj := fun y z c h1 h2 => I.ok.inj y z c (B.look I.ok h1) (B.look I.ok h2)
 has := fun z hz => clGo_has scope.names [] (.inl (relabel_free (sc := scope) B.nocell hz))
 cab := fun y c h _ => Bool.noConfusion h
 hd := fun h => I.ok.hd h
 frames := I.ok.frames
 stk := .inl rfl
 exf := fun b hb => by
  obtain ⟨o, e, d⟩ := ho b hb
  refine ⟨Nat.ne_of_lt (Nat.lt_of_lt_of_le (Heap.lt_size e) hC), fun z c h => (hf b hb).2.2.2.2.1 z c (B.look I.ok h)⟩
 bs := I.bs
 bsz := Nat.le_trans I.ok.bsz I.sz
 noex := fun b o e hb => by
  rcases (hf b hb).2.2.2.1 with z | z
  ·exact I.ok.noex b o e z
  ·exact absurd (Nat.lt_of_lt_of_le (Heap.lt_size e) (Nat.le_trans I.ok.bsz z)) (Nat.lt_irrefl _)
 exfs := fun b hb hs => by
  rcases List.mem_cons.mp (I.stkSub b hs) with e | e
  ·exact (hf b hb).2.1 e
  ·exact (hf b hb).2.2.1 e
 funs := I.stack
 frf := I.stkFree
end
section
variable {X : Cx} {scope : Scope} {x : Str} {Nf : List Str} {js : List Nat} {pins : List (Addr × Obj)} {σ : St}
def blkSt (js : List Nat) (σ : St) (v : Option V) : St := v :: js.map fun j => (σ[j]?).getD none
theorem BlkScope.inv (B : BlkScope X scope x Nf js) {H : Hp} {s : Shared} (I : Inv X pins σ H s) {fp : List Addr} (hf : ∀ b ∈ fp, FpOk X pins H b) (ho : ∀ b ∈ fp, ∃ o, s.heap.get? b = some o ∧ ∀ v, o.data ≠ .cell v)
  {h₁ : Heap} {tk : Nat} (hn : h₁.Ns (s.heap.objs.size + 1) (fun _ => none)) (hs : Heap.SameBut (s.heap.objs.size + 1) ((s.heap.push { cls := .type "list", data := .seq #[] }).push { cls := .type "dict", data := .dict #[] }) h₁) :
  Inv (blk X scope (x :: Nf) (s.heap.objs.size + 1) s H fp pins) [] (blkSt js σ none) (upd H s.heap.objs.size (.lst [])) { s with heap := h₁, toks := tk } := by
 have old : ∀ b o, s.heap.get? b = some o → h₁.get? b = some o := fun b o e =>
  hs.extBut b o (Nat.ne_of_lt (Nat.lt_succ_of_lt (Heap.lt_size e))) (Heap.get?_push_of_some _ (Heap.get?_push_of_some _ e))
 have hD : h₁.get? s.heap.objs.size = some { cls := .type "list", data := .seq #[] } := hs.extBut _ _ (Nat.ne_of_lt (Nat.lt_succ_self _)) (Heap.get?_push_of_some _ (Heap.get?_push_size _ rfl))
 have fD : H s.heap.objs.size = none := I.hok.fresh (Nat.le_refl _)
 have fC : H (s.heap.objs.size + 1) = none := I.hok.fresh (Nat.le_succ _)
 have cellAt : ∀ z c, (clGo X.env scope.names []).lookup z = some c → c < s.heap.objs.size := fun z c e => by
  obtain ⟨v, q⟩ := I.cell z c (B.look I.ok e)
  exact q.lt
 have J := I.laid (a := s.heap.objs.size) (o := .lst []) (h' := h₁) (t' := tk) old (Nat.le_refl _) ⟨Nat.zero_le _, [], 0, .nil, hD⟩
 refine ⟨B.ok I (Nat.le_succ _) hf ho, rfl, I.bare, Un.laid old (Nat.le_refl _) fD, ⟨_, hn, fun i z v h1 h2 h3 => ?_⟩, fun z c e => ?_, ?_, fun z c e => ?_, fun p hp => ?_, J.hok, ?_⟩
 ·-- a name of the block that has a value: one of the def's
  cases i with
  | zero =>
   have h2' : some (none : Option V) = some (some v) := h2
   cases h2'
  | succ i =>
   have h1' : Nf[i]? = some z := h1
   have h2' : (js.map fun j => (σ[j]?).getD none)[i]? = some (some v) := h2
   obtain ⟨j, e1, e2, e3, e4⟩ := B.at_ i z h1'
   rw [List.getElem?_map, e1] at h2'
   have h2'' : (σ[j]?).getD none = some v := Option.some.inj h2'
   have e5 : σ[j]? = some (some v) := by
    cases q : σ[j]? with
    | none => rw [q] at h2''; cases h2''
    | some y => rw [q] at h2''; exact congrArg some h2''
   obtain ⟨m, hm, hl⟩ := I.loc
   obtain ⟨u, r, l⟩ := hl j z v e2 e5 (.inr (.inl e4))
   refine ⟨u, r, .inr ⟨.inl ?_, ?_⟩⟩
   ·exact relabel_cell I.ok.kind e4 B.loc B.nocell e3
   ·rcases l with ⟨k, _⟩ | ⟨_, c, hc, q⟩
    ·rw [show X.env.kindOf z = X.env.scope.names.lookup z from rfl, e4] at k; cases k
    ·obtain ⟨c', hc'⟩ := clGo_has (env := X.env) (x := z) scope.names [] (.inl (PySem.mem_of_lookup e3))
     have e6 := B.look I.ok hc'
     rw [hc] at e6
     cases e6
     exact ⟨c, hc', q.keeps old⟩
 ·obtain ⟨v, q⟩ := I.cell z c (B.look I.ok e)
  exact ⟨v, q.keeps old⟩
 ·show upd H s.heap.objs.size (.lst []) (s.heap.objs.size + 1) = none
  rw [upd_ne (Nat.ne_of_gt (Nat.lt_succ_self _))]
  exact fC
 ·rw [upd_ne (Nat.ne_of_lt (cellAt z c e))]
  exact I.freeC z c (B.look I.ok e)
 ·have hp' : p ∈ X.pn ++ pins := by
   have : p ∈ (X.pn ++ pins) ++ [] := hp
   rwa [List.append_nil] at this
  obtain ⟨e, n, ne, nf, d⟩ := I.pin p hp'
  refine ⟨old _ _ e, ?_, Nat.ne_of_lt (Nat.lt_succ_of_lt (Heap.lt_size e)), fun z => ?_, d⟩
  ·rw [upd_ne (Nat.ne_of_lt (Heap.lt_size e))]; exact n
  ·rcases List.mem_cons.mp (I.stkSub p.1 z) with q | q
   ·exact ne q
   ·exact nf q
 ·show (none :: js.map _).length = (x :: Nf).length
  rw [List.length_cons, List.length_map, List.length_cons, B.slots]
theorem BlkScope.back (B : BlkScope X scope x Nf js) {H H' : Hp} {s s' : Shared} {fp : List Addr} {C : Addr} {pl : List (Addr × Obj)} {τ : St} (I : Inv X pins σ H s) (hf : ∀ b ∈ fp, FpOk X pins H b) (hC : s.heap.objs.size ≤ C)
  (J : Inv (blk X scope (x :: Nf) C s H fp pins) pl τ H' s') {h' : Heap} (hs : Heap.SameBut C s'.heap h') : Inv X pins σ H' { s' with heap := h' } := by
 have nC : H' C = none := J.free
 refine I.call' (s' := { s' with heap := h' }) (ch := fp) J.os ⟨fun b o e n hb hx => ?_, fun b o e n hb hx => ?_, J.base.free, fun b o e hx => ?_, J.base.tups, J.base.frzs, J.base.tbls⟩ ?_ J.bare (fun b hb => ?_)
 ·exact hs.extBut b o (Nat.ne_of_lt (Nat.lt_of_lt_of_le (Heap.lt_size e) hC)) (J.base.keep b o e n hb hx)
 ·obtain ⟨sl, e1⟩ := J.base.slot b o e n hb hx
  exact ⟨sl, hs.extBut b _ (Nat.ne_of_lt (Nat.lt_of_lt_of_le (Heap.lt_size e) hC)) e1⟩
 ·obtain ⟨o', e1⟩ := J.base.there b o e hx
  exact ⟨o', hs.extBut b _ (Nat.ne_of_lt (Nat.lt_of_lt_of_le (Heap.lt_size e) hC)) e1⟩
 ·intro a o e
  refine (J.hok a o e).stay (fun b u hb q => hs.extBut b u ?_ q) (fun _ q => q) fun _ _ q => q
  rcases hb with rfl | hb
  ·exact fun z => by rw [z, nC] at e; cases e
  ·exact fun z => by rw [z, nC] at hb; cases hb
 ·obtain ⟨_, f1, f2, f3, f4, f5⟩ := hf b hb
  exact ⟨f3, f1, f4, f5⟩
end
inductive PTs (X : Cx) : List Expr → TT → Prop where
 | nil : PTs X [] (fun _ H Q => Q true H)
 | one {c : Expr} {t : TT} (h : PT X c t) : PTs X [c] t
theorem PTs.run {X : Cx} {ifs : List Expr} {t : TT} (h : PTs X ifs t) {pins : List (Addr × Obj)} {s : Shared} {σ : St} {H : Hp} {Q : Bool → Hp → Prop} (I : Inv X pins σ H s) (q : t σ H Q) :
  wpAny (model X.prog X.w) X.A (forIn ifs true fun c r => if r = true then do let ok ← isTrue c X.env (eval c X.env); pure (ForInStep.yield ok) else pure (ForInStep.yield r)) (TP X pins σ Q) X.xe s := by
 cases h with
 | nil => exact wpAny_pure ⟨H, I, q⟩
 | @one c t h =>
  rw [List.forIn_cons]
  refine wpAny_bind ?_
  rw [if_pos rfl]
  refine wpAny_bind (thn (h pins s σ H Q I q) fun b s1 q1 => wpAny_pure ?_)
  exact wpAny_pure q1
def tComp (js : List Nat) (wi : TI) (tc : TT) (te : TE) : TE := fun σ H Q => wi σ H fun J H1 => ∀ D, H1 D = none → ∃ W : Nat → Nat → Hp → Prop, (∃ m, W 0 m (upd H1 D (.lst []))) ∧ ∀ i m H2, W i m H2 →
 (J.stop i H2 ∧ Q (.ref D) H2) ∨ (J.go i H2 ∧ ∀ v H3, J.yld i H2 v H3 → tc (blkSt js σ (some v)) H3 fun b H4 =>
  if b = true then te (blkSt js σ (some v)) H4 fun y H5 => ∃ ys, H5 D = some (.lst ys) ∧ ys.length < sizeLine ∧ ∃ m', m' < m ∧ W (i + 1) m' (upd H5 D (.lst (ys ++ [y])))
  else ∃ m', m' < m ∧ W (i + 1) m' H4)
section
variable {X : Cx} {scope : Scope} {x : Str} {Nf : List Str} {js : List Nat} {wi : TI} {tc : TT} {te : TE} {elt iter : Expr} {ifs : List Expr} {px pos : Pos}
theorem comp_core (use : Option (Value → Sem Unit)) {pins : List (Addr × Obj)} {s₂ : Shared} {σ : St} {H₂ : Hp} {it : Addr} {fp : List Addr} {tn : Nat → Heap → Prop} {J : It} {E : Value → Shared → Prop} {QQ : Value → Addr → Result → Shared → Prop} {Q : VK} {tg0 : Expr} (htg : tg0 = .Name x px)
  (B : BlkScope X scope x Nf js) (hc : X.calm = true)
  (ht : ∀ C s₂ H₂ ex pins, PTs (blk X scope (x :: Nf) C s₂ H₂ ex pins) ifs tc) (he : ∀ C s₂ H₂ ex pins, PE (blk X scope (x :: Nf) C s₂ H₂ ex pins) elt te)
  (I : Inv X pins σ H₂ s₂) (T : Turn X.prog X.w X.K tg0 J fp it tn) (st : tn 0 s₂.heap) (hf : ∀ b ∈ fp, FpOk X pins H₂ b)
  (hW : ∀ D, H₂ D = none → ∃ W : Nat → Nat → Hp → Prop, (∃ m, W 0 m (upd H₂ D (.lst []))) ∧ ∀ i m H2, W i m H2 →
   (J.stop i H2 ∧ Q (.ref D) H2) ∨ (J.go i H2 ∧ ∀ v H3, J.yld i H2 v H3 → tc (blkSt js σ (some v)) H3 fun b H4 =>
    if b = true then te (blkSt js σ (some v)) H4 fun y H5 => ∃ ys, H5 D = some (.lst ys) ∧ ys.length < sizeLine ∧ ∃ m', m' < m ∧ W (i + 1) m' (upd H5 D (.lst (ys ++ [y])))
    else ∃ m', m' < m ∧ W (i + 1) m' H4))
  (hQ : ∀ s' H', (∀ h', Heap.SameBut (s₂.heap.objs.size + 1) s'.heap h' → Inv X pins σ H' { s' with heap := h' }) → (∃ m, s'.heap.Ns (s₂.heap.objs.size + 1) m) → H' (s₂.heap.objs.size + 1) = none → Q (.ref s₂.heap.objs.size) H' → QQ (.ref s₂.heap.objs.size) (s₂.heap.objs.size + 1) (.ok .next) s') :
  wpAny (model X.prog X.w) X.A (newList []) (fun acc s₃ => wpAny (model X.prog X.w) X.A (newFunctionEnv scope X.env.globals (clGo X.env scope.names []) [] X.env.qual none .none (some X.env)) (fun cenv s₄ =>
   codeAny (model X.prog X.w) X.A (.compStart (.ListComp elt [⟨.Name x px, iter, ifs, 0⟩] scope pos) 0 (.ref it) acc { cenv with scope := relabel scope X.env }) (QQ acc cenv.locals) s₄) E s₃) E s₂ := by
 subst htg
 refine wpAny_newObj_type (wpAny_newFunctionEnv B.nocell (by intro y hy; simp at hy) (fun h₁ hns₁ hsb₁ => ?_) B.kind)
 dsimp only at hns₁ hsb₁ ⊢
 have hsz : (s₂.heap.push { cls := .type "list", dict := none, data := .seq ([] : List Value).toArray }).objs.size = s₂.heap.objs.size + 1 := Heap.size_push _ _
 rw [hsz] at hns₁ hsb₁ ⊢
 have ho : ∀ b ∈ fp, ∃ o, s₂.heap.get? b = some o ∧ ∀ v, o.data ≠ .cell v := T.obj 0 _ st
 have hD0 : H₂ s₂.heap.objs.size = none := I.hok.fresh (Nat.le_refl _)
 obtain ⟨W, ⟨m0, w0⟩, turn⟩ := hW _ hD0
 have old : ∀ b o, s₂.heap.get? b = some o → h₁.get? b = some o := fun b o e =>
  hsb₁.extBut b o (Nat.ne_of_lt (Nat.lt_succ_of_lt (Heap.lt_size e))) (Heap.get?_push_of_some _ (Heap.get?_push_of_some _ e))
 have st1 : tn 0 h₁ := T.keep _ _ _ st fun b _ o e => old b o e
 have I1 : ∀ tk, Inv (blk X scope (x :: Nf) (s₂.heap.objs.size + 1) s₂ H₂ fp pins) [] (blkSt js σ none) (upd H₂ s₂.heap.objs.size (.lst [])) { s₂ with heap := h₁, toks := tk } := fun tk => B.inv I hf ho hns₁ hsb₁
 have fpD : ∀ b ∈ fp, b ≠ s₂.heap.objs.size := fun b hb => by
  obtain ⟨o, e, _⟩ := ho b hb
  exact Nat.ne_of_lt (Heap.lt_size e)
 have fp0 : ∀ b ∈ fp, upd H₂ s₂.heap.objs.size (.lst []) b = none := fun b hb => by rw [upd_ne (fpD b hb)]; exact (hf b hb).1
 -- what the block's context says of the iterator's objects
 have stat : ∀ {H' : Hp}, (∀ b ∈ fp, H' b = none) → ∀ b ∈ fp, FpOk (blk X scope (x :: Nf) (s₂.heap.objs.size + 1) s₂ H₂ fp pins) [] H' b := fun {H'} hn b hb => by
  obtain ⟨_, f1, f2, f3, f4, f5⟩ := hf b hb
  obtain ⟨o, e, _⟩ := ho b hb
  refine ⟨hn b hb, Nat.ne_of_lt (Nat.lt_succ_of_lt (Heap.lt_size e)), fun z => ?_, .inl hb, fun z c h => f4 z c (B.look I.ok h), fun p hp => ?_⟩
  ·rcases List.mem_cons.mp (I.stkSub b z) with q | q
   ·exact f1 q
   ·exact f2 q
  ·have hp' : p ∈ (X.pn ++ pins) ++ [] := hp
   rw [List.append_nil] at hp'
   exact f5 p hp'
 have loop : ∀ sL : Shared, sL = { s₂ with heap := h₁, toks := s₂.toks + ([] : List (Str × Value)).length } →
   codeAny (model X.prog X.w) X.A (.compLoop (.ListComp elt [⟨.Name x px, iter, ifs, 0⟩] scope pos) 0 (.ref it) (.ref s₂.heap.objs.size) (compEnvC scope (clGo X.env scope.names []) (s₂.heap.objs.size + 1) X.env))
    (QQ (.ref s₂.heap.objs.size) (s₂.heap.objs.size + 1)) sL := by
  rintro sL rfl
  refine codeAny_compLoop_tests (fun n s' => ∃ i v H', Inv (blk X scope (x :: Nf) (s₂.heap.objs.size + 1) s₂ H₂ fp pins) [] (blkSt js σ v) H' s' ∧ tn i s'.heap ∧ (∀ b ∈ fp, H' b = none) ∧ W i n H') ?_ m0 ⟨0, none, _, I1 _, st1, fp0, w0⟩
  rintro n s3 ⟨i, v3, H3, I3, st3, fr3, w3⟩
  rcases turn i n H3 w3 with ⟨stop, qn⟩ | ⟨go, step⟩
  ·refine thn (T.done (blk X scope (x :: Nf) (s₂.heap.objs.size + 1) s₂ H₂ fp pins) rfl rfl rfl hc i [] s3 _ H3 _ I3 (stat fr3) st3 stop) fun r s4 ⟨hr, I4⟩ => ?_
   subst hr
   obtain ⟨m4, hm4, _⟩ := I4.loc
   exact hQ s4 H3 (fun h' hs => B.back I hf (Nat.le_succ _) I4 hs) ⟨m4, hm4⟩ I4.free qn
  ·refine thn (T.item (blk X scope (x :: Nf) (s₂.heap.objs.size + 1) s₂ H₂ fp pins) rfl rfl rfl hc i [] s3 _ H3 _ I3 (stat fr3) st3 go) fun r s4 ⟨u, hr, h4⟩ => ?_
   subst hr
   refine (show wpAny (model X.prog X.w) X.A (letOwnedTupleGo (Expr.Name x px) (.ref it) u >>= fun _ => assign (.Name x px) (compEnvC scope (clGo X.env scope.names []) (s₂.heap.objs.size + 1) X.env) u) _ _ s4 from wpAny_bind (thn h4 fun _ s5 ⟨y5, H5, I5, r5, yl5, st5, fr5⟩ => ?_))
   have I5' := I5.pinned (stat fr5) (T.obj _ _ st5)
   have hnm : (blk X scope (x :: Nf) (s₂.heap.objs.size + 1) s₂ H₂ fp pins).env.scope.names.lookup x = some .local := lookup_relabel_local B.own
   have hg : PG (blk X scope (x :: Nf) (s₂.heap.objs.size + 1) s₂ H₂ fp pins) (.Name x px) (gName 0) := pg_name B.nd rfl (.inl hnm) (.inr hnm)
   refine wpAny_mono (hg _ s5 _ H5 y5 u (fun σ' H' => σ' = blkSt js σ (some y5) ∧ H' = H5) I5' r5 ⟨rfl, rfl⟩) (fun _ s6 ⟨σ6, H6, I6, q6⟩ => ?_) fun _ _ z => False.elim z
   obtain ⟨e6, e6'⟩ := q6
   subst e6 e6'
   refine wpAny_mono ((ht _ _ _ _ _).run I6 (step y5 _ yl5)) (fun b s7 ⟨H7, I7, q7⟩ => ?_) fun _ _ z => False.elim z
   have again : ∀ {s8 : Shared} {σ8 : St} {H8 : Hp}, Inv (blk X scope (x :: Nf) (s₂.heap.objs.size + 1) s₂ H₂ fp pins) ([] ++ pinsAt fp s5.heap) σ8 H8 s8 → tn (i + 1) s8.heap ∧ ∀ b ∈ fp, H8 b = none := fun {s8 σ8 H8} I8 => by
    refine ⟨T.keep _ _ _ st5 fun b hb o e => (I8.pin (b, o) (List.mem_append_right _ (List.mem_append_right _ (mem_pinsAt hb e)))).1, fun b hb => ?_⟩
    obtain ⟨o, e, d⟩ := T.obj _ _ st5 b hb
    exact (I8.pin (b, o) (List.mem_append_right _ (List.mem_append_right _ (mem_pinsAt hb e)))).2.1
   cases b with
   | false =>
    simp only [Bool.false_eq_true, if_false] at q7 ⊢
    obtain ⟨m', hm, w7⟩ := q7
    exact ⟨m', hm, i + 1, _, H7, I7.unpinned, (again I7).1, (again I7).2, w7⟩
   | true =>
    simp only [if_true] at q7 ⊢
    refine wpAny_mono (he _ _ _ _ _ _ s7 _ H7 _ I7 q7) (fun yv s8 ⟨y8, H8, I8, r8, ys, hD8, hl8, m', hm, w8⟩ => ?_) fun _ _ z => False.elim z
    obtain ⟨a1, a2⟩ := again I8
    refine wpAny_mono (mt_append (X := blk X scope (x :: Nf) (s₂.heap.objs.size + 1) s₂ H₂ fp pins) _ s8 _ H8 (.ref s₂.heap.objs.size) [y8] (.ref s₂.heap.objs.size) [yv] (fun _ H' => H' = upd H8 s₂.heap.objs.size (.lst (ys ++ [y8]))) I8 rfl (.cons r8 .nil)
     ⟨_, _, _, rfl, rfl, hD8, hl8, rfl⟩) (fun _ s9 ⟨_, H9, I9, _, q9⟩ => ?_) fun _ _ z => False.elim z
    subst q9
    obtain ⟨b1, b2⟩ := again I9
    exact ⟨m', hm, i + 1, _, _, I9.unpinned, b1, b2, w8⟩
 exact codeAny_compStart_list (loop _ rfl) (T.self _ 0 _ _ _ st1 (loop _ rfl))
theorem pe_comp (B : BlkScope X scope x Nf js) (hc : X.calm = true) (hi : PI X (.Name x px) iter wi)
  (ht : ∀ C s₂ H₂ ex pins, PTs (blk X scope (x :: Nf) C s₂ H₂ ex pins) ifs tc) (he : ∀ C s₂ H₂ ex pins, PE (blk X scope (x :: Nf) C s₂ H₂ ex pins) elt te)
  (hs : ∀ v, foldedSetIterable iter X.env v = pure v := by intro _; rfl) : PE X (.ListComp elt [⟨.Name x px, iter, ifs, 0⟩] scope pos) (tComp js wi tc te) := by
 intro pins s σ H Q I h
 rw [eval_ListComp]
 refine wpAny_comprehension_free (use := none) rfl hs (closure_of (B.hasCell I.ok)) B.kind B.loc (thn (hi pins s σ H _ I h) fun v s1 h1 => thn h1 fun itv s2 h2 => ?_)
 obtain ⟨it, fp, tn, J, H2, e, I2, T, st2, f2, hW⟩ := h2
 subst e
 refine comp_core (QQ := fun acc C => compPost (model X.prog X.w) X.A X.xe none (EP X pins σ Q) acc C) none rfl B hc ht he I2 T st2 f2 hW fun s' H' hI hn _ hq => ?_
 obtain ⟨m, hm⟩ := hn
 exact ⟨m, hm, fun h' hs' => ⟨.ref s2.heap.objs.size, H', hI h' hs', rfl, hq⟩⟩
theorem ps_setComp {i : Nat} {y : Str} {py spos : Pos} (B : BlkScope X scope x Nf js) (hc : X.calm = true) (hi : PI X (.Name x px) iter wi)
  (ht : ∀ C s₂ H₂ ex pins, PTs (blk X scope (x :: Nf) C s₂ H₂ ex pins) ifs tc) (he : ∀ C s₂ H₂ ex pins, PE (blk X scope (x :: Nf) C s₂ H₂ ex pins) elt te)
  (hN : X.N.Nodup) (hy : X.N[i]? = some y) (hl : X.env.scope.names.lookup y = some .local)
  (hsw : swapsWith (.ListComp elt [⟨.Name x px, iter, ifs, 0⟩] scope pos) (some (.Name y py)) spos.line X.env = pure true := by rfl)
  (hs : ∀ v, foldedSetIterable iter X.env v = pure v := by intro _; rfl) : PS X (.Assign [.Name y py] (.ListComp elt [⟨.Name x px, iter, ifs, 0⟩] scope pos) spos) (tAsg (tComp js wi tc te) (gName i)) := by
 intro pins s σ H D I h
 have asg := exec_Assign_Name_used _ _ _ _ hsw
 rw [asg]
 refine wpAny_bind (wpAny_standAt ?_)
 refine wpAny_bind ?_
 show wpAny _ _ (do let _ ← comprehension (.ListComp elt [⟨.Name x px, iter, ifs, 0⟩] scope pos) scope X.env _ (newList []) false (eval iter X.env) (some (assign (.Name y py) X.env))) _ _ s
 refine wpAny_bind (wpAny_mono (wpAny_comprehension_free (use := some (assign (.Name y py) X.env)) (Q := fun _ s' => SP X pins D .next s') rfl hs (closure_of (B.hasCell I.ok)) B.kind B.loc
  (thn (hi pins s σ H _ I h) fun v s1 h1 => thn h1 fun itv s2 h2 => ?_)) (fun _ s' hq => wpAny_pure (wpAny_pure hq)) fun _ _ e => e)
 obtain ⟨it, fp, tn, J, H2, e, I2, T, st2, f2, hW⟩ := h2
 subst e
 refine comp_core (Q := fun x H1 => gName i x σ H1 D.nx) (QQ := fun acc C => compPost (model X.prog X.w) X.A X.xe (some (assign (.Name y py) X.env)) (fun _ s' => SP X pins D .next s') acc C) none rfl B hc ht he I2 T st2 f2 hW fun s' H' hI hn hC hq => ?_
 obtain ⟨m, hm⟩ := hn
 have I3 : Inv X pins σ H' s' := hI s'.heap (Heap.SameBut.refl ..)
 have nC := I2.fpOk (b := s2.heap.objs.size + 1) (Nat.le_succ _) hC
 show wpAny _ _ (assign (.Name y py) X.env (.ref s2.heap.objs.size)) _ _ _
 refine wpAny_assign_Name (store_ok2 I3 hN hy (.inl hl) (v := .ref s2.heap.objs.size) rfl (fun s4 I4 ⟨b, hb, hbc⟩ => ?_) (.inr hl))
 have bne : s2.heap.objs.size + 1 ≠ b := by
  rcases hbc with z | z
  ·rw [z]; exact nC.2.1
  ·exact fun q => nC.2.2.2.2.1 y b z q.symm
 refine ⟨m, hm.sameBut hb bne, fun h' hs' => ⟨_, H', ?_, hq⟩⟩
 exact I4.turned (t' := s4.toks) (fun c o hc q => (hs'.2 c hc).trans q) nC.1 nC.2.1 nC.2.2.2.1 nC.2.2.2.2.1 nC.2.2.2.2.2
end
section
variable {X : Cx} {pins : List (Addr × Obj)} {σ : St} {H : Hp} {s : Shared}
theorem op_fdivL : OpR X (binaryOp .FloorDiv) (rI (fun _ j => 0 < j ∧ j.natAbs.log2 < 9000) fun i j => .int (i / j)) := opI fun i j _ _ _ _ _ hc q => by
 have e : i.fdiv j = i / j := Int.fdiv_eq_ediv_of_nonneg i (Int.le_of_lt hc.1)
 exact floordiv_int (by omega) (by rw [e]; exact q) (.inl (PyProof.noPylong_of_log2 hc.2))
def plainV : V → Bool
 | .non => true | .bl _ => true | .int _ => true | .str _ => true | .ref _ => true
 | _ => false
def okP (x y : V) : Prop := (x = y ∧ plainV x = true) ∨ (flatV x = true ∧ flatV y = true)
def eqP (x y : V) : Bool := decide (x = y) || eqV x y
theorem eqV_self : ∀ {x : V}, flatV x = true → eqV x x = true
 | .non, _ => rfl
 | .bl b, _ => by cases b <;> rfl
 | .int i, _ => by simp [eqV]
 | .str z, _ => by simp [eqV]
theorem eqAt_P {A : Around} {s : Shared} {x y : V} {u v : Value} (ru : RelV x u) (rv : RelV y v) (h : okP x y) : SeqAt.EqAt A s u v (eqP x y) := by
 rcases h with ⟨e, p⟩ | ⟨f, g⟩
 ·subst e
  have e1 : eqP x x = true := by unfold eqP; simp
  rw [e1]
  cases x with
  | non => cases ru; cases rv; exact SeqAt.EqAt.same _
  | bl b => cases ru; cases rv; exact SeqAt.EqAt.same _
  | int i => have := eqAt_V (A := A) (s := s) ru rv rfl rfl; rwa [eqV_self rfl] at this
  | str z => have := eqAt_V (A := A) (s := s) ru rv rfl rfl; rwa [eqV_self rfl] at this
  | ref a => cases ru; cases rv; exact SeqAt.EqAt.same _
  | _ => exact absurd (show false = true from p) Bool.false_ne_true
 ·have e1 : eqP x y = eqV x y := by
   unfold eqP
   by_cases e : x = y
   ·subst e; rw [eqV_self f]; simp
   ·simp [e]
  rw [e1]
  exact eqAt_V ru rv f g
def eqPs (xs ys : List V) : Bool := decide (xs.length = ys.length) && (List.zipWith eqP xs ys).all id
def okPs (xs ys : List V) : Prop := xs.length = ys.length → ∀ (j : Nat) (x y : V), xs[j]? = some x → ys[j]? = some y → okP x y
theorem eqPs_nil {xs : List V} : eqPs xs [] = decide (xs = []) := by cases xs <;> simp [eqPs]
theorem okPs_nil {xs : List V} : okPs xs [] := fun _ j x y _ h => by simp at h
theorem eqPs_self {xs : List V} : eqPs xs xs = true := by
 unfold eqPs
 rw [Bool.and_eq_true]
 refine ⟨by simp, ?_⟩
 induction xs with
 | nil => rfl
 | cons x r ih => rw [List.zipWith_cons_cons, List.all_cons, ih]; simp [eqP]
theorem okPs_self {xs : List V} (h : xs.all plainV = true) : okPs xs xs := fun _ j x y e e' => by
 rw [e] at e'
 cases e'
 exact .inl ⟨rfl, List.all_eq_true.mp h x (List.mem_of_getElem? e)⟩
def ans (xs ys : List V) (j : Nat) : Bool := match xs[j]?, ys[j]? with
 | some x, some y => eqP x y
 | _, _ => true
theorem zip_ans : ∀ (xs ys : List V), xs.length = ys.length → (List.range xs.length).all (ans xs ys) = (List.zipWith eqP xs ys).all id
 | [], [], _ => rfl
 | [], _ :: _, h => by simp at h
 | _ :: _, [], h => by simp at h
 | x :: xs, y :: ys, h => by
  have ih := zip_ans xs ys (by simpa using h)
  rw [List.length_cons, List.range_succ_eq_map, List.all_cons, List.zipWith_cons_cons, List.all_cons, ← ih, List.all_map]
  rfl
theorem ans_at {xs ys : List V} {us ws : List Value} (r : Vals xs us) (r' : Vals ys ws) (ok : okPs xs ys) (hl : xs.length = ys.length) {A : Around} {s : Shared} (j : Nat) (h1 : j < us.toArray.size) (h2 : j < ws.toArray.size) :
  SeqAt.EqAt A s us.toArray[j] ws.toArray[j] (ans xs ys j) := by
 have l1 := r.length
 have l2 := r'.length
 have j1 : j < xs.length := by simp at h1; omega
 have j2 : j < ys.length := by omega
 have e1 : xs[j]? = some xs[j] := by simp [j1]
 have e2 : ys[j]? = some ys[j] := by simp [j2]
 obtain ⟨u, eu, ru⟩ := r.get e1
 obtain ⟨w, ew, rw'⟩ := r'.get e2
 have a1 : us.toArray[j] = u := by
  have : us[j]? = some u := eu
  simp at h1
  simpa [h1] using this
 have a2 : ws.toArray[j] = w := by
  have : ws[j]? = some w := ew
  simp at h2
  simpa [h2] using this
 have a3 : ans xs ys j = eqP xs[j] ys[j] := by unfold ans; rw [e1, e2]
 rw [a1, a2, a3]
 exact eqAt_P ru rw' (ok hl j _ _ e1 e2)
def rEqL (K : PySem.W.Frag) (neg : Bool) : R2 := fun x y H Q => ∃ p q xs ys, x = .ref p ∧ y = .ref q ∧ SqL K H p xs ∧ SqL K H q ys ∧ okPs xs ys ∧ Q (.bl (if neg then !eqPs xs ys else eqPs xs ys)) H
theorem op_neL (hu : X.A.units < cLine) : OpR X (compareOp .NotEq) (rEqL X.K true) := by
 intro pins s σ H x y v u Q I rx ry h
 obtain ⟨p, q, xs, ys, rfl, rfl, hp, hq, ok, hQ⟩ := h
 cases rx
 cases ry
 obtain ⟨us, r, pl, hz⟩ := I.list hp
 obtain ⟨ws, r', pl', hz'⟩ := I.list hq
 have l1 := r.length
 have l2 := r'.length
 by_cases hl : xs.length = ys.length
 ·refine SeqAt.RcNeAt.lists (e := ans xs ys) pl.isList pl'.isList (by simp; omega) hu (fun j h1 h2 => ans_at r r' ok hl j h1 h2) _ _ _ _ ⟨.bl _, H, I, rfl, ?_⟩
  rw [show us.toArray.size = xs.length by simp; omega, zip_ans xs ys hl]
  unfold eqPs at hQ
  rw [decide_eq_true hl, Bool.true_and] at hQ
  exact hQ
 ·refine SeqAt.RcNeAt.lists_lengths pl.isList pl'.isList (by simp; omega) hu _ _ _ _ ⟨.bl _, H, I, rfl, ?_⟩
  unfold eqPs at hQ
  rw [decide_eq_false hl, Bool.false_and] at hQ
  exact hQ
end
section
variable {prog : Program} {w : World} {A : Around} {E : Value → Shared → Prop} {K : PySem.W.Frag} {C T fI : Addr} {h : Heap} {g : Array GenState} {d : Drawn} {t : Nat} {os : OsState}
end
end L2
namespace L2
open PySem PySem.Spec PyProof.Rows PySem.Builtin.ObjectAttr
def tbV (tb : Option Addr) : Value := match tb with | none => .none | some b => .ref b
def ExAt (C e : Addr) (dx ar tb : Option Addr) (h : Heap) : Prop := ∃ (o : Obj) (vs : Array Value), h.get? e = some o ∧ o.cls = .ref C ∧ o.dict = dx ∧ o.data = .fields vs ∧ 0 < vs.size ∧ (∀ t, ar = some t → vs[0]? = some (.ref t)) ∧ vs[1]? = some (tbV tb)
def ExO (C e : Addr) (dx ar tb : Option Addr) : HO := .ext (ExAt C e dx ar tb)
section
variable {P : Program} {w : World} {H : Hp} {h : Heap}
end
section
variable {X : Cx} {pins : List (Addr × Obj)} {σ : St} {H : Hp} {s : Shared} {C T fI e : Addr} {A : Around} {E : Value → Shared → Prop}
end
structure ExG (K : PySem.W.Frag) (C : Addr) : Prop where
 ga : PySem.W.findIn K (.ref C) "__getattribute__" = some (some (.builtin "BaseException.__getattribute__"))
 no : PySem.W.findIn K (.ref C) "__getattr__" = some none
 be : PySem.W.mroIn K C (.type "BaseException") = some true
 hd : PySem.W.hasDictIn K C = true
 ca : PySem.W.findIn K (.ref C) "__class__" = some (some (.builtin "object.__class__"))
 cn : PySem.W.specialIn K (.builtin "object.__class__") "__get__" = some (some (.builtin "getset_descriptor.__get__"))
 ct : PySem.W.takesIn K (.builtin "object.__class__") = some true
 ob : PySem.W.mroIn K C (.type "object") = some true
 ki : PySem.W.subIn K (.ref C) (.type "int") = some false
 kb : PySem.W.subIn K (.ref C) (.type "bool") = some false
 kl : PySem.W.subIn K (.ref C) (.type "list") = some false
 kt : PySem.W.subIn K (.ref C) (.type "tuple") = some false
def foundRun (r : Found) (e C : Addr) (name : Str) : Sem PySem.Fin := match r with
 | .value v => ret v
 | .bind g a => bindTo g a (.ref e) (.ref C)
 | .missing => noSuchAttribute (.ref e) name
section
variable {prog : Program} {w : World} {A : Around} {E : Value → Shared → Prop} {s : Shared} {K : PySem.W.Frag} {e C : Addr} {o : Obj} {od : Option Obj} {name : Str}
theorem exga_by {fill expr : Bool} {tk : Tok} {r : Found} {Q : Value → Shared → Prop} (x : ExG K C) (X : K.In s.heap) (I : PySem.W.InstAt s.heap e o C od) (hf : PySem.W.findObj K C od name = some r) (hr : r ≠ .missing)
  (h : wpAny (model prog w) A.in1 (foundRun r e C name) (fun fin s' => match fin with | .done (.ret v) => wpAny (model prog w) A (handedOut v) Q E s' | _ => False) (fun _ _ => False) s) :
  wpAny (model prog w) A (getAttrBy (.ref e) (.str name tk) fill expr) Q E s := by
 have SL := PySem.F.attr_ValueError.ga
 unfold getAttrBy
 refine wpAny_holding (wpAny_bind (I.type.here (wpAny_bind ((PySem.W.looks_findIn X x.ga).here ?_))))
 dsimp only
 rw [if_neg (by rw [show (Value.builtin "BaseException.__getattribute__" == Value.builtin "object.__getattribute__") = false from by decide +kernel, Bool.and_false]; decide)]
 unfold getAttrByItsOwn
 refine wpAny_bind ((PySem.W.looks_hook (mc := .ref C) X (r := none) (by rw [if_pos (by rfl)]; exact x.no)).here (wpAny_bind (wpAny_attempt (wpAny_holding ?_))))
 unfold callGetattribute
 rw [if_neg (by rw [show onTheHeap (Value.builtin "BaseException.__getattribute__") = false from rfl, Bool.and_false]; decide)]
 unfold boundAndCalled
 rw [SL.bind]
 refine wpAny_bind (wpAny_pure ?_)
 show wpAny _ _ (call (.builtin "BaseException.__getattribute__") [.ref e, .str name tk]) _ _ _
 refine wpAny_call (codeAny_call_builtin SL.plain PySem.F.entry_bexc_ga ?_)
 refine @PySem.W.check_slot (model prog w) _ _ s "BaseException.__getattribute__" "BaseException" "__getattribute__" (.ref e) [.str name tk] [] _ (by decide +kernel) (by decide +kernel) (I.type.andThen (PySem.W.looks_mroIn X x.be)) (PySem.F.args_bexc_ga (.ref e) (.str name tk)) ?_
 delta Builtin.«object.__getattribute__»
 refine wpAny_bind (wpAny_pure (wpAny_bind (wpAny_pure (wpAny_bind (I.type.here (wpAny_bind ((PySem.W.looks_find X I hf).here ?_)))))))
 refine wpAny_mono (show wpAny (model prog w) A.in1 _ (fun fin s' => match fin with | .done (.ret v) => wpAny (model prog w) A (handedOut v) Q E s' | _ => False) (fun _ _ => False) s from ?_) (fun fin s' z => ?_) fun _ _ z => z.elim
 ·cases r with
  | value v => exact h
  | bind g a => exact h
  | missing => exact absurd rfl hr
 ·rcases fin with (_ | _ | _ | _) | _ <;> first | exact z | exact z.elim
theorem exga_class {Q : Option Value → Shared → Prop} (x : ExG K C) (X : K.In s.heap) (I : PySem.W.InstAt s.heap e o C od) (h : Q (some (.ref C)) { s with toks := s.toks + 1 }) : wpAny (model prog w) A (getAttr? (.ref e) "__class__") Q E s := by
 have hf : PySem.W.findObj K C od "__class__" = some (.bind (.builtin "getset_descriptor.__get__") (.builtin "object.__class__")) := by
  obtain ⟨cd, hc, _⟩ := PySem.W.any_some x.hd
  unfold PySem.W.findObj
  rw [hc, Option.bind_some, x.ca, Option.bind_some]
  simp [x.cn, x.ct]
 unfold getAttr? getAttrBy?
 refine wpAny_bind (wpAny_mkText (wpAny_bind (wpAny_attempt (exga_by (s := { s with toks := s.toks + 1 }) x X I hf (fun z => nomatch z) ?_))))
 show wpAny _ _ (holding [.builtin "object.__class__"] (call (.builtin "getset_descriptor.__get__") [.builtin "object.__class__", .ref e, .ref C]) >>= ret) _ _ _
 refine wpAny_bind (wpAny_holding (wpAny_call (PySem.W.class_get (s := { s with toks := s.toks + 1 }) X I x.ob ?_)))
 refine wpAny_pure ?_
 show wpAny _ _ (handedOut (.ref C)) _ _ _
 rw [PySem.W.handedOut_of rfl]
 refine wpAny_pure ?_
 exact wpAny_pure h
theorem kitx_exc {dx ar tb : Option Addr} (x : ExG K C) : PySem.W.KitX K (.ref e) (.ref C) (fun h => ExAt C e dx ar tb h ∧ ∀ d, dx = some d → ∃ oD, h.get? d = some oD) where
 ty := fun _ h X p => by
  obtain ⟨⟨o, vs, e1, e2, _⟩, _⟩ := p
  exact e2 ▸ (PySem.W.Looks.ld e1).andThen .now
 it := fun _ _ X _ => by
  obtain ⟨cdD, hcD, _⟩ := PySem.W.any_some x.hd
  unfold PySem.W.clsIn at hcD
  split at hcD
  ·rename_i c' d' cd' sl' ho
   intro A' Q' E' s' k q
   have hk := k _ _ (X _ _ ho)
   unfold isType loadHead
   exact wpAny_bind (wpAny_loadPart hk (wpAny_pure q))
  ·cases hcD
 ne := fun _ tp _ _ _ _ X htp => by
  obtain ⟨cdD, hcD, _⟩ := PySem.W.any_some x.hd
  by_cases z : C = tp
  case neg => exact Bool.eq_false_iff.mpr (fun q => z (Value.ref.inj (beq_iff_eq.mp q)))
  subst z
  unfold PySem.W.clsIn at hcD
  split at hcD
  ·rename_i c' d' cd' sl' ho
   exact nomatch (X _ _ ho).symm.trans htp
  ·cases hcD
 ca := fun X p k => by
  obtain ⟨⟨o, vs, e1, e2, e3, e4, _⟩, hD⟩ := p
  cases dx with
  | none => exact exga_class (od := none) x X ⟨e1, e2, by unfold PySem.W.notCls; rw [e4], by rw [e3]; trivial⟩ k
  | some d =>
   obtain ⟨oD, q⟩ := hD d rfl
   exact exga_class (od := some oD) x X ⟨e1, e2, by unfold PySem.W.notCls; rw [e4], by rw [e3]; exact q⟩ k
end
end L2
namespace L2
open PySem PySem.Spec PyProof.Rows
inductive Thg (K : PySem.W.Frag) (H : Hp) : V → Value → Prop where
 | non : Thg K H .non (.type "NoneType")
 | bl (x : Bool) : Thg K H (.bl x) (.type "bool")
 | int (i : Int) : Thg K H (.int i) (.type "int")
 | str (x : Str) : Thg K H (.str x) (.type "str")
 | lst {a : Addr} {xs : List V} (e : H a = some (.lst xs)) : Thg K H (.ref a) (.type "list")
 | frz {a : Addr} {o : Obj} {xs : List V} (e : H a = some (.frz o (.lst xs))) : Thg K H (.ref a) (.type "list")
 | tup {a : Addr} {xs : List V} (e : H a = some (.tup xs)) : Thg K H (.ref a) (.type "tuple")
 | dK {a : Addr} {kvs : List (Key × V)} (e : H a = some (.dK kvs)) : Thg K H (.ref a) (.type "dict")
 | exc {a C : Addr} {dx : Addr} {ar tb : Option Addr} {u : HO} (e : H a = some (ExO C a (some dx) ar tb)) (d : H dx = some u) (x : ExG K C) : Thg K H (.ref a) (.ref C)
 | exn {a C : Addr} {ar tb : Option Addr} (e : H a = some (ExO C a none ar tb)) (x : ExG K C) : Thg K H (.ref a) (.ref C)
theorem Thg.keep {K : PySem.W.Frag} {H H' : Hp} {v : V} {t : Value} (x : Thg K H v t) (k : ∀ a o, H a = some o → H' a = some o) : Thg K H' v t := by
 cases x with
 | non => exact .non
 | bl x => exact .bl x
 | int i => exact .int i
 | str x => exact .str x
 | lst e => exact .lst (k _ _ e)
 | frz e => exact .frz (k _ _ e)
 | tup e => exact .tup (k _ _ e)
 | dK e => exact .dK (k _ _ e)
 | exc e d x => exact .exc (k _ _ e) (k _ _ d) x
 | exn e x => exact .exn (k _ _ e) x
section
variable {X : Cx} {pins : List (Addr × Obj)} {σ : St} {H : Hp} {s : Shared}
theorem ObjOk.there {P : Program} {w : World} {H : Hp} {h : Heap} {a : Addr} {o : HO} (x : ObjOk P w H h a o) : ∃ ob, h.get? a = some ob := by
 cases o with
 | lst xs => obtain ⟨_, _, _, _, e⟩ := x; exact ⟨_, e⟩
 | tup xs => obtain ⟨_, _, _, ⟨ob, e, _⟩, _⟩ := x; exact ⟨ob, e⟩
 | dK kvs => obtain ⟨_, _, _, _, o, _, _, e, _⟩ := x; exact ⟨o, e⟩
 | dT kvs => obtain ⟨_, _, _, _, o, _, _, e, _⟩ := x; exact ⟨o, e⟩
 | set S n => obtain ⟨o, _, _, _, e, _⟩ := x; exact ⟨o, e⟩
 | ins C dx fs => obtain ⟨_, _, _, e, _⟩ := x; exact ⟨_, e⟩
 | own y => exact x
 | xd fs => obtain ⟨_, ⟨o, _, _, e, _⟩, _⟩ := x; exact ⟨o, e⟩
 | rng lo hi => obtain ⟨_, _, _, e⟩ := x; exact ⟨_, e⟩
 | frz ob u => obtain ⟨e, _⟩ := x; exact ⟨ob, e⟩
 | tbl ps => exact ⟨_, x⟩
 | met f y => exact ⟨_, x⟩
 | ext φ => exact x.2.1
theorem Thg.kit {v : V} {u t : Value} (I : Inv X pins σ H s) (r : RelV v u) (x : Thg X.K H v t) : u ≠ .builtin "__main__.__loader__#opaque" ∧ ∃ φ, PySem.W.KitX X.K u t φ ∧ φ s.heap := by
 cases x with
 | non => cases (show u = Value.none from r); exact ⟨(fun z => nomatch z), _, PySem.W.kitx_none, True.intro⟩
 | bl y => cases (show u = Value.bool y from r); exact ⟨(fun z => nomatch z), _, PySem.W.kitx_bool, True.intro⟩
 | int i => obtain ⟨t, q⟩ := (show ∃ t, u = Value.int i t from r); cases q; exact ⟨(fun z => nomatch z), _, PySem.W.kitx_int, True.intro⟩
 | str y => obtain ⟨t, q⟩ := (show ∃ t, u = Value.str y t from r); cases q; exact ⟨(fun z => nomatch z), _, PySem.W.kitx_str, True.intro⟩
 | @lst a xs ea =>
  cases (show u = Value.ref a from r)
  obtain ⟨_, _, n, _, h1⟩ := (show ObjOk X.prog X.w H s.heap a (.lst xs) from I.hok a _ ea)
  exact ⟨(fun z => nomatch z), _, PySem.W.kitx_list, ⟨_, h1, rfl⟩⟩
 | @frz a ob xs ea =>
  cases (show u = Value.ref a from r)
  obtain ⟨_, _, _, n, _, h1⟩ := (show ObjOk X.prog X.w H s.heap a (.frz ob (.lst xs)) from I.hok a _ ea)
  exact ⟨(fun z => nomatch z), _, PySem.W.kitx_list, ⟨_, h1, rfl⟩⟩
 | @tup a xs ea =>
  cases (show u = Value.ref a from r)
  obtain ⟨_, _, _, p, _⟩ := (show ObjOk X.prog X.w H s.heap a (.tup xs) from I.hok a _ ea)
  obtain ⟨o, h1, h2, _⟩ := p
  exact ⟨(fun z => nomatch z), _, PySem.W.kitx_tuple, ⟨o, h1, h2⟩⟩
 | @dK a kvs ea =>
  cases (show u = Value.ref a from r)
  obtain ⟨_, _, vs, _, p⟩ := (show ObjOk X.prog X.w H s.heap a (.dK kvs) from I.hok a _ ea)
  obtain ⟨o, es, ep, h1, h2, _⟩ := p
  exact ⟨(fun z => nomatch z), _, PySem.W.kitx_dict, ⟨o, h1, h2.1⟩⟩
 | @exc a C dx ar tb w ea ed x =>
  cases (show u = Value.ref a from r)
  refine ⟨(fun z => nomatch z), _, kitx_exc (dx := some dx) x, (I.hok a _ ea).1, fun d hd => ?_⟩
  cases hd
  exact (I.hok dx _ ed).there
 | @exn a C ar tb ea x =>
  cases (show u = Value.ref a from r)
  exact ⟨(fun z => nomatch z), _, kitx_exc (dx := none) x, (I.hok a _ ea).1, fun d hd => nomatch hd⟩
def vOf : V → Value
 | .ty n => .type n
 | .ref a => .ref a
 | _ => .none
theorem vals_vOf : ∀ {cs : List V} {us : List Value}, Vals cs us → (∀ c ∈ cs, (∃ n, c = .ty n) ∨ ∃ a, c = .ref a) → us = cs.map vOf
 | _, _, .nil, _ => rfl
 | c :: cs, u :: us, .cons r t, h => by
  rw [List.map_cons, vals_vOf t fun c hc => h c (List.mem_cons_of_mem _ hc)]
  rcases h c List.mem_cons_self with ⟨n, rfl⟩ | ⟨a, rfl⟩
  ·cases (show u = Value.type n from r); rfl
  ·cases (show u = Value.ref a from r); rfl
def rInst (K : PySem.W.Frag) : List V → Hp → VK → Prop := fun xs H Q => ∃ v c t b, xs = [v, c] ∧ Thg K H v t ∧
  ((∃ T, c = .ty T ∧ PySem.W.kitOne K t (.type T) = some b) ∨ (∃ C, c = .ref C ∧ PySem.W.kitOne K t (.ref C) = some b) ∨
    ∃ tp cs, c = .ref tp ∧ H tp = some (.tup cs) ∧ (∀ c ∈ cs, (∃ n, c = .ty n) ∨ ∃ a, c = .ref a) ∧ PySem.W.kitAny K t (cs.map vOf) = some b) ∧ Q (.bl b) H
theorem call_inst : CallR X (.builtin "isinstance") (rInst X.K) := by
 intro pins s σ H xs us Q I r h
 obtain ⟨v, c, t, b, rfl, x, hc, q⟩ := h
 obtain ⟨u, u', rfl, ru, ru'⟩ := vals2 r
 obtain ⟨hx, φ, Z, p⟩ := x.kit I ru
 have fin : ∀ tk, EP X pins σ Q (.bool b) { s with toks := tk } := fun tk => ⟨.bl b, H, I.tok tk, rfl, q⟩
 rcases hc with ⟨T, rfl, e⟩ | ⟨C, rfl, e⟩ | ⟨tp, cs, rfl, ht, hcs, e⟩
 ·cases (show u' = Value.type T from ru')
  exact PySem.W.kia_one Z I.kIn p e hx fin
 ·cases (show u' = Value.ref C from ru')
  exact PySem.W.kia_one Z I.kIn p e hx fin
 ·cases (show u' = Value.ref tp from ru')
  obtain ⟨_, its, rv, ⟨o, h1, h2, n, h3⟩, _⟩ := (show ObjOk X.prog X.w H s.heap tp (.tup cs) from I.hok tp _ ht)
  rcases o with ⟨oc, od, odt, osl⟩
  cases (show oc = _ from h2)
  cases (show odt = _ from h3)
  rw [← vals_vOf rv hcs] at e
  exact PySem.W.kia_tup Z I.kIn p h1 e hx fin
end
section
variable {X : Cx} {C T fI : Addr}
end
section
variable {prog : Program} {w : World} {A : Around} {E : Value → Shared → Prop} {s : Shared} {K : PySem.W.Frag} {e C t : Addr} {o : Obj} {od : Option Obj} {vs : Array Value} {m : Str} {tk : Tok} {nm : String}
variable {P : Program} {p : Addr} {H H' : Hp} {as as' : List Addr} {d d' : Nat} {v : V} {tx : Str}
end
section
variable {w : World} {K : PySem.W.Frag} {P : Program} {p : Addr} {H H' : Hp} {as as' : List Addr} {d d' : Nat} {v : V} {tx : Str}
end
section
variable {prog : Program} {w : World} {A : Around} {E : Value → Shared → Prop} {K : PySem.W.Frag} {T : Addr} {h : Heap} {g : Array GenState} {d : Drawn} {t : Nat} {os : OsState}
end
section
variable {X : Cx} {pins : List (Addr × Obj)} {σ : St} {H : Hp} {s : Shared} {T e : Addr} {A : Around} {E : Value → Shared → Prop}
end
section
variable {X : Cx} {pins : List (Addr × Obj)} {σ : St} {H : Hp} {s : Shared} {h' : Heap} {C e : Addr} {A : Around} {E : Value → Shared → Prop}
end
section
variable {X : Cx} {E : XK} {x : Expr} {tx : TE} {pos : Pos}
end
section
variable {X : Cx} {pins : List (Addr × Obj)} {σ : St} {H : Hp} {s : Shared} {h' : Heap} {e : Addr}
end
section
variable {prog : Program} {w : World} {A : Around} {E : Value → Shared → Prop} {s : Shared}
end
def SqB (K : PySem.W.Frag) (tp : Bool) (H : Hp) (a : Addr) (xs : List V) : Prop := if tp then SqT K H a xs else SqL K H a xs
section
variable {X : Cx}
end
section
variable {prog : Program} {w : World} {A : Around} {E : Value → Shared → Prop}
end
section
variable {X : Cx} {pos : Pos}
end
theorem bt_len : bootBuiltins "len" = some (.builtin "len") := by decide +kernel
theorem bt_max : bootBuiltins "max" = some (.builtin "max") := by decide +kernel
theorem bt_min : bootBuiltins "min" = some (.builtin "min") := by decide +kernel
theorem bt_isinstance : bootBuiltins "isinstance" = some (.builtin "isinstance") := by decide +kernel
theorem bt_list : bootBuiltins "list" = some (.type "list") := by decide +kernel
theorem bt_tuple : bootBuiltins "tuple" = some (.type "tuple") := by decide +kernel
theorem bt_int : bootBuiltins "int" = some (.type "int") := by decide +kernel
theorem bt_bool : bootBuiltins "bool" = some (.type "bool") := by decide +kernel
theorem bt_enumerate : bootBuiltins "enumerate" = some (.type "enumerate") := by decide +kernel
structure Dn (K : PySem.W.Frag) (mg : Str → Option Value) (x qual : Str) (st : Stmt) (ps : List Str) (f : Addr) (fd : FuncData) : Prop where
 fn : Fun K x qual st f fd
 b : Binds K fd ps []
 m : mg x = some (.ref f)
theorem dn_mk {K : PySem.W.Frag} {h : Heap} {mg : Str → Option Value} (X : K.In h) (G : h.Ns mainGlobals mg) {x : Str} {st : Stmt} {ps : List Str} {f : Addr} {oc : Value} {od an : Option Addr} {osl : Array (Option Value)} {kV doc pm cdv ct : Value}
  (a : PySem.W.nsIn K mainGlobals x = some (some (.ref f))) (l : K.lookup f = some ⟨oc, od, .func (PySem.W.fnOf x x (defArgs st) (defBody st) (defScope st) .none kV doc pm an cdv ct), osl⟩)
  (c : PySem.W.codeIn K cdv x = true) (k : PySem.W.keepIn K (.ref f) = true)
  (b : ∀ (kV doc pm : Value) (an : Option Addr) (cdv ct : Value) (us : List Value), us.length = ps.length → bindArgs (PySem.W.fnOf x x (defArgs st) (defBody st) (defScope st) .none kV doc pm an cdv ct) ⟨us, []⟩ = pure (ps.zip us)) :
  ∃ f fd, Dn K mg x x st ps f fd := ⟨f, _, fun_mk (st := st) l c k, (fun_mk (st := st) l c k).binds b, PySem.W.mg_of X G a⟩
def isStar : Expr → Bool
 | .Starred _ _ => true
 | _ => false
theorem star_cons {e : Expr} {es : List Expr} {env : Env} (h : isStar e = false) : starEach (e :: es) env = (false, eval e env) :: starEach es env := by
 cases e with
 | Starred a b => exact Bool.noConfusion h
 | _ => kernel_rfl
theorem pa_c {X : Cx} {e : Expr} {es : List Expr} {te : TE} {t : TA} (ha : PE X e te) (hr : PA X es t) (h : isStar e = false := by rfl) : PA X (e :: es) (tCons te t) := pa_cons ha hr (star_cons h)
section
variable {X : Cx} {es : List Expr} {t : TA} {j : Nat} {p : Pos}
theorem pa_ofE {e : Expr} {te : TE} (ha : PE X e te) (hs : isStar e = false) (h : PA X es t) : PA X (e :: es) (tCons te t) := pa_c ha h hs
theorem pa_non (h : PA X es t) : PA X (.Constant .none j p :: es) (tCons (tC .non) t) := pa_ofE pe_non rfl h
theorem pa_bl {b : Bool} (h : PA X es t) : PA X (.Constant (.bool b) j p :: es) (tCons (tC (.bl b)) t) := pa_ofE pe_bl rfl h
theorem pa_int {i : Int} (h : PA X es t) : PA X (.Constant (.int i) j p :: es) (tCons (tC (.int i)) t) := pa_ofE pe_int rfl h
theorem pa_lst {es' : List Expr} {t' : TA} (h' : PA X es' t') (h : PA X es t) : PA X (.List es' p :: es) (tCons (tLst t') t) := pa_ofE (pe_lst h') rfl h
end
def blkOk (fs : Scope) (scope : Scope) (N : List Str) (x : Str) (Nf : List Str) (js : List Nat) : Bool :=
 (scope.kind == .function) && scope.names.all (fun y => y.2 != .cell) && scope.names.all (fun y => y.2 != .local || scope.names.lookup y.1 == some .local) && (scope.names.lookup x == some .local) &&
  decide (x :: Nf).Nodup && scope.names.all (fun y => y.2 != .free || fs.names.lookup y.1 == some .cell) && (Nf.length == js.length) &&
  (Nf.zip js).all (fun p => N[p.2]? == some p.1 && scope.names.lookup p.1 == some .free && fs.names.lookup p.1 == some .cell)
theorem blk_mk {X : Cx} {scope : Scope} {x : Str} (Nf : List Str) (js : List Nat) (h : blkOk X.env.scope scope X.N x Nf js = true := by kernel_rfl) : BlkScope X scope x Nf js := by
 unfold blkOk at h
 simp only [Bool.and_eq_true, beq_iff_eq, decide_eq_true_eq] at h
 obtain ⟨⟨⟨⟨⟨⟨⟨h1, h2⟩, h3⟩, h4⟩, h5⟩, h6⟩, h7⟩, h8⟩ := h
 refine ⟨h1, fun y hy => ?_, fun y hy hl => ?_, h4, h5, fun y hy hf => ?_, h7, fun i z hz => ?_⟩
 ·have := List.all_eq_true.mp h2 y hy
  simpa using this
 ·have := List.all_eq_true.mp h3 y hy
  rw [hl] at this
  simpa using this
 ·have := List.all_eq_true.mp h6 y hy
  rw [hf] at this
  show X.env.scope.names.lookup y.1 = some .cell
  simpa using this
 ·have hi : i < js.length := by rw [← h7]; exact (List.getElem?_eq_some_iff.mp hz).1
  have hm : (z, js[i]) ∈ Nf.zip js := by
   have e : (Nf.zip js)[i]? = some (z, js[i]) := by
    rw [List.getElem?_zip_eq_some]
    exact ⟨hz, by simp [hi]⟩
   exact List.mem_of_getElem? e
  have q := List.all_eq_true.mp h8 _ hm
  rw [Bool.and_eq_true, Bool.and_eq_true, beq_iff_eq, beq_iff_eq, beq_iff_eq] at q
  exact ⟨js[i], by simp [hi], q.1.1, q.1.2, q.2⟩
def ItB (K : PySem.W.Frag) (tp : Bool) (a : Addr) : It := if tp then Itt K a else Itl K a
def iSeq (K : PySem.W.Frag) (tp : Bool) (tl : TE) : TI := fun σ H R => tl σ H fun x H1 => ∃ a, x = .ref a ∧ (∃ xs, SqB K tp H1 a xs) ∧ R (ItB K tp a) H1
theorem pi_seq {X : Cx} {tg l : Expr} {tl : TE} (tp : Bool) (hl : PE X l tl) : PI X tg l (iSeq X.K tp tl) := by
 cases tp with
 | true => exact pi_tup hl
 | false => exact pi_list hl
def KB (p : Addr) (H H' : Hp) : Prop := ∀ b o, H b = some o → b ≠ p → H' b = some o
theorem KB.refl {p : Addr} {H : Hp} : KB p H H := fun _ _ h _ => h
theorem Same.kb {p : Addr} {H H' : Hp} (a : Same H H') : KB p H H' := fun b o h _ => a b o h
theorem Same.upd {H : Hp} {p : Addr} {o : HO} (h : H p = none) : Same H (upd H p o) := fun b u q => by rw [upd_ne (ne_of_none q h)]; exact q
theorem KB.updP {H H1 : Hp} {p : Addr} {o : HO} (k : KB p H H1) : KB p H (upd H1 p o) := fun b u z n => by rw [upd_ne n]; exact k b u z n
def kD : Key → PyData
 | .inl i => .int i
 | .inr x => .str x
mutual
inductive DV (N : Addr → Prop) (H : Hp) : V → PyData → Prop
 | non : DV N H .non .none
 | bl (b : Bool) : DV N H (.bl b) (.bool b)
 | int (i : Int) : DV N H (.int i) (.int i)
 | str (x : Str) : DV N H (.str x) (.str x)
 | lst {a : Addr} {xs : List V} {ds : List PyData} : ¬ N a → H a = some (.lst xs) → DVs N H xs ds → DV N H (.ref a) (.list ds)
 | tup {a : Addr} {xs : List V} {ds : List PyData} : ¬ N a → H a = some (.tup xs) → DVs N H xs ds → DV N H (.ref a) (.tuple ds)
 | dct {a : Addr} {kvs : List (Key × V)} {ds : List (PyData × PyData)} : ¬ N a → H a = some (.dK kvs) → DKs N H kvs ds → DV N H (.ref a) (.dict ds)
inductive DVs (N : Addr → Prop) (H : Hp) : List V → List PyData → Prop
 | nil : DVs N H [] []
 | cons {v : V} {d : PyData} {vs : List V} {ds : List PyData} : DV N H v d → DVs N H vs ds → DVs N H (v :: vs) (d :: ds)
inductive DKs (N : Addr → Prop) (H : Hp) : List (Key × V) → List (PyData × PyData) → Prop
 | nil : DKs N H [] []
 | cons {k : Key} {v : V} {d : PyData} {vs : List (Key × V)} {ds : List (PyData × PyData)} : DV N H v d → DKs N H vs ds → DKs N H ((k, v) :: vs) ((kD k, d) :: ds)
end
mutual
theorem DV.one {N N' : Addr → Prop} {H : Hp} : ∀ {v : V} {d d' : PyData}, DV N H v d → DV N' H v d' → d = d'
 | _, _, _, .non, .non => rfl
 | _, _, _, .bl _, .bl _ => rfl
 | _, _, _, .int _, .int _ => rfl
 | _, _, _, .str _, .str _ => rfl
 | _, _, _, .lst _ e r, .lst _ e' r' => by rw [e] at e'; cases e'; rw [DVs.one r r']
 | _, _, _, .tup _ e r, .tup _ e' r' => by rw [e] at e'; cases e'; rw [DVs.one r r']
 | _, _, _, .dct _ e r, .dct _ e' r' => by rw [e] at e'; cases e'; rw [DKs.one r r']
 | _, _, _, .lst _ e _, .tup _ e' _ => by rw [e] at e'; cases e'
 | _, _, _, .lst _ e _, .dct _ e' _ => by rw [e] at e'; cases e'
 | _, _, _, .tup _ e _, .lst _ e' _ => by rw [e] at e'; cases e'
 | _, _, _, .tup _ e _, .dct _ e' _ => by rw [e] at e'; cases e'
 | _, _, _, .dct _ e _, .lst _ e' _ => by rw [e] at e'; cases e'
 | _, _, _, .dct _ e _, .tup _ e' _ => by rw [e] at e'; cases e'
theorem DVs.one {N N' : Addr → Prop} {H : Hp} : ∀ {vs : List V} {ds ds' : List PyData}, DVs N H vs ds → DVs N' H vs ds' → ds = ds'
 | _, _, _, .nil, .nil => rfl
 | _, _, _, .cons r t, .cons r' t' => by rw [DV.one r r', DVs.one t t']
theorem DKs.one {N N' : Addr → Prop} {H : Hp} : ∀ {vs : List (Key × V)} {ds ds' : List (PyData × PyData)}, DKs N H vs ds → DKs N' H vs ds' → ds = ds'
 | _, _, _, .nil, .nil => rfl
 | _, _, _, .cons r t, .cons r' t' => by rw [DV.one r r', DKs.one t t']
end
theorem entries_more {prog : Program} {w : World} {h₀ : Heap} {as as' : List Addr} {d d' : Nat} (hsub : ∀ b ∈ as, b ∈ as') (hd : d ≤ d') : ∀ {l : List DictEntry} {ts : List Str}, ReprEntriesK prog w as h₀ d l ts → ReprEntriesK prog w as' h₀ d' l ts
 | _, _, .nil => .nil
 | _, _, .cons a b t => .cons ((a.more hsub).level_le hd) ((b.more hsub).level_le hd) (entries_more hsub hd t)
section
variable {X : Cx} {pins : List (Addr × Obj)} {σ : St} {H : Hp} {s : Shared} {N : Addr → Prop}
def Low (N : Addr → Prop) (H : Hp) (n : Nat) (bs : List Addr) : Prop := ∀ b ∈ bs, ∃ d, DV N H (.ref b) d ∧ d.depth ≤ n
theorem Low.mono {n m : Nat} {bs : List Addr} (h : Low N H n bs) (k : n ≤ m) : Low N H m bs := fun b hb => let ⟨d, r, q⟩ := h b hb; ⟨d, r, Nat.le_trans q k⟩
theorem Low.append {n : Nat} {bs cs : List Addr} (h : Low N H n bs) (k : Low N H n cs) : Low N H n (bs ++ cs) := fun b hb => (List.mem_append.mp hb).elim (h b) (k b)
theorem Low.cons {n : Nat} {a : Addr} {d : PyData} {bs : List Addr} (r : DV N H (.ref a) d) (k : n ≤ d.depth) (h : Low N H n bs) : Low N H d.depth (a :: bs) := fun b hb => by
 rcases List.mem_cons.mp hb with rfl | hb
 ·exact ⟨d, r, Nat.le_refl _⟩
 ·exact h.mono k b hb
theorem Low.out {n : Nat} {a : Addr} {d : PyData} {bs : List Addr} (r : DV N H (.ref a) d) (k : n < d.depth) (h : Low N H n bs) : a ∉ bs := fun hb => by
 obtain ⟨d', r', q⟩ := h a hb
 rw [DV.one r' r] at q
 omega
mutual
theorem DV.shows (I : Inv X pins σ H s) : ∀ {v : V} {d : PyData} {u : Value}, DV N H v d → RelV v u → d.showable = true → d.shown.length ≤ sizeLine → ∃ bs, Low N H d.depth bs ∧ ReprK X.prog X.w bs s.heap d.depth u d.shown
 | _, _, u, .non, r, _, _ => by cases (show u = Value.none from r); exact ⟨[], (fun _ h => nomatch h), by simp only [PyData.shown]; exact .of_is ReprIs.none _ _ _⟩
 | _, _, u, .bl b, r, _, _ => by cases (show u = Value.bool b from r); exact ⟨[], (fun _ h => nomatch h), by simp only [PyData.shown]; exact .of_is (ReprIs.bool b) _ _ _⟩
 | _, _, u, .int i, r, hs, _ => by obtain ⟨t, rfl⟩ := (show ∃ t, u = Value.int i t from r); exact ⟨[], (fun _ h => nomatch h), by simp only [PyData.shown]; exact .of_is (ReprIs.int t (by simpa [PyData.showable] using hs)) _ _ _⟩
 | _, _, u, .str x, r, _, hz => by obtain ⟨t, rfl⟩ := (show ∃ t, u = Value.str x t from r); exact ⟨[], (fun _ h => nomatch h), by simp only [PyData.shown]; exact .of_is (ReprIs.str x t (by simpa only [PyData.shown] using hz)) _ _ _⟩
 | _, _, u, .lst (a := a) (xs := xs) (ds := ds) na e q, r, hs, hz => by
  cases (show u = Value.ref a from r)
  obtain ⟨_, its, n, rv, g⟩ := (show ObjOk X.prog X.w H s.heap a (.lst xs) from I.hok a _ e)
  have hz' : (listText (PyData.shownAll ds)).length ≤ sizeLine := by simpa only [PyData.shown] using hz
  obtain ⟨bs, hb, hk⟩ := DVs.shows I q rv (by simpa [PyData.showable] using hs) (fun t ht => Nat.le_trans (listText_mem_le ht) hz')
  have R : DV N H (.ref a) (.list ds) := .lst na e q
  have hna : a ∉ bs := Low.out R (by simp only [PyData.depth]; omega) hb
  refine ⟨a :: bs, Low.cons R (by simp only [PyData.depth]; omega) hb, ?_⟩
  simp only [PyData.depth, PyData.shown]
  cases rv with
  | nil =>
   cases q
   simp only [PyData.shownAll, listText_nil]
   exact ReprK.listEmpty g rfl rfl
  | cons r1 r2 => exact ReprK.list g rfl rfl hna (by simpa using hk.length_eq) (fun i y e => hk.item i y (by simpa using e))
 | _, _, u, .tup (a := a) (xs := xs) (ds := ds) na e q, r, hs, hz => by
  cases (show u = Value.ref a from r)
  obtain ⟨_, its, rv, ⟨o, h1, h2, n, h3⟩, _⟩ := (show ObjOk X.prog X.w H s.heap a (.tup xs) from I.hok a _ e)
  have hz' : (tupleText (PyData.shownAll ds)).length ≤ sizeLine := by simpa only [PyData.shown] using hz
  obtain ⟨bs, hb, hk⟩ := DVs.shows I q rv (by simpa [PyData.showable] using hs) (fun t ht => Nat.le_trans (tupleText_mem_le ht) hz')
  have R : DV N H (.ref a) (.tuple ds) := .tup na e q
  have hna : a ∉ bs := Low.out R (by simp only [PyData.depth]; omega) hb
  refine ⟨a :: bs, Low.cons R (by simp only [PyData.depth]; omega) hb, ?_⟩
  simp only [PyData.depth, PyData.shown]
  exact ReprK.tuple h1 h2 h3 hna (by simpa using hk)
 | _, _, u, .dct (a := a) (kvs := kvs) (ds := ds) na e q, r, hs, hz => by
  cases (show u = Value.ref a from r)
  obtain ⟨_, hsys, vs, kv, o, es, ep, h1, h2, h3, h4, h5, h6⟩ := (show ObjOk X.prog X.w H s.heap a (.dK kvs) from I.hok a _ e)
  have hz' : (dictText (PyData.shownKv ds)).length ≤ sizeLine := by simpa only [PyData.shown] using hz
  obtain ⟨bs, hb, hk⟩ := DKs.shows I q kv h5 (by simpa [PyData.showable] using hs) (fun t ht => Nat.le_trans (dictText_mem_le ht) hz')
  have R : DV N H (.ref a) (.dict ds) := .dct na e q
  have hna : a ∉ bs := Low.out R (by simp only [PyData.depth]; omega) hb
  refine ⟨a :: bs, Low.cons R (by simp only [PyData.depth]; omega) hb, ?_⟩
  simp only [PyData.depth, PyData.shown]
  exact ReprK.dict h1 h2.1 h3 hsys hna hk
theorem DVs.shows (I : Inv X pins σ H s) : ∀ {vs : List V} {ds : List PyData} {us : List Value}, DVs N H vs ds → Vals vs us → PyData.showableAll ds = true → (∀ t ∈ PyData.shownAll ds, t.length ≤ sizeLine) →
  ∃ bs, Low N H (PyData.depthAll ds) bs ∧ ReprAllK X.prog X.w bs s.heap (PyData.depthAll ds) us (PyData.shownAll ds)
 | _, _, _, .nil, .nil, _, _ => ⟨[], (fun _ h => nomatch h), by simp only [PyData.shownAll]; exact .nil⟩
 | _, _, _, .cons (d := d) (ds := ds) r t, .cons r1 r2, hs, hz => by
  obtain ⟨sd, sds⟩ : d.showable = true ∧ PyData.showableAll ds = true := by rwa [PyData.showableAll, Bool.and_eq_true] at hs
  obtain ⟨b1, hb1, k1⟩ := DV.shows I r r1 sd (hz _ (by simp only [PyData.shownAll]; exact List.mem_cons_self ..))
  obtain ⟨b2, hb2, k2⟩ := DVs.shows I t r2 sds (fun t ht => hz t (by simp only [PyData.shownAll]; exact List.mem_cons_of_mem _ ht))
  refine ⟨b1 ++ b2, (hb1.mono (by simp only [PyData.depthAll]; exact Nat.le_max_left _ _)).append (hb2.mono (by simp only [PyData.depthAll]; exact Nat.le_max_right _ _)), ?_⟩
  simp only [PyData.depthAll, PyData.shownAll]
  have m1 := (k1.more fun b hb => List.mem_append_left b2 hb).level_le (Nat.le_max_left d.depth (PyData.depthAll ds))
  have m2 := k2.more_le (fun b hb => List.mem_append_right b1 hb) (Nat.le_max_right d.depth (PyData.depthAll ds))
  exact .cons m1 m2
theorem DKs.shows (I : Inv X pins σ H s) : ∀ {vs : List (Key × V)} {ds : List (PyData × PyData)} {us : List (Key × Value)} {es : List DictEntry}, DKs N H vs ds → KV vs us → Pairs (mixKind X.prog X.w) es us → PyData.showableKv ds = true →
  (∀ t ∈ PyData.shownKv ds, t.length ≤ sizeLine) → ∃ bs, Low N H (PyData.depthKv ds) bs ∧ ReprEntriesK X.prog X.w bs s.heap (PyData.depthKv ds) es (PyData.shownKv ds)
 | _, _, _, _, .nil, .nil, .nil, _, _ => ⟨[], (fun _ h => nomatch h), by simp only [PyData.shownKv]; exact .nil⟩
 | _, _, _, [], .cons _ _, .cons _ _, w, _, _ => nomatch w
 | _, _, kv :: _, e :: _, .cons (k := k) (d := d) (ds := ds) r t, .cons q1 q2, w, hs, hz => by
  cases w with
  | cons w1 w2 w3 =>
  have hs' : ((kD k).showable = true ∧ d.showable = true) ∧ PyData.showableKv ds = true := by simpa [PyData.showableKv] using hs
  have hz1 : ((kD k).shown ++ ": " ++ d.shown).length ≤ sizeLine := hz _ (by simp only [PyData.shownKv]; exact List.mem_cons_self ..)
  rw [strLen_append, strLen_append] at hz1
  obtain ⟨z1, z2⟩ := q1
  obtain ⟨b1, hb1, k1⟩ := DV.shows I r z2 hs'.1.2 (by omega)
  obtain ⟨b2, hb2, k2⟩ := DKs.shows I t q2 w3 hs'.2 (fun t ht => hz t (by simp only [PyData.shownKv]; exact List.mem_cons_of_mem _ ht))
  have hk : ∀ n, ReprK X.prog X.w (b1 ++ b2) s.heap n e.key (kD k).shown := fun n => by
   have z1' : k = kv.1 := z1
   rcases keyIs_shape (show keyIs kv.1 e.key = true from w1) with ⟨i, tk, z, w4⟩ | ⟨x, tk, z, w4⟩
   ·rw [w4, z1', z]
    have hsi := hs'.1.1
    rw [z1', z] at hsi
    simp only [kD, PyData.shown]
    exact .of_is (ReprIs.int tk (by simpa [kD, PyData.showable] using hsi)) _ _ _
   ·rw [w4, z1', z]
    have hzi : (kD k).shown.length ≤ sizeLine := by omega
    rw [z1', z] at hzi
    simp only [kD, PyData.shown] at hzi ⊢
    exact .of_is (ReprIs.str x tk hzi) _ _ _
  refine ⟨b1 ++ b2, (hb1.mono (by simp only [PyData.depthKv]; omega)).append (hb2.mono (by simp only [PyData.depthKv]; omega)), ?_⟩
  simp only [PyData.depthKv, PyData.shownKv]
  exact .cons (hk _) (by rw [w2]; exact (k1.more fun b hb => List.mem_append_left _ hb).level_le (by omega)) (entries_more (fun b hb => List.mem_append_right _ hb) (by omega) k2)
end
structure Okd (n : Nat) (d : PyData) : Prop where
 sh : d.showable = true
 lv : d.leavesShort 40 = true
 dp : d.depth ≤ 20
 wt : d.weight ≤ n
theorem Okd.len {n : Nat} {d : PyData} (h : Okd n d) (hn : n ≤ 100000) : d.shown.length ≤ sizeLine := by
 have := PyData.shown_le 40 (by decide) d h.lv
 have e : (40 + 2) * d.weight ≤ 42 * 100000 := Nat.mul_le_mul (by omega) (Nat.le_trans h.wt hn)
 have : sizeLine = 16777216 := by decide
 omega
theorem call_reprD {X : Cx} (hg : X.A.guards = some []) (hu : X.A.units + 64 < cLine) : CallR X (.builtin "repr") (fun xs H Q => ∃ (v : V) (N : Addr → Prop) (d : PyData), xs = [v] ∧ DV N H v d ∧ Okd 100000 d ∧ Q (.str d.shown) H) := by
 intro pins s σ H xs us Q I r h
 obtain ⟨v, N, d, rfl, x, ok, q⟩ := h
 obtain ⟨u, rfl, rx⟩ := vals1 r
 have hz := ok.len (Nat.le_refl _)
 have hs := ok.sh
 have hd := ok.dp
 cases x with
 | non => cases (show u = Value.none from rx); exact P.repr_of_none ⟨.str PyData.none.shown, H, I.tok _, ⟨_, by simp only [PyData.shown]; rfl⟩, q⟩
 | bl b => cases (show u = Value.bool b from rx); exact P.repr_of_bool ⟨.str (PyData.bool b).shown, H, I.tok _, ⟨_, by simp only [PyData.shown]; rfl⟩, q⟩
 | int i =>
  obtain ⟨t, rfl⟩ := (show ∃ t, u = Value.int i t from rx)
  exact P.repr_of_int (by simpa [PyData.showable] using hs) ⟨.str (PyData.int i).shown, H, I.tok _, ⟨_, by simp only [PyData.shown]; rfl⟩, q⟩
 | str y =>
  obtain ⟨t, rfl⟩ := (show ∃ t, u = Value.str y t from rx)
  exact P.repr_of_str ⟨.str (PyData.str y).shown, H, I.tok _, ⟨_, by simp only [PyData.shown]; rfl⟩, q⟩ (by simpa only [PyData.shown] using hz)
 | @lst a xs ds na e p =>
  cases (show u = Value.ref a from rx)
  obtain ⟨_, its, n, rv, g⟩ := (show ObjOk X.prog X.w H s.heap a (.lst xs) from I.hok a _ e)
  have hz' : (listText (PyData.shownAll ds)).length ≤ sizeLine := by simpa only [PyData.shown] using hz
  obtain ⟨bs, hb, hk⟩ := DVs.shows I p rv (by simpa [PyData.showable] using hs) (fun t ht => Nat.le_trans (listText_mem_le ht) hz')
  have hna : a ∉ bs := Low.out (DV.lst na e p) (by simp only [PyData.depth]; omega) hb
  simp only [PyData.depth] at hd
  cases rv with
  | nil =>
   cases p
   refine call_repr_slot (by omega) ⟨_, g, rfl⟩ PySem.F.slot_list_repr.toG (call_list_repr_empty ⟨_, g, rfl⟩ g rfl ?_)
   exact ⟨_, _, rfl, .str (PyData.list []).shown, H, I.kept (fun _ _ e => e), ⟨_, by simp only [PyData.shown, PyData.shownAll, listText_nil]; rfl⟩, q⟩
  | cons r1 r2 =>
   refine call_repr_slot (by omega) ⟨_, g, rfl⟩ PySem.F.slot_list_repr.toG (call_list_reprK (g := []) g rfl rfl hna (by simpa using hk.length_eq) (fun i y z => hk.item i y (by simpa using z)) hg (fun b _ => Clear.nil b) (by show X.A.units + 1 + (_ + 1) < cLine; omega) (fun _ _ e => e) (fun h' u tk hkk => ⟨_, _, rfl, ?_⟩) hz')
   exact ⟨.str (PyData.list ds).shown, H, I.kept hkk, ⟨_, by simp only [PyData.shown]; rfl⟩, q⟩
 | @tup a xs ds na e p =>
  cases (show u = Value.ref a from rx)
  obtain ⟨_, its, rv, ⟨o, h1, h2, n, h3⟩, _⟩ := (show ObjOk X.prog X.w H s.heap a (.tup xs) from I.hok a _ e)
  have hz' : (tupleText (PyData.shownAll ds)).length ≤ sizeLine := by simpa only [PyData.shown] using hz
  obtain ⟨bs, hb, hk⟩ := DVs.shows I p rv (by simpa [PyData.showable] using hs) (fun t ht => Nat.le_trans (tupleText_mem_le ht) hz')
  have hna : a ∉ bs := Low.out (DV.tup na e p) (by simp only [PyData.depth]; omega) hb
  simp only [PyData.depth] at hd
  refine call_repr_slot (by omega) ⟨_, h1, h2⟩ PySem.F.slot_tuple_repr (call_tuple_reprK (g := []) h1 h2 h3 hna (by simpa using hk) hg (fun b _ => Clear.nil b) (by show X.A.units + 1 + (_ + 1) < cLine; omega) (fun _ _ e => e) (fun h' u tk hkk => ⟨_, _, rfl, ?_⟩) hz')
  exact ⟨.str (PyData.tuple ds).shown, H, I.kept hkk, ⟨_, by simp only [PyData.shown]; rfl⟩, q⟩
 | @dct a kvs ds na e p =>
  cases (show u = Value.ref a from rx)
  obtain ⟨_, hsys, vs, kv, o, es, ep, h1, h2, h3, h4, h5, h6⟩ := (show ObjOk X.prog X.w H s.heap a (.dK kvs) from I.hok a _ e)
  have hz' : (dictText (PyData.shownKv ds)).length ≤ sizeLine := by simpa only [PyData.shown] using hz
  obtain ⟨bs, hb, hk⟩ := DKs.shows I p kv h5 (by simpa [PyData.showable] using hs) (fun t ht => Nat.le_trans (dictText_mem_le ht) hz')
  have hna : a ∉ bs := Low.out (DV.dct na e p) (by simp only [PyData.depth]; omega) hb
  simp only [PyData.depth] at hd
  refine call_repr_slot (by omega) ⟨_, h1, h2.1⟩ PySem.F.slot_dict_repr (call_dict_reprK (g := []) h1 h2.1 h3 hsys hna hk hg (fun b _ => Clear.nil b) (by show X.A.units + 1 + (_ + 1) < cLine; omega) (fun _ _ e => e) (fun h' u tk hkk => ⟨_, _, rfl, ?_⟩) hz')
  exact ⟨.str (PyData.dict ds).shown, H, I.kept hkk, ⟨_, by simp only [PyData.shown]; rfl⟩, q⟩
end
theorem bt_repr : bootBuiltins "repr" = some (.builtin "repr") := by decide +kernel
theorem bt_all : bootBuiltins "all" = some (.builtin "all") := by decide +kernel
theorem bt_set : bootBuiltins "set" = some (.type "set") := by decide +kernel
section
variable {X : Cx}
theorem call_allB (hh : X.A.handled = none) : CallR X (.builtin "all") (fun xs H Q => ∃ (a : Addr) (bs : List Bool), xs = [.ref a] ∧ H a = some (.lst (bs.map V.bl)) ∧ Q (.bl (bs.all id)) H) := by
 intro pins s σ H xs us Q I r h
 obtain ⟨a, bs, rfl, hl, q⟩ := h
 obtain ⟨u, rfl, rx⟩ := vals1 r
 cases rx
 obtain ⟨hz, its, n, rv, g⟩ := (show ObjOk X.prog X.w H s.heap a (.lst (bs.map V.bl)) from I.hok a _ hl)
 have isl : s.heap.IsList a its.toArray := ⟨_, g, rfl, n, rfl⟩
 have lt := Heap.lt_size g
 refine call_all_walk (wpAny_pyIter_list isl ?_)
 have at_ : ∀ (i : Nat) (v : Value), its.toArray[i]? = some v → v = .bool (bs.getD i false) := fun i v e => by
  have e' : its[i]? = some v := by simpa using e
  obtain ⟨j1, j2⟩ := List.getElem?_eq_some_iff.mp e'
  have hi : i < bs.length := by have := rv.length; rw [List.length_map] at this; omega
  obtain ⟨u, u1, u2⟩ := rv.get (i := i) (x := .bl bs[i]) (by simp [hi])
  rw [e'] at u1
  cases u1
  rw [show v = Value.bool bs[i] from u2]
  simp [hi]
 refine ⟨_, _, _, _, _, _, fun i => bs.getD i false, rfl, Walks.list (by simp [hh]) _ a (Nat.ne_of_lt lt) its.toArray, ⟨⟨_, Heap.get?_push_size _ rfl, rfl, rfl⟩, isl.push _⟩, ?_, fun h' tk k => ?_⟩
 ·intro i v s' R E' e hr
  rw [at_ i v e]
  exact wpAny_pure hr
 ·have kk : ∀ b o, s.heap.get? b = some o → h'.get? b = some o := fun b o e => k b o (by
   intro z
   rw [List.mem_singleton.mp z] at e
   exact absurd (Heap.lt_size e) (Nat.lt_irrefl _)) (Heap.get?_push_of_some _ e)
  refine ⟨.bl (bs.all id), H, I.kept kk, ?_, q⟩
  show Value.bool _ = Value.bool _
  congr 1
  have e1 : its.toArray.size = bs.length := by have := rv.length; rw [List.length_map] at this; simp [← this]
  rw [e1]
  clear q rv hl isl g at_ e1
  rw [Bool.eq_iff_iff, List.all_eq_true, List.all_eq_true]
  constructor
  ·intro f b hb
   obtain ⟨i, hi, e⟩ := List.getElem_of_mem hb
   have := f i (List.mem_range.mpr hi)
   simpa [hi, e] using this
  ·intro f i hi
   have hi' := List.mem_range.mp hi
   have := f bs[i] (List.getElem_mem hi')
   simpa [hi'] using this
def upTo (i : Int) (n : Nat) : List V := (List.range n).map fun (k : Nat) => V.int (i + (k : Int))
end
section
variable {prog : Program} {w : World} {A : Around} {E : Value → Shared → Prop} {s : Shared}
abbrev onceOf (ns : List Int) (n : Nat) : List Int := firstMet (fun i => ns.getD i 0) n
end
section
variable {X : Cx}
theorem ints_vals : ∀ {ns : List Int} {us : List Value}, Vals (ns.map V.int) us → IntsAre us ns
 | [], _, .nil => .nil
 | n :: ns, _, .cons r t => by
  obtain ⟨k, rfl⟩ := (show ∃ k, _ = Value.int n k from r)
  exact .cons _ _ (ints_vals t)
theorem call_lenS : CallR X (.builtin "len") (fun xs H Q => ∃ (a : Addr) (S : Int → Bool) (n : Nat), xs = [.ref a] ∧ H a = some (.set S n) ∧ n ≤ 100000 ∧ Q (.int n) H) := by
 intro pins s σ H xs us Q I r h
 obtain ⟨a, S, n, rfl, hl, hz, q⟩ := h
 obtain ⟨u, rfl, rx⟩ := vals1 r
 cases rx
 obtain ⟨o, es, ep, t, h1, h2, h3, h4, h5, h6, h7, h8⟩ := (show s.heap.SetOf (intKind X.prog X.w) a S n from I.hok a _ hl)
 exact call_len_set h1 h2 h3 h7 (by omega) ⟨.int n, H, I.tok _, ⟨_, by rw [h8]⟩, q⟩
structure BaseFn (K : PySem.W.Frag) (T : Addr) (m : Str) (f : Addr) : Prop where
 ga : PySem.W.specialIn K (.ref T) "__getattribute__" = some (some (.builtin "type.__getattribute__"))
 rd : PySem.W.readsIn K T (.type "type") = true
 at_ : PySem.W.findCls K (.ref T) (.type "type") m = some (.val (.ref f))
 kp : PySem.W.keepIn K (.ref f) = true
theorem pe_base {CX : CXT} {k : Nat} {T f : Addr} {fd : FuncData} {ps : List Str} {sp : Sp} {E : XK} {pl : Sem Bool} {x m : Str} {p apos pos : Pos} {e : Expr} {es : List Expr} {t : TA} (B : BaseFn X.K T m f) (F : FnOk X.prog X.w X.K X.mg X.base CX k f fd ps sp) (hr : Room k X.A)
  (hg : Gl X x) (hm : X.mg x = some (.ref T)) (hb : Binds X.K fd ps []) (hx : Passes CX X E) (ha : PA X (e :: es) t)
  (hdb : (x == ("__debug__" : Str)) = false := by decide) (he : starEach (e :: es) X.env = (false, eval e X.env) :: starEach es X.env := by rfl) (hpl : (backTo pos (starEach es X.env)).any (·.1) = false := by rfl)
  (ht : eval (.Call (.Attribute (.Name x p) m apos) (e :: es) [] pos) X.env = (do
   let ov ← eval (.Name x p) X.env
   standAt apos.atName
   let (f, first) ← holding [ov] (getMethod ov m pl)
   callWith pos f first (backTo pos (starEach (e :: es) X.env)) (backToKw pos (keywordEach [] X.env))) := by rfl) :
  PE X (.Call (.Attribute (.Name x p) m apos) (e :: es) [] pos) (tCall sp [] E t) := by
 intro pins s σ H Q I h
 refine PySem.W.methodCall_KW (pl := pl) (ld_glob I hg hm ?_ hdb) ht
 refine PySem.W.method_cls I.kIn B.ga (PySem.W.cls_value I.kIn B.rd B.at_ rfl ?_)
 refine PySem.W.callWith_K (h₀ := X.base) I.ok.mod.kin B.kp (thn (ha pos pins { s with toks := s.toks + 1 } σ H _ (I.tok _) h) fun us s1 ⟨vs, H1, I1, r, q⟩ => ⟨I1.kIn, ?_⟩) he hpl
 exact run_fn F hr hb .nil hx I1 r (by simpa using q)
structure InsC (K : PySem.W.Frag) (C : Addr) : Prop where
 cl : Cls K C
 ha : PySem.W.findIn K (.ref C) "__class__" = some (some (.builtin "object.__class__"))
 hn : PySem.W.specialIn K (.builtin "object.__class__") "__get__" = some (some (.builtin "getset_descriptor.__get__"))
 tk : PySem.W.takesIn K (.builtin "object.__class__") = some true
 hm : PySem.W.mroIn K C (.type "object") = some true
theorem call_instO : CallR X (.builtin "isinstance") (fun xs H Q => ∃ (a C D dx : Addr) (fs : List (Str × V)) (b : Bool), xs = [.ref a, .ref D] ∧ H a = some (.ins C dx fs) ∧ InsC X.K C ∧ PySem.W.kitOne X.K (.ref C) (.ref D) = some b ∧ Q (.bl b) H) := by
 intro pins s σ H xs us Q I r h
 obtain ⟨a, C, D, dx, fs, b, rfl, hi, c, e, q⟩ := h
 obtain ⟨u, u', rfl, ru, ru'⟩ := vals2 r
 cases (show u' = Value.ref D from ru')
 exact isinst_ok I ru (.ins hi c.cl c.ha c.hn c.tk c.hm) e fun tk => ⟨.bl b, H, I.tok tk, rfl, q⟩
end
end L2
namespace L2
open PySem PyProof PyProof.Rows
theorem dict_len_at : typeLookup (.type "dict") "__len__" = pure (some (.builtin "dict.__len__")) := by rw [typeLookup_type, builtinLookup_eq_fast]; kernel_rfl
section
variable {prog : Program} {w : World} {A : Around} {E : Value → Shared → Prop} {s : Shared} {KK : Type} [DecidableEq KK] {knd : KeyKind prog w KK}
theorem go_in {R : Result → Shared → Prop} {id : String} {args : Args} {b : Builtin} (ent : entryFor table id = some b) (pl : plainId id = true) (k : wpAny (model prog w) A.in1 (b args) (fun fin t => match fin with | .done f => R (.ok f) t | .again c => c.quiet = true ∧ codeAny (model prog w) A c R t) (fun e t => R (.error e) t) s) : codeAny (model prog w) A (.builtin id args) R s :=
 codeAny_builtin ent (by rw [Around.under_plainId pl]; exact k)
theorem keys_of_dict {d : Addr} {kvs : List (KK × Value)} {ep : Nat} {Q : List Value → Shared → Prop} (hh : A.handled = none) (hS : (d == sysModules) = false) (hm : s.heap.DictAt knd d kvs ep) (hn : kvs.length ≤ sizeLine)
  (q : ∀ h' tk acc, s.heap.objs.size ≤ h'.objs.size → (∀ b o, s.heap.get? b = some o → h'.get? b = some o) → ItemsOf (fun i v => ∃ k x, kvs[i]? = some (k, x) ∧ knd.is k v = true) acc kvs.length → Q acc.toList { s with heap := h', toks := tk }) : wpAny (model prog w) A (collect (.ref d)) Q E s := by
 have dlt := hm.lt_size
 have T0 : s.TypeIs (.ref d) "dict" := hm.dictOf.typeIs
 refine show wpAny _ _ (runValue (.builtin "proto.collect" ⟨[.ref d], []⟩) >>= _) _ _ s from wpAny_bind (wpAny_runValue (go_in F.entry_proto_collect F.plain_proto_collect ?c0))
 refine wpAny_bind (m := newList []) (wpAny_newList (wpAny_pure ⟨plainId_quiet F.plain_list_iadd _, go_in F.entry_list_iadd F.plain_list_iadd (show wpAny _ A.in1 (typeOf (.ref d) >>= _) _ _ _ from ?c2)⟩))
 have m1 := hm.push { cls := .type "list", data := .seq ([] : List Value).toArray }
 have g1 : (s.heap.push { cls := .type "list", data := .seq ([] : List Value).toArray }).get? s.heap.objs.size = some { cls := .type "list", data := .seq ([] : List Value).toArray } := Heap.get?_push_size _ rfl
 have z1 : (s.heap.push { cls := .type "list", data := .seq ([] : List Value).toArray }).objs.size = s.heap.objs.size + 1 := by rw [Heap.size_push]
 have k1 : ∀ b o, s.heap.get? b = some o → (s.heap.push { cls := .type "list", data := .seq ([] : List Value).toArray }).get? b = some o := fun b o e => Heap.get?_push_of_some _ e
 generalize s.heap.push { cls := .type "list", data := .seq ([] : List Value).toArray } = h1 at *
 refine wpAny_bind (wpAny_typeOf (T := "dict") (s := { s with heap := h1 }) m1.dictOf.typeIs ?c3)
 have nd : s.heap.objs.size ≠ d := fun e => Nat.lt_irrefl _ (e ▸ dlt)
 have e1 : Builtin.List.listSameRef (.ref s.heap.objs.size) (.ref d) = false := by simp [Builtin.List.listSameRef, nd]
 rw [if_neg (by rw [e1]; decide)]
 refine wpAny_bind (wpAny_pyIter_dict (s := { s with heap := h1 }) hS m1 ?c4)
 dsimp only
 have m2 := m1.push { cls := .type "dict_keyiterator", data := .fields #[.ref d, .int 0 0, .int kvs.length 0, .int ep 0] }
 have i2 : (h1.push { cls := .type "dict_keyiterator", data := .fields #[.ref d, .int 0 0, .int kvs.length 0, .int ep 0] }).IsKeyIter h1.objs.size d 0 kvs.length ep := ⟨_, Heap.get?_push_size _ rfl, rfl, rfl⟩
 have g2 := Heap.get?_push_of_some { cls := .type "dict_keyiterator", data := .fields #[.ref d, .int 0 0, .int kvs.length 0, .int ep 0] } g1
 have k2 : ∀ b o, s.heap.get? b = some o → (h1.push { cls := .type "dict_keyiterator", data := .fields #[.ref d, .int 0 0, .int kvs.length 0, .int ep 0] }).get? b = some o := fun b o e => Heap.get?_push_of_some _ (k1 b o e)
 have n2 : s.heap.objs.size ≠ h1.objs.size := by rw [z1]; exact Nat.ne_of_lt (Nat.lt_succ_self _)
 have dI : d ≠ h1.objs.size := by rw [z1]; exact Nat.ne_of_lt (Nat.lt_succ_of_lt dlt)
 generalize hI : h1.objs.size = It at *
 generalize h1.push { cls := .type "dict_keyiterator", data := .fields #[.ref d, .int 0 0, .int kvs.length 0, .int ep 0] } = h2 at *
 refine wpAny_bind (wpAny_holding ?c5); unfold Builtin.List.listLengthHint
 refine wpAny_bind (wpAny_specialOf (T := "dict") (s := { s with heap := h2 }) m2.dictOf.typeIs dict_len_at ?c6)
 wp_delta
 refine wpAny_bind (wpAny_isInstance (T := "dict") (s := { s with heap := h2 }) (b := true) m2.dictOf.typeIs (by rw [isSubtype_type]; kernel_rfl) ?c7)
 show wpAny _ A.in1 (typeOf (Value.ref d) >>= _) _ _ _
 refine wpAny_bind (wpAny_typeOf (T := "dict") (s := { s with heap := h2 }) m2.dictOf.typeIs ?c8)
 refine wpAny_pure ?c9
 rw [if_pos (by decide +kernel)]
 refine wpAny_bind (wpAny_rule ?c10)
 refine wpAny_bind ?c11
 show wpAny _ _ (updateSeq s.heap.objs.size (·.push .none) >>= fun _ => updateSeq s.heap.objs.size (·.pop)) _ _ _
 refine wpAny_bind (wpAny_updateSeq (s := { s with heap := h2 }) g2 rfl ?c12)
 have g3 := Heap.get?_update_self (Obj.mapSeq (·.push Value.none)) g2 rfl
 refine wpAny_updateSeq (hz := by seq_fits) g3 rfl ?c13
 have g4 := Heap.get?_update_self (Obj.mapSeq (·.pop)) g3 rfl
 have o4 : ∀ b o, b ≠ s.heap.objs.size → h2.get? b = some o → ((h2.update s.heap.objs.size (Obj.mapSeq (·.push Value.none))).update s.heap.objs.size (Obj.mapSeq (·.pop))).get? b = some o := fun b o n e =>
  (Heap.get?_update_other _ _ (Ne.symm n)).trans ((Heap.get?_update_other _ _ (Ne.symm n)).trans e)
 generalize (h2.update s.heap.objs.size (Obj.mapSeq (·.push Value.none))).update s.heap.objs.size (Obj.mapSeq (·.pop)) = h4 at *
 have W := (Walks.dictKeys (prog := prog) (w := w) (A := A.in1) (knd := knd) hh It d dI kvs ep).toS
 have out : s.heap.objs.size ∉ [It, d] := fun z => by
  rcases List.mem_cons.mp z with z | z
  ·exact n2 z
  ·exact nd (List.mem_singleton.mp z)
 refine wpAny_pure ⟨plainId_quiet F.plain_extend_loop _, codeAny_extend_loopS W hn s.heap.objs.size out _ kvs.length 0 _ _ _ rfl (Nat.zero_le _) ⟨i2.at fun o e => o4 _ _ (Ne.symm n2) e, m2.at' fun o e => o4 _ _ (Ne.symm nd) e⟩ g4 (ItemsOf.nil _) fun s' acc' c' mv gS it => ?c14⟩
 refine show wpAny _ A (load s.heap.objs.size >>= _) _ _ s' from wpAny_bind (wpAny_load gS ?c15)
 have eq := Moved.eq_with mv
 have kp : ∀ b o, s.heap.get? b = some o → s'.heap.get? b = some o := fun b o e => by
  have lt := Heap.lt_size e
  have b1 : b ≠ s.heap.objs.size := Nat.ne_of_lt lt
  refine mv.heap b o (fun z => ?_) (o4 b o b1 (k2 b o e))
  rcases List.mem_cons.mp z with z | z
  ·exact b1 z
  ·rw [List.mem_singleton.mp z, z1] at lt
   exact absurd lt (Nat.not_lt.mpr (Nat.le_succ _))
 have sz := Nat.le_of_lt (Heap.lt_size gS)
 rw [eq]
 exact wpAny_pure (q s'.heap s'.toks acc' sz kp it)
theorem sorted_of_dict {d : Addr} {kvs : List (KK × Value)} {ep : Nat} {ns : List Int} {Q : Value → Shared → Prop} (hh : A.handled = none) (hS : (d == sysModules) = false) (hm : s.heap.DictAt knd d kvs ep) (h64 : kvs.length < 64)
  (hi : ∀ acc : Array Value, ItemsOf (fun i v => ∃ k x, kvs[i]? = some (k, x) ∧ knd.is k v = true) acc kvs.length → IntsAre acc.toList ns)
  (q : ∀ h' tk l (out : Array Value) e ns', (∀ b o, s.heap.get? b = some o → h'.get? b = some o) → s.heap.objs.size ≤ l → h'.get? l = some (seqObj "list" out e) → IntsAre out.toList ns' → ns'.Perm ns → ns'.Pairwise (· ≤ ·) → Q (.ref l) { s with heap := h', toks := tk }) : wpAny (model prog w) A (call (.builtin "sorted") [.ref d]) Q E s := by
 refine Calls.call_function_entry kind_sorted plain_sorted entry_sorted (args_sorted1 _) (show wpAny _ _ (checkCount "sorted" 1 1 1 >>= fun _ => collect (.ref d) >>= _) _ _ s from wpAny_bind (wpAny_pure (wpAny_bind ?c1)))
 refine keys_of_dict hh hS hm (by rw [show sizeLine = 16777216 by decide]; omega) fun h1 tk acc sz k1 it => ?c2
 have hI := hi acc it
 have len : acc.toList.length < 64 := by rw [Array.length_toList, it.1]; exact h64
 refine wpAny_bind (wpAny_newList ?c3)
 have g1 : (h1.push (seqObj "list" acc.toList.toArray 0)).get? h1.objs.size = some (seqObj "list" acc.toList.toArray 0) := Heap.get?_push_size _ rfl
 show wpAny _ _ _ _ _ { heap := h1.push (seqObj "list" acc.toList.toArray 0), gens := s.gens, drawn := s.drawn, toks := tk, os := s.os }
 refine wpAny_bind (wpAny_holding (wpAny_call_entry slot_list_sort ⟨_, g1, rfl⟩ entry_list_sort (list_sort_tree g1 hI len fun out ns' p1 p2 p3 => ⟨_, rfl, ?c4⟩) (args_list_sort _)))
 obtain ⟨e, ge⟩ := sortedHeap_at (out := out) g1
 refine wpAny_pure ⟨_, rfl, q _ tk h1.objs.size out e ns' (fun b o z => ?c5) ?c6 ge p1 p2 p3⟩
 case c5 =>
  have lt := Heap.lt_size (k1 b o z)
  rw [sortedHeap_old (Nat.ne_of_lt lt) (by rw [size_push']; exact Nat.lt_succ_of_lt lt)]
  exact Heap.get?_push_of_some _ (k1 b o z)
 case c6 => exact sz
end
theorem ints_by {us : List Value} {ns : List Int} (l : us.length = ns.length) (f : ∀ (i : Nat) (u : Value) (n : Int), us[i]? = some u → ns[i]? = some n → ∃ t, u = .int n t) : IntsAre us ns := by
 induction us generalizing ns with
 | nil =>
  have e : ns = [] := List.length_eq_zero_iff.mp l.symm
  rw [e]
  exact .nil
 | cons u us ih =>
  obtain ⟨n, ns, rfl⟩ := List.exists_cons_of_length_eq_add_one (n := us.length) l.symm
  obtain ⟨t, rfl⟩ := f 0 u n rfl rfl
  exact .cons n t (ih (Nat.succ.inj l) fun i u' n' a b => f (i + 1) u' n' a b)
section
variable {X : Cx}
theorem call_sortD (hh : X.A.handled = none) : CallR X (.builtin "sorted") (fun xs H Q => ∃ (a : Addr) (kvs : List (Key × V)) (ns : List Int), xs = [.ref a] ∧ Rd H a (.dK kvs) ∧ kvs.map (·.1) = ns.map Sum.inl ∧ ns.length < 64 ∧
  ∀ ns' : List Int, ns'.Perm ns → ns'.Pairwise (· ≤ ·) → ∀ l, H l = none → Q (.ref l) (upd H l (.lst (ns'.map V.int)))) := by
 intro pins s σ H xs us Q I r h
 obtain ⟨a, kvs, ns, rfl, hk, ek, hl, q⟩ := h
 obtain ⟨u, rfl, ru⟩ := vals1 r
 cases ru
 obtain ⟨hz, hS, vs, rk, m⟩ := dk_rd I.hok hk
 obtain ⟨ep, hm0⟩ := m.dictAt
 have e1 : vs.map (·.1) = kvs.map (·.1) := by
  clear hz m hm0 q hk ek
  induction rk with
  | nil => rfl
  | cons a b ih => rw [List.map_cons, List.map_cons, ih, a.1]
 have lv : vs.length = ns.length := by
  have := congrArg List.length (e1.trans ek)
  simpa using this
 refine sorted_of_dict (ns := ns) hh hS hm0 (by omega) (fun acc it => ?_) fun h' tk l out e ns' kp le g i1 i2 i3 => ?_
 ·refine ints_by (by rw [Array.length_toList, it.1, lv]) fun i u n a b => ?_
  obtain ⟨k, x, e2, e3⟩ := it.2 i u (by simpa using a)
  have e4 : (vs.map (·.1))[i]? = some k := by rw [List.getElem?_map, e2]; rfl
  rw [e1, ek, List.getElem?_map, b] at e4
  cases e4
  rw [mixKind_is] at e3
  exact Value.isInt_shape (show Value.isInt n u = true from e3)
 ·have rel : Vals (ns'.map V.int) out.toList := vals_ints i1
  refine ⟨.ref l, _, I.laid (a := l) (o := .lst (ns'.map V.int)) (t' := tk) kp le ⟨?_, out.toList, e, rel, by simpa using g⟩, rfl, q ns' i2 i3 l (I.hok.fresh le)⟩
  have := i2.length_eq
  rw [List.length_map, show sizeLine = 16777216 by decide]
  omega
end
section
variable {s : Shared} {E : Value → Shared → Prop} {A : Around} {prog : Program} {w : World}
end
section
variable {X : Cx}
end
section
variable {s : Shared} {E : Value → Shared → Prop} {A : Around} {prog : Program} {w : World}
end
section
variable {X : Cx} {o e : Expr} {es : List Expr} {to : TE} {t : TA} {name : Str} {apos cpos : Pos} {id : String} {r : V → List V → Hp → VK → Prop}
end
section
variable {X : Cx}
theorem op_inD (hu : X.A.units + 1 < cLine) : OpR X (compareOp .In) (fun x y H Q => ∃ a o, y = .ref a ∧ DGet H a x o ∧ Q (.bl o.isSome) H) := by
 intro pins s σ H x y v u Q I rx ry h
 obtain ⟨a, o, rfl, g, q⟩ := h
 cases ry
 exact d_in hu I g rx fun s' I' => ⟨.bl _, H, I', rfl, q⟩
theorem op_notInD (hu : X.A.units + 1 < cLine) : OpR X (compareOp .NotIn) (fun x y H Q => ∃ a o, y = .ref a ∧ DGet H a x o ∧ Q (.bl (!o.isSome)) H) := by
 intro pins s σ H x y v u Q I rx ry h
 obtain ⟨a, o, rfl, g, q⟩ := h
 cases ry
 exact d_notIn hu I g rx fun s' I' => ⟨.bl _, H, I', rfl, q⟩
end
end L2
namespace L2
open PySem
section
variable {prog : Program} {w : World} {A : Around} {E : Value → Shared → Prop} {s : Shared} {z TI TO i1 i2 l1 l2 : Addr} {n1 n2 i : Nat} {P1 P2 : Nat → Value → Prop} {St1 St2 : Nat → Heap → Prop}
end
section
variable {prog : Program} {w : World} {A : Around} {E : Value → Shared → Prop} {s : Shared} {z TI TO : Addr} {f0 f1 : Value}
end
section
variable {s : Shared} {E : Value → Shared → Prop} {A : Around} {prog : Program} {w : World}
variable {z TI TO i1 i2 l1 l2 : Addr} {n1 n2 i : Nat} {P1 P2 : Nat → Value → Prop} {St1 St2 : Nat → Heap → Prop}
end
end L2
namespace L2
open PySem PyProof PyProof.Rows
theorem entry_upd_loop : entryFor table "dict.update.loop" = some Builtin.«dict.update.loop» := entryFor_of_tree (by kernel_rfl)
theorem plain_upd_loop : plainId "dict.update.loop" = true := by decide +kernel
section
variable {prog : Program} {w : World} {A : Around} {KK : Type} [DecidableEq KK] {knd : KeyKind prog w KK} {R : Result → Shared → Prop}
variable {z TI TO i1 i2 l1 l2 : Addr} {n : Nat} {P1 P2 : Nat → Value → Prop} {St1 St2 : Nat → Heap → Prop}
end
section
variable {prog : Program} {w : World} {A : Around} {E : Value → Shared → Prop} {s : Shared} {KK : Type} [DecidableEq KK] {knd : KeyKind prog w KK}
end
section
variable {X : Cx} {a b : Expr} {t : TA} {p p' pos pos' : Pos} {tp : Bool}
end
section
variable {X : Cx}
theorem call_dictD : CallR X (.type "dict") (fun xs H Q => ∃ (a : Addr) (kvs : List (Key × V)), xs = [.ref a] ∧ Rd H a (.dK kvs) ∧ ∀ l, H l = none → Q (.ref l) (upd H l (.dK kvs))) := by
 intro pins s σ H xs us Q I r h
 obtain ⟨a, kvs, rfl, hk, q⟩ := h
 obtain ⟨u, rfl, ru⟩ := vals1 r
 cases ru
 obtain ⟨hz, hS, vs, rk, m⟩ := dk_rd I.hok hk
 refine kt_call_dict hS m (by rw [← rk.length]; exact hz) fun h' hd hs => ?_
 have kk : ∀ c o, s.heap.get? c = some o → h'.get? c = some o := fun c o e => hs.extBut _ _ (Nat.ne_of_lt (Heap.lt_size e)) (Heap.get?_push_of_some _ e)
 refine ⟨.ref s.heap.objs.size, _, I.laid (a := s.heap.objs.size) (o := .dK kvs) (t' := s.toks) kk (Nat.le_refl _) ⟨hz, ?_, vs, rk, hd⟩, rfl, q _ (I.hok.fresh (Nat.le_refl _))⟩
 have := I.big
 exact beq_eq_false_iff_ne.mpr (by intro z; simp only [Addr] at *; omega)
end
theorem Inv.turnN {X : Cx} {pins : List (Addr × Obj)} {σ : St} {H : Hp} {s : Shared} {h' : Heap} {t' : Nat} (ch : List Addr) (I : Inv X pins σ H s) (hf : ∀ b ∈ ch, FpOk X pins H b) (k : ∀ b o, b ∉ ch → s.heap.get? b = some o → h'.get? b = some o) : Inv X pins σ H { s with heap := h', toks := t' } := by
 have nH : ∀ b u, H b = some u → b ∉ ch := fun b u q z => by rw [(hf b z).1] at q; cases q
 refine I.step (g' := s.gens) (d' := s.drawn) (ch := ch) (fun b hb => ?_) (fun b o _ _ hc q _ => k b o hc q) (fun b o _ _ hc q _ => ⟨o.slots, k b o hc q⟩)
  (fun _ _ _ _ n => n) (fun b o hc q => ⟨o, k b o hc q⟩) (fun _ _ e => e) (fun _ _ _ e => e) (fun b ps e => ⟨#[], by rw [e]; simp⟩) (fun m hm => ?_) (fun b u q => ?_) I.bare
 ·obtain ⟨_, f1, _, f3, f4, f5⟩ := hf b hb
  exact ⟨f3, f1, f4, f5⟩
 ·obtain ⟨o, es, ep, ho, r⟩ := hm
  exact ⟨o, es, ep, k _ o (fun z => (hf _ z).2.1 rfl) ho, r⟩
 ·refine (I.hok b u q).stay (fun c v hc z => ?_) (fun _ z => z) fun _ _ z => z
  rcases hc with rfl | hc
  ·exact k _ v (nH _ _ q) z
  ·exact k _ v (nH _ _ hc) z
theorem Inv.turnT {X : Cx} {pins : List (Addr × Obj)} {σ : St} {H : Hp} {s : Shared} {h' : Heap} {t' : Nat} {T : Addr} {xs : List V} {us : List Value} (ch : List Addr) (I : Inv X pins σ H s) (hf : ∀ b ∈ ch, FpOk X pins H b) (k : ∀ b o, b ∉ ch → s.heap.get? b = some o → h'.get? b = some o)
  (lT : s.heap.objs.size ≤ T) (r : Vals xs us) (hz : xs.length ≤ sizeLine) (hT : h'.get? T = some { cls := .type "tuple", data := .seq us.toArray }) : Inv X pins σ (upd H T (.tup xs)) { s with heap := h', toks := t' } := by
 have fT : H T = none := I.hok.fresh lT
 have nT : ∀ b o, s.heap.get? b = some o → b ≠ T := fun b o q => Nat.ne_of_lt (Nat.lt_of_lt_of_le (Heap.lt_size q) lT)
 have nH : ∀ b u, H b = some u → b ∉ ch := fun b u q z => by rw [(hf b z).1] at q; cases q
 refine I.step (g' := s.gens) (d' := s.drawn) (ch := ch) (fun b hb => ?_) (fun b o _ _ hc q _ => k b o hc q) (fun b o _ _ hc q _ => ⟨o.slots, k b o hc q⟩)
  (fun b o _ q n => by rw [upd_ne (nT b o q)]; exact n) (fun b o hc q => ⟨o, k b o hc q⟩) (fun b ys q => by rw [upd_ne (ne_of_none q fT)]; exact q) (fun b o u q => by rw [upd_ne (ne_of_none q fT)]; exact q)
  (fun b ps q => ⟨#[], by rw [upd_ne (ne_of_none q fT), q]; simp⟩) (fun m hm => ?_) (fun b u q => ?_) I.bare
 ·obtain ⟨_, f1, _, f3, f4, f5⟩ := hf b hb
  exact ⟨f3, f1, f4, f5⟩
 ·obtain ⟨o, es, ep, ho, r⟩ := hm
  exact ⟨o, es, ep, k _ o (fun z => (hf _ z).2.1 rfl) ho, r⟩
 ·by_cases hb : b = T
  ·subst hb
   rw [upd_same] at q
   cases q
   exact ⟨hz, us, r, ⟨_, hT, rfl, _, rfl⟩, fun o z => by rw [hT] at z; cases z; rfl⟩
  ·rw [upd_ne hb] at q
   refine (I.hok b u q).stay (fun c v hc z => ?_) (fun c z => by rw [upd_ne (ne_of_none z fT)]; exact z) fun c ys z => by rw [upd_ne (ne_of_none z fT)]; exact z
   rcases hc with rfl | hc
   ·exact k _ v (nH _ _ q) z
   ·exact k _ v (nH _ _ hc) z
section
variable {X : Cx}
end
end L2
namespace L2
open PySem PySem.Spec PyProof.Rows
section
variable {s : Shared} {R : Result → Shared → Prop} {A : Around} {prog : Program} {w : World}
abbrev testsOf (ifs : List Expr) (env : Env) : Sem Bool := forIn ifs true fun c r => if r = true then do let ok ← isTrue c env (eval c env); pure (ForInStep.yield ok) else pure (ForInStep.yield r)
def Less (J : Nat → Shared → Prop) (n : Nat) (t : Shared) : Prop := ∃ m, m < n ∧ J m t
theorem comp_turns {elt target iter : Expr} {ifs : List Expr} {scope : Scope} {pos : Pos} {it acc : Value} {env : Env} {N : Value → Shared → Prop} (eN : N = notedBy (model prog w) A env fun e s' => R (.error e) s') (J : Nat → Shared → Prop)
  (turn : ∀ n s, J n s → wpAny (model prog w) A (pyNext it) (fun r s1 => (r = none → R (.ok .next) s1) ∧ ∀ v, r = some v → wpAny (model prog w) A (letOwnedTupleGo target it v) (fun _ s0 => wpAny (model prog w) A (assign target env v) (fun _ s2 => wpAny (model prog w) A (testsOf ifs env)
   (fun ok s3 => (ok = false → Less J n s3) ∧ (ok = true → wpAny (model prog w) A (eval elt env) (fun x s4 => wpAny (model prog w) A (call (.builtin "list.append") [acc, x]) (fun _ s5 => Less J n s5) N s4) N s3)) N s2) N s0) N s1) N s)
  (n : Nat) (h : J n s) : codeAny (model prog w) A (.compLoop (.ListComp elt [⟨target, iter, ifs, 0⟩] scope pos) 0 it acc env) R s := by
 subst eN
 refine codeAny_loop rfl J (fun n s hJ => ?_) n h
 refine (show wpAny _ A ((compTurn (.ListComp elt [⟨target, iter, ifs, 0⟩] scope pos) 0 it acc env).onRaise (fun x => do noteFrame x env; theTreesLotGoes x)) _ _ s from wpAny_noted ?_)
 rw [compTurn_list]
 refine wpAny_bind (wpAny_standAt (wpAny_bind (thn (turn n s hJ) fun r s1 ⟨q0, q1⟩ => ?_)))
 cases r with
 | none => exact wpAny_pure (q0 rfl)
 | some v =>
  refine wpAny_bind (thn (q1 v rfl) fun _ s0 q2 => wpAny_bind (thn q2 fun _ s2 q3 => wpAny_bind (thn q3 fun ok s3 ⟨no, yes⟩ => ?_)))
  cases ok with
  | false => exact wpAny_pure ⟨rfl, no rfl⟩
  | true => exact wpAny_bind (wpAny_bind (thn (yes rfl) fun x s4 q4 => wpAny_bind (thn q4 fun _ s5 q5 => wpAny_pure (wpAny_pure ⟨rfl, q5⟩))))
end
structure BlkScope2 (X : Cx) (scope : Scope) (x x' : Str) (Nf : List Str) (js : List Nat) : Prop where
 kind : scope.kind = .function
 nocell : ∀ y ∈ scope.names, y.2 ≠ .cell
 loc : ∀ y ∈ scope.names, y.2 = .local → scope.names.lookup y.1 = some .local
 own : scope.names.lookup x = some .local
 own' : scope.names.lookup x' = some .local
 nd : (x :: x' :: Nf).Nodup
 free : ∀ y ∈ scope.names, y.2 = .free → X.env.kindOf y.1 = some .cell
 slots : Nf.length = js.length
 at_ : ∀ (i : Nat) (z : Str), Nf[i]? = some z → ∃ j : Nat, js[i]? = some j ∧ X.N[j]? = some z ∧ scope.names.lookup z = some .free ∧ X.env.scope.names.lookup z = some .cell
section
variable {X : Cx} {scope : Scope} {x x' : Str} {Nf : List Str} {js : List Nat} {C : Addr} {s₂ : Shared} {H₂ : Hp} {ex : List Addr} {pins : List (Addr × Obj)} {σ : St}
theorem BlkScope2.hasCell (B : BlkScope2 X scope x x' Nf js) (ok : X.Ok) : ∀ y ∈ scope.names, y.2 = .free → ∃ c, X.env.cells.lookup y.1 = some c := fun y hy hf => ok.has y.1 (.inl (B.free y hy hf))
theorem BlkScope2.look (B : BlkScope2 X scope x x' Nf js) (ok : X.Ok) {z : Str} {c : Addr} (e : (clGo X.env scope.names []).lookup z = some c) : X.env.cells.lookup z = some c :=
 clGo_look scope.names [] (B.hasCell ok) (fun c h => by simp at h) e
theorem BlkScope2.ok (B : BlkScope2 X scope x x' Nf js) {H : Hp} {s : Shared} (I : Inv X pins σ H s) (hC : s.heap.objs.size ≤ C) {fp : List Addr} (hf : ∀ b ∈ fp, FpOk X pins H b) (ho : ∀ b ∈ fp, ∃ o, s.heap.get? b = some o ∧ ∀ v, o.data ≠ .cell v) :
  (blk X scope (x :: x' :: Nf) C s H fp pins).Ok where
 mod := I.ok.mod
 kind := B.kind
 glob := I.ok.glob
 blt := I.ok.blt
 above := hC
 inj := fun y z c h1 h2 => I.ok.inj y z c (B.look I.ok h1) (B.look I.ok h2)
 has := fun z hz => clGo_has scope.names [] (.inl (relabel_free (sc := scope) B.nocell hz))
 cab := fun y c h _ => Bool.noConfusion h
 hd := fun h => I.ok.hd h
 frames := I.ok.frames
 stk := .inl rfl
 exf := fun b hb => by
  obtain ⟨o, e, d⟩ := ho b hb
  refine ⟨Nat.ne_of_lt (Nat.lt_of_lt_of_le (Heap.lt_size e) hC), fun z c h => (hf b hb).2.2.2.2.1 z c (B.look I.ok h)⟩
 bs := I.bs
 bsz := Nat.le_trans I.ok.bsz I.sz
 noex := fun b o e hb => by
  rcases (hf b hb).2.2.2.1 with z | z
  ·exact I.ok.noex b o e z
  ·exact absurd (Nat.lt_of_lt_of_le (Heap.lt_size e) (Nat.le_trans I.ok.bsz z)) (Nat.lt_irrefl _)
 exfs := fun b hb hs => by
  rcases List.mem_cons.mp (I.stkSub b hs) with e | e
  ·exact (hf b hb).2.1 e
  ·exact (hf b hb).2.2.1 e
 funs := I.stack
 frf := I.stkFree
end
section
variable {X : Cx} {scope : Scope} {x x' : Str} {Nf : List Str} {js : List Nat} {pins : List (Addr × Obj)} {σ : St}
def blkSt2 (js : List Nat) (σ : St) (v v' : Option V) : St := v :: v' :: js.map fun j => (σ[j]?).getD none
theorem BlkScope2.inv (B : BlkScope2 X scope x x' Nf js) {H : Hp} {s : Shared} (I : Inv X pins σ H s) {fp : List Addr} (hf : ∀ b ∈ fp, FpOk X pins H b) (ho : ∀ b ∈ fp, ∃ o, s.heap.get? b = some o ∧ ∀ v, o.data ≠ .cell v)
    {h₁ : Heap} {tk : Nat} (hn : h₁.Ns (s.heap.objs.size + 1) (fun _ => none)) (hs : Heap.SameBut (s.heap.objs.size + 1) ((s.heap.push { cls := .type "list", data := .seq #[] }).push { cls := .type "dict", data := .dict #[] }) h₁) :
    Inv (blk X scope (x :: x' :: Nf) (s.heap.objs.size + 1) s H fp pins) [] (blkSt2 js σ none none) (upd H s.heap.objs.size (.lst [])) { s with heap := h₁, toks := tk } := by
  have old : ∀ b o, s.heap.get? b = some o → h₁.get? b = some o := fun b o e =>
    hs.extBut b o (Nat.ne_of_lt (Nat.lt_succ_of_lt (Heap.lt_size e))) (Heap.get?_push_of_some _ (Heap.get?_push_of_some _ e))
  have hD : h₁.get? s.heap.objs.size = some { cls := .type "list", data := .seq #[] } := hs.extBut _ _ (Nat.ne_of_lt (Nat.lt_succ_self _)) (Heap.get?_push_of_some _ (Heap.get?_push_size _ rfl))
  have fD : H s.heap.objs.size = none := I.hok.fresh (Nat.le_refl _)
  have fC : H (s.heap.objs.size + 1) = none := I.hok.fresh (Nat.le_succ _)
  have cellAt : ∀ z c, (clGo X.env scope.names []).lookup z = some c → c < s.heap.objs.size := fun z c e => by
    obtain ⟨v, q⟩ := I.cell z c (B.look I.ok e)
    exact q.lt
  have J := I.laid (a := s.heap.objs.size) (o := .lst []) (h' := h₁) (t' := tk) old (Nat.le_refl _) ⟨Nat.zero_le _, [], 0, .nil, hD⟩
  refine ⟨B.ok I (Nat.le_succ _) hf ho, rfl, I.bare, Un.laid old (Nat.le_refl _) fD, ⟨_, hn, fun i z v h1 h2 h3 => ?_⟩, fun z c e => ?_, ?_, fun z c e => ?_, fun p hp => ?_, J.hok, ?_⟩
  · -- a name of the block that has a value: one of the def's
    cases i with
    | zero =>
      have h2' : some (none : Option V) = some (some v) := h2
      cases h2'
    | succ i =>
     cases i with
     | zero =>
      have h2' : some (none : Option V) = some (some v) := h2
      cases h2'
     | succ i =>
      have h1' : Nf[i]? = some z := h1
      have h2' : (js.map fun j => (σ[j]?).getD none)[i]? = some (some v) := h2
      obtain ⟨j, e1, e2, e3, e4⟩ := B.at_ i z h1'
      rw [List.getElem?_map, e1] at h2'
      have h2'' : (σ[j]?).getD none = some v := Option.some.inj h2'
      have e5 : σ[j]? = some (some v) := by
        cases q : σ[j]? with
        | none => rw [q] at h2''; cases h2''
        | some y => rw [q] at h2''; exact congrArg some h2''
      obtain ⟨m, hm, hl⟩ := I.loc
      obtain ⟨u, r, l⟩ := hl j z v e2 e5 (.inr (.inl e4))
      refine ⟨u, r, .inr ⟨.inl ?_, ?_⟩⟩
      · exact relabel_cell I.ok.kind e4 B.loc B.nocell e3
      · rcases l with ⟨k, _⟩ | ⟨_, c, hc, q⟩
        · rw [show X.env.kindOf z = X.env.scope.names.lookup z from rfl, e4] at k; cases k
        · obtain ⟨c', hc'⟩ := clGo_has (env := X.env) (x := z) scope.names [] (.inl (PySem.mem_of_lookup e3))
          have e6 := B.look I.ok hc'
          rw [hc] at e6
          cases e6
          exact ⟨c, hc', q.keeps old⟩
  · obtain ⟨v, q⟩ := I.cell z c (B.look I.ok e)
    exact ⟨v, q.keeps old⟩
  · show upd H s.heap.objs.size (.lst []) (s.heap.objs.size + 1) = none
    rw [upd_ne (Nat.ne_of_gt (Nat.lt_succ_self _))]
    exact fC
  · rw [upd_ne (Nat.ne_of_lt (cellAt z c e))]
    exact I.freeC z c (B.look I.ok e)
  · have hp' : p ∈ X.pn ++ pins := by
      have : p ∈ (X.pn ++ pins) ++ [] := hp
      rwa [List.append_nil] at this
    obtain ⟨e, n, ne, nf, d⟩ := I.pin p hp'
    refine ⟨old _ _ e, ?_, Nat.ne_of_lt (Nat.lt_succ_of_lt (Heap.lt_size e)), fun z => ?_, d⟩
    · rw [upd_ne (Nat.ne_of_lt (Heap.lt_size e))]; exact n
    · rcases List.mem_cons.mp (I.stkSub p.1 z) with q | q
      · exact ne q
      · exact nf q
  · show (none :: none :: js.map _).length = (x :: x' :: Nf).length
    rw [List.length_cons, List.length_cons, List.length_map, List.length_cons, List.length_cons, B.slots]
theorem BlkScope2.back (B : BlkScope2 X scope x x' Nf js) {H H' : Hp} {s s' : Shared} {fp : List Addr} {C : Addr} {pl : List (Addr × Obj)} {τ : St} (I : Inv X pins σ H s) (hf : ∀ b ∈ fp, FpOk X pins H b) (hC : s.heap.objs.size ≤ C)
  (J : Inv (blk X scope (x :: x' :: Nf) C s H fp pins) pl τ H' s') {h' : Heap} (hs : Heap.SameBut C s'.heap h') : Inv X pins σ H' { s' with heap := h' } := by
 have nC : H' C = none := J.free
 refine I.call' (s' := { s' with heap := h' }) (ch := fp) J.os ⟨fun b o e n hb hx => ?_, fun b o e n hb hx => ?_, J.base.free, fun b o e hx => ?_, J.base.tups, J.base.frzs, J.base.tbls⟩ ?_ J.bare (fun b hb => ?_)
 ·exact hs.extBut b o (Nat.ne_of_lt (Nat.lt_of_lt_of_le (Heap.lt_size e) hC)) (J.base.keep b o e n hb hx)
 ·obtain ⟨sl, e1⟩ := J.base.slot b o e n hb hx
  exact ⟨sl, hs.extBut b _ (Nat.ne_of_lt (Nat.lt_of_lt_of_le (Heap.lt_size e) hC)) e1⟩
 ·obtain ⟨o', e1⟩ := J.base.there b o e hx
  exact ⟨o', hs.extBut b _ (Nat.ne_of_lt (Nat.lt_of_lt_of_le (Heap.lt_size e) hC)) e1⟩
 ·intro a o e
  refine (J.hok a o e).stay (fun b u hb q => hs.extBut b u ?_ q) (fun _ q => q) fun _ _ q => q
  rcases hb with rfl | hb
  ·exact fun z => by rw [z, nC] at e; cases e
  ·exact fun z => by rw [z, nC] at hb; cases hb
 ·obtain ⟨_, f1, f2, f3, f4, f5⟩ := hf b hb
  exact ⟨f3, f1, f4, f5⟩
end
def tComp2 (K : PySem.W.Frag) (js : List Nat) (wi : TI) (tc : TT) (te : TE) : TE := fun σ H Q => wi σ H fun J H1 => ∀ D, H1 D = none → ∃ W : Nat → Nat → Hp → Prop, (∃ m, W 0 m (upd H1 D (.lst []))) ∧ ∀ i m H2, W i m H2 →
 (J.stop i H2 ∧ Q (.ref D) H2) ∨ (J.go i H2 ∧ ∀ v H3, J.yld i H2 v H3 → ∃ t y y', v = .ref t ∧ SqT K H3 t [y, y'] ∧ tc (blkSt2 js σ (some y) (some y')) H3 fun b H4 =>
  if b = true then te (blkSt2 js σ (some y) (some y')) H4 fun y H5 => ∃ ys, H5 D = some (.lst ys) ∧ ys.length < sizeLine ∧ ∃ m', m' < m ∧ W (i + 1) m' (upd H5 D (.lst (ys ++ [y])))
  else ∃ m', m' < m ∧ W (i + 1) m' H4)
section
variable {X : Cx} {scope : Scope} {x x' : Str} {Nf : List Str} {js : List Nat} {wi : TI} {tc : TT} {te : TE} {elt iter : Expr} {ifs : List Expr} {px px' ptg pos : Pos} {ktg : Nat}
theorem comp_core2 (use : Option (Value → Sem Unit)) {pins : List (Addr × Obj)} {s₂ : Shared} {σ : St} {H₂ : Hp} {it : Addr} {fp : List Addr} {tn : Nat → Heap → Prop} {J : It} {E : Value → Shared → Prop} {QQ : Value → Addr → Result → Shared → Prop} {Q : VK} {tg0 : Expr} (htg : tg0 = .Tuple [.Name x px, .Name x' px'] ktg ptg)
  (B : BlkScope2 X scope x x' Nf js) (hc : X.calm = true)
  (ht : ∀ C s₂ H₂ ex pins, PTs (blk X scope (x :: x' :: Nf) C s₂ H₂ ex pins) ifs tc) (he : ∀ C s₂ H₂ ex pins, PE (blk X scope (x :: x' :: Nf) C s₂ H₂ ex pins) elt te)
  (I : Inv X pins σ H₂ s₂) (T : Turn X.prog X.w X.K tg0 J fp it tn) (st : tn 0 s₂.heap) (hf : ∀ b ∈ fp, FpOk X pins H₂ b)
  (hW : ∀ D, H₂ D = none → ∃ W : Nat → Nat → Hp → Prop, (∃ m, W 0 m (upd H₂ D (.lst []))) ∧ ∀ i m H2, W i m H2 →
   (J.stop i H2 ∧ Q (.ref D) H2) ∨ (J.go i H2 ∧ ∀ v H3, J.yld i H2 v H3 → ∃ t y y', v = .ref t ∧ SqT X.K H3 t [y, y'] ∧ tc (blkSt2 js σ (some y) (some y')) H3 fun b H4 =>
    if b = true then te (blkSt2 js σ (some y) (some y')) H4 fun y H5 => ∃ ys, H5 D = some (.lst ys) ∧ ys.length < sizeLine ∧ ∃ m', m' < m ∧ W (i + 1) m' (upd H5 D (.lst (ys ++ [y])))
    else ∃ m', m' < m ∧ W (i + 1) m' H4))
  (hQ : ∀ s' H', (∀ h', Heap.SameBut (s₂.heap.objs.size + 1) s'.heap h' → Inv X pins σ H' { s' with heap := h' }) → (∃ m, s'.heap.Ns (s₂.heap.objs.size + 1) m) → H' (s₂.heap.objs.size + 1) = none → Q (.ref s₂.heap.objs.size) H' → QQ (.ref s₂.heap.objs.size) (s₂.heap.objs.size + 1) (.ok .next) s') :
  wpAny (model X.prog X.w) X.A (newList []) (fun acc s₃ => wpAny (model X.prog X.w) X.A (newFunctionEnv scope X.env.globals (clGo X.env scope.names []) [] X.env.qual none .none (some X.env)) (fun cenv s₄ =>
   codeAny (model X.prog X.w) X.A (.compStart (.ListComp elt [⟨.Tuple [.Name x px, .Name x' px'] ktg ptg, iter, ifs, 0⟩] scope pos) 0 (.ref it) acc { cenv with scope := relabel scope X.env }) (QQ acc cenv.locals) s₄) E s₃) E s₂ := by
 subst htg
 refine wpAny_newObj_type (wpAny_newFunctionEnv B.nocell (by intro y hy; simp at hy) (fun h₁ hns₁ hsb₁ => ?_) B.kind)
 dsimp only at hns₁ hsb₁ ⊢
 have hsz : (s₂.heap.push { cls := .type "list", dict := none, data := .seq ([] : List Value).toArray }).objs.size = s₂.heap.objs.size + 1 := Heap.size_push _ _
 rw [hsz] at hns₁ hsb₁ ⊢
 have ho : ∀ b ∈ fp, ∃ o, s₂.heap.get? b = some o ∧ ∀ v, o.data ≠ .cell v := T.obj 0 _ st
 have hD0 : H₂ s₂.heap.objs.size = none := I.hok.fresh (Nat.le_refl _)
 obtain ⟨W, ⟨m0, w0⟩, turn⟩ := hW _ hD0
 have old : ∀ b o, s₂.heap.get? b = some o → h₁.get? b = some o := fun b o e =>
  hsb₁.extBut b o (Nat.ne_of_lt (Nat.lt_succ_of_lt (Heap.lt_size e))) (Heap.get?_push_of_some _ (Heap.get?_push_of_some _ e))
 have st1 : tn 0 h₁ := T.keep _ _ _ st fun b _ o e => old b o e
 have I1 : ∀ tk, Inv (blk X scope (x :: x' :: Nf) (s₂.heap.objs.size + 1) s₂ H₂ fp pins) [] (blkSt2 js σ none none) (upd H₂ s₂.heap.objs.size (.lst [])) { s₂ with heap := h₁, toks := tk } := fun tk => B.inv I hf ho hns₁ hsb₁
 have fpD : ∀ b ∈ fp, b ≠ s₂.heap.objs.size := fun b hb => by
  obtain ⟨o, e, _⟩ := ho b hb
  exact Nat.ne_of_lt (Heap.lt_size e)
 have fp0 : ∀ b ∈ fp, upd H₂ s₂.heap.objs.size (.lst []) b = none := fun b hb => by rw [upd_ne (fpD b hb)]; exact (hf b hb).1
 -- what the block's context says of the iterator's objects
 have stat : ∀ {H' : Hp}, (∀ b ∈ fp, H' b = none) → ∀ b ∈ fp, FpOk (blk X scope (x :: x' :: Nf) (s₂.heap.objs.size + 1) s₂ H₂ fp pins) [] H' b := fun {H'} hn b hb => by
  obtain ⟨_, f1, f2, f3, f4, f5⟩ := hf b hb
  obtain ⟨o, e, _⟩ := ho b hb
  refine ⟨hn b hb, Nat.ne_of_lt (Nat.lt_succ_of_lt (Heap.lt_size e)), fun z => ?_, .inl hb, fun z c h => f4 z c (B.look I.ok h), fun p hp => ?_⟩
  ·rcases List.mem_cons.mp (I.stkSub b z) with q | q
   ·exact f1 q
   ·exact f2 q
  ·have hp' : p ∈ (X.pn ++ pins) ++ [] := hp
   rw [List.append_nil] at hp'
   exact f5 p hp'
 have loop : ∀ sL : Shared, sL = { s₂ with heap := h₁, toks := s₂.toks + ([] : List (Str × Value)).length } →
   codeAny (model X.prog X.w) X.A (.compLoop (.ListComp elt [⟨.Tuple [.Name x px, .Name x' px'] ktg ptg, iter, ifs, 0⟩] scope pos) 0 (.ref it) (.ref s₂.heap.objs.size) (compEnvC scope (clGo X.env scope.names []) (s₂.heap.objs.size + 1) X.env))
    (QQ (.ref s₂.heap.objs.size) (s₂.heap.objs.size + 1)) sL := by
  rintro sL rfl
  refine comp_turns rfl (fun n s' => ∃ i v v' H', Inv (blk X scope (x :: x' :: Nf) (s₂.heap.objs.size + 1) s₂ H₂ fp pins) [] (blkSt2 js σ v v') H' s' ∧ tn i s'.heap ∧ (∀ b ∈ fp, H' b = none) ∧ W i n H') ?_ m0 ⟨0, none, none, _, I1 _, st1, fp0, w0⟩
  rintro n s3 ⟨i, v3, v3', H3, I3, st3, fr3, w3⟩
  rcases turn i n H3 w3 with ⟨stop, qn⟩ | ⟨go, step⟩
  ·refine thn (T.done (blk X scope (x :: x' :: Nf) (s₂.heap.objs.size + 1) s₂ H₂ fp pins) rfl rfl rfl hc i [] s3 _ H3 _ I3 (stat fr3) st3 stop) fun r s4 ⟨hr, I4⟩ => ⟨fun _ => ?_, fun v e => by rw [hr] at e; cases e⟩
   subst hr
   obtain ⟨m4, hm4, _⟩ := I4.loc
   exact hQ s4 H3 (fun h' hs => B.back I hf (Nat.le_succ _) I4 hs) ⟨m4, hm4⟩ I4.free qn
  ·refine thn (T.item (blk X scope (x :: x' :: Nf) (s₂.heap.objs.size + 1) s₂ H₂ fp pins) rfl rfl rfl hc i [] s3 _ H3 _ I3 (stat fr3) st3 go) fun r s4 ⟨u, hr, h4⟩ => ⟨(fun e => by rw [hr] at e; cases e), fun v e => ?_⟩
   rw [hr] at e
   cases e
   refine wpAny_mono h4 (fun _ s5 ⟨y5, H5, I5, r5, yl5, st5, fr5⟩ => ?_) fun _ _ z => z
   have I5' := I5.pinned (stat fr5) (T.obj _ _ st5)
   have hnm : (blk X scope (x :: x' :: Nf) (s₂.heap.objs.size + 1) s₂ H₂ fp pins).env.scope.names.lookup x = some .local := lookup_relabel_local B.own
   have hnm' : (blk X scope (x :: x' :: Nf) (s₂.heap.objs.size + 1) s₂ H₂ fp pins).env.scope.names.lookup x' = some .local := lookup_relabel_local B.own'
   have hg : PG (blk X scope (x :: x' :: Nf) (s₂.heap.objs.size + 1) s₂ H₂ fp pins) (.Tuple [.Name x px, .Name x' px'] ktg ptg) (gTup X.K 2 (gCons (gName 0) (gCons (gName 1) gNil))) := pg_tup hc (pgs_cons (pg_name B.nd rfl (.inl hnm) (.inr hnm)) (pgs_cons (pg_name B.nd rfl (.inl hnm') (.inr hnm')) pgs_nil))
   obtain ⟨ta, y1, y2, ey, qt, q5⟩ := step y5 _ yl5
   refine wpAny_mono (hg _ s5 _ H5 y5 u (fun σ' H' => σ' = blkSt2 js σ (some y1) (some y2) ∧ H' = H5) I5' r5 ⟨ta, _, ey, qt, rfl, _, _, rfl, _, _, rfl, rfl, rfl, rfl⟩) (fun _ s6 ⟨σ6, H6, I6, q6⟩ => ?_) fun _ _ z => False.elim z
   obtain ⟨e6, e6'⟩ := q6
   subst e6 e6'
   refine wpAny_mono ((ht _ _ _ _ _).run I6 q5) (fun b s7 ⟨H7, I7, q7⟩ => ?_) fun _ _ z => False.elim z
   have again : ∀ {s8 : Shared} {σ8 : St} {H8 : Hp}, Inv (blk X scope (x :: x' :: Nf) (s₂.heap.objs.size + 1) s₂ H₂ fp pins) ([] ++ pinsAt fp s5.heap) σ8 H8 s8 → tn (i + 1) s8.heap ∧ ∀ b ∈ fp, H8 b = none := fun {s8 σ8 H8} I8 => by
    refine ⟨T.keep _ _ _ st5 fun b hb o e => (I8.pin (b, o) (List.mem_append_right _ (List.mem_append_right _ (mem_pinsAt hb e)))).1, fun b hb => ?_⟩
    obtain ⟨o, e, d⟩ := T.obj _ _ st5 b hb
    exact (I8.pin (b, o) (List.mem_append_right _ (List.mem_append_right _ (mem_pinsAt hb e)))).2.1
   refine ⟨fun eb => ?_, fun eb => ?_⟩
   ·subst eb
    simp only [Bool.false_eq_true, if_false] at q7
    obtain ⟨m', hm, w7⟩ := q7
    exact ⟨m', hm, i + 1, _, _, H7, I7.unpinned, (again I7).1, (again I7).2, w7⟩
   ·subst eb
    simp only [if_true] at q7
    refine wpAny_mono (he _ _ _ _ _ _ s7 _ H7 _ I7 q7) (fun yv s8 ⟨y8, H8, I8, r8, ys, hD8, hl8, m', hm, w8⟩ => ?_) fun _ _ z => False.elim z
    obtain ⟨a1, a2⟩ := again I8
    refine wpAny_mono (mt_append (X := blk X scope (x :: x' :: Nf) (s₂.heap.objs.size + 1) s₂ H₂ fp pins) _ s8 _ H8 (.ref s₂.heap.objs.size) [y8] (.ref s₂.heap.objs.size) [yv] (fun _ H' => H' = upd H8 s₂.heap.objs.size (.lst (ys ++ [y8]))) I8 rfl (.cons r8 .nil)
     ⟨_, _, _, rfl, rfl, hD8, hl8, rfl⟩) (fun _ s9 ⟨_, H9, I9, _, q9⟩ => ?_) fun _ _ z => False.elim z
    subst q9
    obtain ⟨b1, b2⟩ := again I9
    exact ⟨m', hm, i + 1, _, _, _, I9.unpinned, b1, b2, w8⟩
 exact codeAny_compStart_list (loop _ rfl) (T.self _ 0 _ _ _ st1 (loop _ rfl))
theorem pe_comp2 (B : BlkScope2 X scope x x' Nf js) (hc : X.calm = true) (hi : PI X (.Tuple [.Name x px, .Name x' px'] ktg ptg) iter wi)
  (ht : ∀ C s₂ H₂ ex pins, PTs (blk X scope (x :: x' :: Nf) C s₂ H₂ ex pins) ifs tc) (he : ∀ C s₂ H₂ ex pins, PE (blk X scope (x :: x' :: Nf) C s₂ H₂ ex pins) elt te)
  (hs : ∀ v, foldedSetIterable iter X.env v = pure v := by intro _; rfl) : PE X (.ListComp elt [⟨.Tuple [.Name x px, .Name x' px'] ktg ptg, iter, ifs, 0⟩] scope pos) (tComp2 X.K js wi tc te) := by
 intro pins s σ H Q I h
 rw [eval_ListComp]
 refine wpAny_comprehension_free (use := none) rfl hs (closure_of (B.hasCell I.ok)) B.kind B.loc (thn (hi pins s σ H _ I h) fun v s1 h1 => thn h1 fun itv s2 h2 => ?_)
 obtain ⟨it, fp, tn, J, H2, e, I2, T, st2, f2, hW⟩ := h2
 subst e
 refine comp_core2 (QQ := fun acc C => compPost (model X.prog X.w) X.A X.xe none (EP X pins σ Q) acc C) none rfl B hc ht he I2 T st2 f2 hW fun s' H' hI hn _ hq => ?_
 obtain ⟨m, hm⟩ := hn
 exact ⟨m, hm, fun h' hs' => ⟨.ref s2.heap.objs.size, H', hI h' hs', rfl, hq⟩⟩
theorem ps_setComp22 {i : Nat} {y : Str} {py spos : Pos} (B : BlkScope2 X scope x x' Nf js) (hc : X.calm = true) (hi : PI X (.Tuple [.Name x px, .Name x' px'] ktg ptg) iter wi)
  (ht : ∀ C s₂ H₂ ex pins, PTs (blk X scope (x :: x' :: Nf) C s₂ H₂ ex pins) ifs tc) (he : ∀ C s₂ H₂ ex pins, PE (blk X scope (x :: x' :: Nf) C s₂ H₂ ex pins) elt te)
  (hN : X.N.Nodup) (hy : X.N[i]? = some y) (hl : X.env.scope.names.lookup y = some .local)
  (hsw : swapsWith (.ListComp elt [⟨.Tuple [.Name x px, .Name x' px'] ktg ptg, iter, ifs, 0⟩] scope pos) (some (.Name y py)) spos.line X.env = pure true := by rfl)
  (hs : ∀ v, foldedSetIterable iter X.env v = pure v := by intro _; rfl) : PS X (.Assign [.Name y py] (.ListComp elt [⟨.Tuple [.Name x px, .Name x' px'] ktg ptg, iter, ifs, 0⟩] scope pos) spos) (tAsg (tComp2 X.K js wi tc te) (gName i)) := by
 intro pins s σ H D I h
 have asg := exec_Assign_Name_used _ _ _ _ hsw
 rw [asg]
 refine wpAny_bind (wpAny_standAt (wpAny_bind (show wpAny _ _ (do let _ ← comprehension (.ListComp elt [⟨.Tuple [.Name x px, .Name x' px'] ktg ptg, iter, ifs, 0⟩] scope pos) scope X.env _ (newList []) false (eval iter X.env) (some (assign (.Name y py) X.env))) _ _ s from ?_)))
 refine wpAny_bind (wpAny_mono (wpAny_comprehension_free (use := some (assign (.Name y py) X.env)) (Q := fun _ s' => SP X pins D .next s') rfl hs (closure_of (B.hasCell I.ok)) B.kind B.loc
  (thn (hi pins s σ H _ I h) fun v s1 h1 => thn h1 fun itv s2 h2 => ?_)) (fun _ s' hq => wpAny_pure (wpAny_pure hq)) fun _ _ e => e)
 obtain ⟨it, fp, tn, J, H2, e, I2, T, st2, f2, hW⟩ := h2
 subst e
 refine comp_core2 (Q := fun x H1 => gName i x σ H1 D.nx) (QQ := fun acc C => compPost (model X.prog X.w) X.A X.xe (some (assign (.Name y py) X.env)) (fun _ s' => SP X pins D .next s') acc C) none rfl B hc ht he I2 T st2 f2 hW fun s' H' hI hn hC hq => ?_
 obtain ⟨m, hm⟩ := hn
 have I3 : Inv X pins σ H' s' := hI s'.heap (Heap.SameBut.refl ..)
 have nC := I2.fpOk (b := s2.heap.objs.size + 1) (Nat.le_succ _) hC
 show wpAny _ _ (assign (.Name y py) X.env (.ref s2.heap.objs.size)) _ _ _
 refine wpAny_assign_Name (store_ok2 I3 hN hy (.inl hl) (v := .ref s2.heap.objs.size) rfl (fun s4 I4 ⟨b, hb, hbc⟩ => ?_) (.inr hl))
 have bne : s2.heap.objs.size + 1 ≠ b := by
  rcases hbc with z | z
  ·rw [z]; exact nC.2.1
  ·exact fun q => nC.2.2.2.2.1 y b z q.symm
 refine ⟨m, hm.sameBut hb bne, fun h' hs' => ⟨_, H', ?_, hq⟩⟩
 exact I4.turned (t' := s4.toks) (fun c o hc q => (hs'.2 c hc).trans q) nC.1 nC.2.1 nC.2.2.2.1 nC.2.2.2.2.1 nC.2.2.2.2.2
end
end L2
namespace L2
open PySem PyProof PyProof.Rows
def blkOk2 (fs : Scope) (scope : Scope) (N : List Str) (x x' : Str) (Nf : List Str) (js : List Nat) : Bool :=
 (scope.kind == .function) && scope.names.all (fun y => y.2 != .cell) && scope.names.all (fun y => y.2 != .local || scope.names.lookup y.1 == some .local) && (scope.names.lookup x == some .local) && (scope.names.lookup x' == some .local) &&
  decide (x :: x' :: Nf).Nodup && scope.names.all (fun y => y.2 != .free || fs.names.lookup y.1 == some .cell) && (Nf.length == js.length) &&
  (Nf.zip js).all (fun p => N[p.2]? == some p.1 && scope.names.lookup p.1 == some .free && fs.names.lookup p.1 == some .cell)
theorem blk_mk2 {X : Cx} {scope : Scope} {x x' : Str} (Nf : List Str) (js : List Nat) (h : blkOk2 X.env.scope scope X.N x x' Nf js = true := by kernel_rfl) : BlkScope2 X scope x x' Nf js := by
 unfold blkOk2 at h
 simp only [Bool.and_eq_true, beq_iff_eq, decide_eq_true_eq] at h
 obtain ⟨⟨⟨⟨⟨⟨⟨⟨h1, h2⟩, h3⟩, h4⟩, h4'⟩, h5⟩, h6⟩, h7⟩, h8⟩ := h
 refine ⟨h1, fun y hy => ?_, fun y hy hl => ?_, h4, h4', h5, fun y hy hf => ?_, h7, fun i z hz => ?_⟩
 ·have := List.all_eq_true.mp h2 y hy
  simpa using this
 ·have := List.all_eq_true.mp h3 y hy
  rw [hl] at this
  simpa using this
 ·have := List.all_eq_true.mp h6 y hy
  rw [hf] at this
  show X.env.scope.names.lookup y.1 = some .cell
  simpa using this
 ·have hi : i < js.length := by rw [← h7]; exact (List.getElem?_eq_some_iff.mp hz).1
  have hm : (z, js[i]) ∈ Nf.zip js := by
   have e : (Nf.zip js)[i]? = some (z, js[i]) := by
    rw [List.getElem?_zip_eq_some]
    exact ⟨hz, by simp [hi]⟩
   exact List.mem_of_getElem? e
  have q := List.all_eq_true.mp h8 _ hm
  rw [Bool.and_eq_true, Bool.and_eq_true, beq_iff_eq, beq_iff_eq, beq_iff_eq] at q
  exact ⟨js[i], by simp [hi], q.1.1, q.1.2, q.2⟩
section
variable {X : Cx}
end
end L2
namespace L2
open PySem PySem.Spec PyProof.Rows
section
variable {X : Cx} {pins : List (Addr × Obj)} {σ : St} {H : Hp} {s : Shared} {h' : Heap}
end
open PySem.SeqAt
open PySem.AutoSeq1 (wpAny_loadPart')
open PySem.MeetsSeq PySem.MeetsSeq2 PySem.MeetsSeq3
section
variable {s : Shared} {E : Value → Shared → Prop} {A : Around} {prog : Program} {w : World}
end
section
variable {X : Cx}
end
end L2
namespace L2
open PySem PyProof PyProof.Rows
section
variable {X : Cx} {pins : List (Addr × Obj)} {σ : St} {H : Hp} {s : Shared} {d : Addr} {u u' : HO}
theorem Inv.swap (I : Inv X pins σ H s) (hd : H d = some u) (nt : ∀ xs, u ≠ .tup xs) (nw : ∀ y, u ≠ .own y) (nb : ∀ ps, u ≠ .tbl ps) (nf : ∀ o z, X.H₀ d ≠ some (.frz o z)) (new : ObjOk X.prog X.w (upd H d u') s.heap d u') : Inv X pins σ (upd H d u') s := by
 have no : ∀ {b : Addr}, H b = none → upd H d u' b = none := fun {b} h => by rw [upd_ne (fun e => by rw [e, hd] at h; cases h)]; exact h
 have tp : ∀ b xs, H b = some (.tup xs) → upd H d u' b = some (.tup xs) := fun b xs h => by
  rw [upd_ne (fun e => by rw [e, hd] at h; injection h with h; exact nt xs h)]; exact h
 refine ⟨I.ok, I.os, I.bare, ⟨I.base.keep, I.base.slot, fun b o e n hx => no (I.base.free b o e n hx), I.base.there, fun b xs e => tp b xs (I.base.tups b xs e), fun b o z e => ?_, fun b ps e => ?_⟩, I.loc, I.cell, no I.free, fun x c e => no (I.freeC x c e), fun p hp => ?_, fun a o e => ?_, I.len⟩
 ·rw [upd_ne (fun e' => nf o z (by rw [← e']; exact e))]
  exact I.base.frzs b o z e
 ·obtain ⟨more, h⟩ := I.base.tbls b ps e
  refine ⟨more, ?_⟩
  rw [upd_ne (fun e' => by rw [e', hd] at h; injection h with h; exact nb _ h)]
  exact h
 ·obtain ⟨e, n, r⟩ := I.pin p hp
  exact ⟨e, no n, r⟩
 ·by_cases h : a = d
  ·subst h
   rw [upd_same] at e
   cases e
   exact new
  ·rw [upd_ne h] at e
   refine (I.hok a o e).stay (fun b v _ q => q) (fun b q => ?_) tp
   rw [upd_ne (fun e' => by rw [e', hd] at q; injection q with q; exact nw _ q)]
   exact q
theorem Inv.notFrz {v : HO} (I : Inv X pins σ H s) (hd : H d = some v) (n : ∀ o z, v ≠ .frz o z) : ∀ o z, X.H₀ d ≠ some (.frz o z) := fun o z e => by
 have := I.base.frzs d o z e
 rw [hd] at this
 injection this with this
 exact n o z this
theorem Inv.freeze {kvs : List (Key × V)} (I : Inv X pins σ H s) (hd : H d = some (.dK kvs)) : ∃ o, s.heap.get? d = some o ∧ Inv X pins σ (upd H d (.frz o (.dK kvs))) s := by
 have x := I.hok d _ hd
 obtain ⟨_, _, _, _, o, _, _, e, _⟩ := id x
 refine ⟨o, e, I.swap hd (fun _ z => nomatch z) (fun _ z => nomatch z) (fun _ z => nomatch z) (I.notFrz hd fun _ _ z => nomatch z) ⟨e, ?_⟩⟩
 refine x.stay (fun b v _ q => q) (fun b q => ?_) fun b xs q => ?_
 ·rw [upd_ne (ne_of q hd (fun z => nomatch z))]; exact q
 ·rw [upd_ne (ne_of q hd (fun z => nomatch z))]; exact q
theorem Inv.thaw {kvs : List (Key × V)} {o : Obj} (I : Inv X pins σ H s) (hd : H d = some (.frz o (.dK kvs))) (nf : ∀ o z, X.H₀ d ≠ some (.frz o z)) : Inv X pins σ (upd H d (.dK kvs)) s := by
 obtain ⟨_, x⟩ := I.hok d _ hd
 refine I.swap hd (fun _ z => nomatch z) (fun _ z => nomatch z) (fun _ z => nomatch z) nf ?_
 refine x.stay (fun b v _ q => q) (fun b q => ?_) fun b xs q => ?_
 ·rw [upd_ne (ne_of q hd (fun z => nomatch z))]; exact q
 ·rw [upd_ne (ne_of q hd (fun z => nomatch z))]; exact q
theorem frz_at {P : Program} {w : World} {h : Heap} {o : Obj} {es : Array DictEntry} {ep : Nat} {kvs : List (Key × V)} (ok : HOk P w H h) (hd : H d = some (.frz o (.dK kvs))) (ed : o.data = .dict es ep) : (d == sysModules) = false ∧ ∃ vs, KV kvs vs ∧ h.DictAt (mixKind P w) d vs ep := by
 obtain ⟨e, _, hS, vs, rk, o', es', ep', e', c, ed', r⟩ := ok d _ hd
 rw [e] at e'
 cases e'
 rw [ed] at ed'
 cases ed'
 exact ⟨hS, vs, rk, o, es, e, c, ed, r⟩
end
theorem KV.get {kvs : List (Key × V)} {vs : List (Key × Value)} (r : KV kvs vs) : ∀ {i : Nat} {k : Key} {x : V}, kvs[i]? = some (k, x) → ∃ v, vs[i]? = some (k, v) ∧ RelV x v := by
 induction r with
 | nil => intro i k x h; cases h
 | @cons a b l m h t ih =>
  intro i k x e
  cases i with
  | zero =>
   have e' : some a = some (k, x) := e
   cases e'
   obtain ⟨h1, h2⟩ := h
   obtain ⟨b1, b2⟩ := b
   cases h1
   exact ⟨b2, rfl, h2⟩
  | succ i => exact ih (i := i) e
theorem rel_key {k : Key} {u : Value} (h : keyIs k u = true) : RelV (kV k) u := by
 rcases keyIs_shape h with ⟨i, t, rfl, rfl⟩ | ⟨x, t, rfl, rfl⟩
 ·exact ⟨t, rfl⟩
 ·exact ⟨t, rfl⟩
def Iti (d : Addr) (o : Obj) (kvs : List (Key × V)) : It :=
 ⟨fun i H => H d = some (.frz o (.dK kvs)) ∧ i < kvs.length, fun i H v H' => ∃ t k x, v = .ref t ∧ H t = none ∧ kvs[i]? = some (k, x) ∧ H' = upd H t (.tup [kV k, x]), fun i H => H d = some (.frz o (.dK kvs)) ∧ kvs.length ≤ i⟩
def Itv (d : Addr) (o : Obj) (kvs : List (Key × V)) : It :=
 ⟨fun i H => H d = some (.frz o (.dK kvs)) ∧ i < kvs.length, fun i H v H' => H' = H ∧ ∃ k, kvs[i]? = some (k, v), fun i H => H d = some (.frz o (.dK kvs)) ∧ kvs.length ≤ i⟩
theorem turn_items {P : Program} {w : World} {K : PySem.W.Frag} {elts : List Expr} {kk : Nat} {tpos : Pos} {d it : Addr} {o : Obj} {es : Array DictEntry} {ep : Nat} {kvs : List (Key × V)} (ed : o.data = .dict es ep) :
  Turn P w K (.Tuple elts kk tpos) (Iti d o kvs) [it] it (fun i h => ∃ ok ov, IsItemIter h it d i kvs.length ep ok ov) where
 mem := by simp
 obj := fun i h st b hb => by
  have e : b = it := by simpa using hb
  subst e
  obtain ⟨ok, ov, e⟩ := st
  exact ⟨_, e, fun v z => by have z' : Data.fields _ = Data.cell v := z; cases z'⟩
 keep := fun i h h' st k => by
  obtain ⟨ok, ov, e⟩ := st
  exact ⟨ok, ov, k it (by simp) _ e⟩
 item := by
  intro X hP hw hK hc i pins s σ H E I hf st hg
  subst hP hw hK
  obtain ⟨ok, ov, hit⟩ := st
  obtain ⟨hd, hi⟩ := hg
  obtain ⟨hS, vs, rk, hm⟩ := frz_at I.hok hd ed
  have lv : kvs.length = vs.length := Paired.length rk
  rw [lv] at hit
  obtain ⟨k, x, ex⟩ : ∃ k x, kvs[i]? = some (k, x) := ⟨kvs[i].1, kvs[i].2, List.getElem?_eq_getElem hi⟩
  obtain ⟨v, ev, rv⟩ := KV.get rk ex
  refine wpAny_pyNext_items_item hit hm ev fun key h' hk ho hT sz kp => ⟨_, rfl, ?_⟩
  refine wpAny_letOwnedTupleGo_items (s := { s with heap := h' }) ho fun h2 hit2 sb => ?_
  replace sb : Heap.SameBut it h' h2 := sb
  have nT : s.heap.objs.size ≠ it := Nat.ne_of_gt (Heap.lt_size hit)
  have hT2 := sb.extBut _ _ nT hT
  have J : Inv X pins σ (upd H s.heap.objs.size (.tup [kV k, x])) { s with heap := h2, toks := s.toks } := by
   refine I.turnT (xs := [kV k, x]) (us := [key, v]) [it] hf (fun c o' hc' e => ?_) (Nat.le_refl _) (.cons (rel_key hk) (.cons rv .nil)) (by show 2 ≤ sizeLine; decide) hT2
   have nc : c ≠ it := fun z => hc' (by simp [z])
   exact sb.extBut _ _ nc (kp c o' nc e)
  refine ⟨.ref s.heap.objs.size, _, J, rfl, ⟨_, k, x, rfl, I.hok.fresh (Nat.le_refl _), ex, rfl⟩, ⟨_, _, by rw [lv]; exact hit2⟩, fun b hb => ?_⟩
  have eb : b = it := by simpa using hb
  subst eb
  rw [upd_ne (Ne.symm nT)]
  exact (hf b hb).1
 done := by
  intro X hP hw hK hc i pins s σ H E I hf st hg
  subst hP hw hK
  obtain ⟨ok, ov, hit⟩ := st
  obtain ⟨hd, hi⟩ := hg
  obtain ⟨hS, vs, rk, hm⟩ := frz_at I.hok hd ed
  have lv : kvs.length = vs.length := Paired.length rk
  rw [lv] at hit hi
  obtain ⟨f0, f1, f2, f3, f4, f5⟩ := hf it (by simp)
  exact wpAny_pyNext_items_end (I.ok.hd hc) hit hm (List.getElem?_eq_none hi) fun h' eb => ⟨rfl, I.turned (t' := s.toks) (fun b o hb e => eb b o hb e) f0 f1 f3 f4 f5⟩
 self := fun A i s Q E st h => by
  obtain ⟨ok, ov, e⟩ := st
  exact PySem.W.kcp_self e h
theorem turn_values {P : Program} {w : World} {K : PySem.W.Frag} {tg : Expr} {d it : Addr} {o : Obj} {es : Array DictEntry} {ep : Nat} {kvs : List (Key × V)} (ed : o.data = .dict es ep) :
  Turn P w K tg (Itv d o kvs) [it] it (fun i h => h.IsValIter it d i kvs.length ep) where
 mem := by simp
 obj := fun i h st b hb => by
  have e : b = it := by simpa using hb
  subst e
  obtain ⟨o, e, c, dd⟩ := st
  exact ⟨o, e, fun v z => by rw [dd] at z; cases z⟩
 keep := fun i h h' st k => st.at fun o e => k it (by simp) o e
 item := by
  intro X hP hw hK hc i pins s σ H E I hf st hg
  subst hP hw hK
  obtain ⟨hd, hi⟩ := hg
  obtain ⟨hS, vs, rk, hm⟩ := frz_at I.hok hd ed
  have lv : kvs.length = vs.length := Paired.length rk
  rw [lv] at st
  obtain ⟨k, x, ex⟩ : ∃ k x, kvs[i]? = some (k, x) := ⟨kvs[i].1, kvs[i].2, List.getElem?_eq_getElem hi⟩
  obtain ⟨v, ev, rv⟩ := KV.get rk ex
  obtain ⟨f0, f1, f2, f3, f4, f5⟩ := hf it (by simp)
  refine wpAny_pyNext_values_item st hm ev fun h' st' sb => ?_
  have I1 : Inv X pins σ H { s with heap := h' } := I.turned (t' := s.toks) (fun b o hb e => (sb.2 b hb).trans e) f0 f1 f3 f4 f5
  obtain ⟨o', e, c, dd⟩ := id st'
  exact ⟨v, rfl, go_of (s := { s with heap := h' }) e c dd (by decide) ⟨x, H, I1, rv, ⟨rfl, k, ex⟩, by rw [lv]; exact st', fun b hb => (hf b hb).1⟩⟩
 done := by
  intro X hP hw hK hc i pins s σ H E I hf st hg
  subst hP hw hK
  obtain ⟨hd, hi⟩ := hg
  obtain ⟨hS, vs, rk, hm⟩ := frz_at I.hok hd ed
  have lv : kvs.length = vs.length := Paired.length rk
  rw [lv] at st hi
  obtain ⟨f0, f1, f2, f3, f4, f5⟩ := hf it (by simp)
  exact wpAny_pyNext_values_end (I.ok.hd hc) st hm (List.getElem?_eq_none hi) fun h' eb => ⟨rfl, I.turned (t' := s.toks) (fun b o hb e => eb b o hb e) f0 f1 f3 f4 f5⟩
 self := fun _ _ _ _ _ st h => wpAny_pyIter_valiter st h
section
variable {X : Cx} {o : Expr} {to : TE} {apos cpos : Pos}
def iItems (to : TE) : TI := fun σ H R => to σ H fun x H1 => ∃ d kvs, x = .ref d ∧ H1 d = some (.dK kvs) ∧ ∀ ob, R (Iti d ob kvs) (upd H1 d (.frz ob (.dK kvs)))
def iVals (to : TE) : TI := fun σ H R => to σ H fun x H1 => ∃ d kvs, x = .ref d ∧ H1 d = some (.dK kvs) ∧ ∀ ob, R (Itv d ob kvs) (upd H1 d (.frz ob (.dK kvs)))
theorem pi_items {elts : List Expr} {kk : Nat} {tpos : Pos} (ho : PE X o to) (hbase : attributeBase o "items" X.env (eval o X.env) = eval o X.env := by rfl) (hline : (apos.endLine == cpos.line) = true := by rfl) :
  PI X (.Tuple elts kk tpos) (.Call (.Attribute o "items" apos) [] [] cpos) (iItems to) := by
 intro pins s σ H R I h
 refine wpAny_Call_method0_late hbase hline (thn (ho pins s σ H _ I h) fun v s1 ⟨x, H1, I1, r1, q1⟩ => ?_)
 obtain ⟨d, kvs, rfl, hd, q⟩ := q1
 cases r1
 obtain ⟨h1, h2⟩ := tyV_is (T := "dict") (x := .ref d) I1 rfl (.inr (.inr (.inl ⟨rfl, .inl ⟨kvs, hd⟩⟩)))
 refine ⟨"dict", "dict.items", PySem.F.plainAttrs_dict, PySem.F.slot_dict_items, PySem.F.type_dict_items, h1, h2, Calls.callWith_builtin rfl (PySem.evalArgs_none ?_)⟩
 obtain ⟨ob, eo, I2⟩ := I1.freeze hd
 obtain ⟨hz, hS, vs, rk, m⟩ := dk_of I1.hok hd
 have hT := m.typeIs
 refine call_meetsIn PySem.F.slot_dict_items hT PySem.F.entry_dict_items (PySem.F.args_dict_items_1 _) (meets_dict_items (mixKind X.prog X.w) d hS) ⟨⟨vs, m⟩, ?_⟩
 obtain ⟨ep, hm⟩ := m.dictAt
 obtain ⟨o', es, eo', c, ed, r⟩ := id hm
 rw [eo] at eo'
 cases eo'
 refine wpAny_pyIter_items (v := s1.heap.objs.size) (d := d) (kvs := vs) (ep := ep) ⟨_, Heap.get?_push_size _ rfl, rfl, rfl⟩ (hm.push _) ?_
 have lv : kvs.length = vs.length := Paired.length rk
 have k2 : ∀ b u, s1.heap.get? b = some u → ((s1.heap.push { cls := .type "dict_items", data := .fields #[.ref d] }).push { cls := .type "dict_itemiterator", data := .fields #[.none, .bool false, .ref d, .int 0 0, .int vs.length 0, .int ep 0, .none, .none] }).get? b = some u := fun b u e => Heap.get?_push_of_some _ (Heap.get?_push_of_some _ e)
 refine ⟨(s1.heap.push { cls := .type "dict_items", data := .fields #[.ref d] }).objs.size, [(s1.heap.push { cls := .type "dict_items", data := .fields #[.ref d] }).objs.size], _, _, _, rfl, I2.kept (t' := s1.toks) k2, turn_items ed, ⟨.none, .none, ?_⟩, fun b hb => ?_, q ob⟩
 ·rw [lv]
  exact Heap.get?_push_size _ rfl
 ·have e : b = (s1.heap.push { cls := .type "dict_items", data := .fields #[.ref d] }).objs.size := by simpa using hb
  have le : s1.heap.objs.size ≤ b := by rw [e, Heap.size_push]; exact Nat.le_succ _
  exact I2.fpOk le (I2.hok.fresh le)
theorem pi_vals {tg : Expr} (ho : PE X o to) (hbase : attributeBase o "values" X.env (eval o X.env) = eval o X.env := by rfl) (hline : (apos.endLine == cpos.line) = true := by rfl) :
  PI X tg (.Call (.Attribute o "values" apos) [] [] cpos) (iVals to) := by
 intro pins s σ H R I h
 refine wpAny_Call_method0_late hbase hline (thn (ho pins s σ H _ I h) fun v s1 ⟨x, H1, I1, r1, q1⟩ => ?_)
 obtain ⟨d, kvs, rfl, hd, q⟩ := q1
 cases r1
 obtain ⟨h1, h2⟩ := tyV_is (T := "dict") (x := .ref d) I1 rfl (.inr (.inr (.inl ⟨rfl, .inl ⟨kvs, hd⟩⟩)))
 refine ⟨"dict", "dict.values", PySem.F.plainAttrs_dict, PySem.F.slot_dict_values, PySem.F.type_dict_values, h1, h2, Calls.callWith_builtin rfl (PySem.evalArgs_none ?_)⟩
 obtain ⟨ob, eo, I2⟩ := I1.freeze hd
 obtain ⟨hz, hS, vs, rk, m⟩ := dk_of I1.hok hd
 have hT := m.typeIs
 refine call_meetsIn PySem.F.slot_dict_values hT PySem.F.entry_dict_values (PySem.F.args_dict_values_1 _) (meets_dict_values (mixKind X.prog X.w) d hS) ⟨⟨vs, m⟩, ?_⟩
 obtain ⟨ep, hm⟩ := m.dictAt
 obtain ⟨o', es, eo', c, ed, r⟩ := id hm
 rw [eo] at eo'
 cases eo'
 refine wpAny_pyIter_values (v := s1.heap.objs.size) (d := d) (kvs := vs) (ep := ep) ⟨_, Heap.get?_push_size _ rfl, rfl, rfl⟩ (hm.push _) ?_
 have lv : kvs.length = vs.length := Paired.length rk
 have k2 : ∀ b u, s1.heap.get? b = some u → ((s1.heap.push { cls := .type "dict_values", data := .fields #[.ref d] }).push { cls := .type "dict_valueiterator", data := .fields #[.ref d, .int 0 0, .int vs.length 0, .int ep 0] }).get? b = some u := fun b u e => Heap.get?_push_of_some _ (Heap.get?_push_of_some _ e)
 refine ⟨(s1.heap.push { cls := .type "dict_values", data := .fields #[.ref d] }).objs.size, [(s1.heap.push { cls := .type "dict_values", data := .fields #[.ref d] }).objs.size], _, _, _, rfl, I2.kept (t' := s1.toks) k2, turn_values ed, ?_, fun b hb => ?_, q ob⟩
 ·rw [lv]
  exact ⟨_, Heap.get?_push_size _ rfl, rfl, rfl⟩
 ·have e : b = (s1.heap.push { cls := .type "dict_values", data := .fields #[.ref d] }).objs.size := by simpa using hb
  have le : s1.heap.objs.size ≤ b := by rw [e, Heap.size_push]; exact Nat.le_succ _
  exact I2.fpOk le (I2.hok.fresh le)
def tThaw (t : TE) : TE := fun σ H Q => ∃ d v, H d = some v ∧ (∀ o z, v ≠ .frz o z) ∧ t σ H fun x H1 => ∃ o kvs, H1 d = some (.frz o (.dK kvs)) ∧ Q x (upd H1 d (.dK kvs))
theorem pe_thaw {e : Expr} {t : TE} (he : PE X e t) : PE X e (tThaw t) := by
 intro pins s σ H Q I h
 obtain ⟨d, v, hd, nf, h⟩ := h
 have n0 := I.notFrz hd nf
 refine thn (he pins s σ H _ I h) fun u s1 ⟨x, H1, I1, r1, o, kvs, h1, q⟩ => ⟨x, _, I1.thaw h1 n0, r1, q⟩
end
section
variable {X : Cx} {pins : List (Addr × Obj)} {σ : St} {H : Hp} {s : Shared}
theorem Inv.track {a : Addr} {o : HO} (I : Inv X pins σ H s) (f : FpOk X pins H a) (h0 : X.s₀.heap.objs.size ≤ a) (new : ObjOk X.prog X.w (upd H a o) s.heap a o) : Inv X pins σ (upd H a o) s := by
 obtain ⟨f0, f1, _, _, f4, f5⟩ := f
 have nb : ∀ {b : Addr} {u : HO}, H b = some u → upd H a o b = some u := fun {b u} h => by rw [upd_ne (ne_of_none h f0)]; exact h
 refine ⟨I.ok, I.os, I.bare, ⟨I.base.keep, I.base.slot, fun b ob e n hx => ?_, I.base.there, fun b xs e => nb (I.base.tups b xs e), fun b ob z e => nb (I.base.frzs b ob z e), fun b ps e => ?_⟩, I.loc, I.cell, ?_, fun x c e => ?_, fun p hp => ?_, fun b u e => ?_, I.len⟩
 ·rw [upd_ne (Nat.ne_of_lt (Nat.lt_of_lt_of_le (Heap.lt_size e) h0))]
  exact I.base.free b ob e n hx
 ·obtain ⟨more, h⟩ := I.base.tbls b ps e
  exact ⟨more, nb h⟩
 ·rw [upd_ne (Ne.symm f1)]; exact I.free
 ·rw [upd_ne (f4 x c e)]; exact I.freeC x c e
 ·obtain ⟨e, n, r⟩ := I.pin p hp
  exact ⟨e, by rw [upd_ne (f5 p hp)]; exact n, r⟩
 ·by_cases h : b = a
  ·subst h
   rw [upd_same] at e
   cases e
   exact new
  ·rw [upd_ne h] at e
   exact (I.hok b u e).stay (fun c v _ q => q) (fun c q => nb q) fun c xs q => nb q
theorem Inv.tracks : ∀ (as : List Addr) (qs : List (List V)) {H : Hp}, Inv X pins σ H s → as.length = qs.length → as.Pairwise (· < ·) → (∀ a ∈ as, FpOk X pins H a ∧ X.s₀.heap.objs.size ≤ a) →
  (∀ (j : Nat) (a : Addr) (q : List V), as[j]? = some a → qs[j]? = some q → q.length ≤ sizeLine ∧ ∃ us : List Value, Vals q us ∧ s.heap.get? a = some { cls := .type "tuple", data := .seq us.toArray }) →
  ∃ H', Inv X pins σ H' s ∧ (∀ b o, H b = some o → H' b = some o) ∧ ∀ (j : Nat) (a : Addr) (q : List V), as[j]? = some a → qs[j]? = some q → H' a = some (.tup q)
 | [], qs, H, I, _, _, _, _ => ⟨H, I, fun _ _ z => z, fun j a q e => nomatch e⟩
 | a :: as, [], H, I, l, _, _, _ => nomatch l
 | a :: as, q :: qs, H, I, l, pw, hf, ho => by
  obtain ⟨pa, pw'⟩ := List.pairwise_cons.mp pw
  obtain ⟨hz, us, rv, e⟩ := ho 0 a q rfl rfl
  obtain ⟨fa, h0⟩ := hf a (List.mem_cons_self ..)
  have I1 : Inv X pins σ (upd H a (.tup q)) s := I.track fa h0 ⟨hz, us, rv, ⟨_, e, rfl, _, rfl⟩, fun o z => by rw [e] at z; cases z; rfl⟩
  have na : ∀ b o, H b = some o → upd H a (.tup q) b = some o := fun b o z => by rw [upd_ne (ne_of_none z fa.1)]; exact z
  obtain ⟨H', I', k', t'⟩ := Inv.tracks as qs I1 (Nat.succ.inj l) pw' (fun b hb => by
   obtain ⟨⟨g0, g⟩, gl⟩ := hf b (List.mem_cons_of_mem _ hb)
   have lt := pa b hb
   exact ⟨⟨by rw [upd_ne (Nat.ne_of_gt lt)]; exact g0, g⟩, gl⟩) fun j b p e1 e2 => ho (j + 1) b p e1 e2
  refine ⟨H', I', fun b o z => k' b o (na b o z), fun j b p e1 e2 => ?_⟩
  cases j with
  | zero =>
   have e1' : some a = some b := e1
   have e2' : some q = some p := e2
   cases e1'
   cases e2'
   exact k' _ _ upd_same
  | succ j => exact t' j b p e1 e2
end
def ViewI (v d : Addr) : HO := .ext fun h => h.IsItemsView v d
section
variable {X : Cx} {o : Expr} {to : TE} {apos cpos : Pos}
def tItems (to : TE) : TE := fun σ H Q => to σ H fun x H1 => ∃ d kvs, x = .ref d ∧ H1 d = some (.dK kvs) ∧ ∀ v, H1 v = none → Q (.ref v) (upd H1 v (ViewI v d))
theorem pe_items (ho : PE X o to) (hbase : attributeBase o "items" X.env (eval o X.env) = eval o X.env := by rfl) (hline : (apos.endLine == cpos.line) = true := by rfl) :
  PE X (.Call (.Attribute o "items" apos) [] [] cpos) (tItems to) := by
 intro pins s σ H Q I h
 refine wpAny_Call_method0_late hbase hline (thn (ho pins s σ H _ I h) fun v s1 ⟨x, H1, I1, r1, q1⟩ => ?_)
 obtain ⟨d, kvs, rfl, hd, q⟩ := q1
 cases r1
 obtain ⟨h1, h2⟩ := tyV_is (T := "dict") (x := .ref d) I1 rfl (.inr (.inr (.inl ⟨rfl, .inl ⟨kvs, hd⟩⟩)))
 refine ⟨"dict", "dict.items", PySem.F.plainAttrs_dict, PySem.F.slot_dict_items, PySem.F.type_dict_items, h1, h2, Calls.callWith_builtin rfl (PySem.evalArgs_none ?_)⟩
 obtain ⟨hz, hS, vs, rk, m⟩ := dk_of I1.hok hd
 refine call_meetsIn PySem.F.slot_dict_items m.typeIs PySem.F.entry_dict_items (PySem.F.args_dict_items_1 _) (meets_dict_items (mixKind X.prog X.w) d hS) ⟨⟨vs, m⟩, ?_⟩
 have g : (s1.heap.push { cls := .type "dict_items", data := .fields #[.ref d] }).get? s1.heap.objs.size = some { cls := .type "dict_items", data := .fields #[.ref d] } := Heap.get?_push_size _ rfl
 refine ⟨.ref s1.heap.objs.size, _, I1.laid (a := s1.heap.objs.size) (o := ViewI s1.heap.objs.size d) (t' := s1.toks) (fun b u e => Heap.get?_push_of_some _ e) (Nat.le_refl _) ?_, rfl, q _ (I1.hok.fresh (Nat.le_refl _))⟩
 exact ⟨⟨_, g, rfl, rfl⟩, ⟨_, g⟩, fun a b ⟨ob, e, c⟩ k => ⟨ob, k ob e, c⟩⟩
theorem vals_refs : ∀ (as : List Addr), Vals (as.map V.ref) (as.map Value.ref)
 | [] => .nil
 | _ :: as => .cons rfl (vals_refs as)
theorem call_listI (hh : X.A.handled = none) : CallR X (.type "list") (fun xs H Q => ∃ v d kvs, xs = [.ref v] ∧ H v = some (ViewI v d) ∧ Rd H d (.dK kvs) ∧
  ∀ l (ts : List Addr) H', H l = none → (∀ b o, H b = some o → H' b = some o) → H' l = some (.lst (ts.map V.ref)) → ts.length = kvs.length → (∀ (j : Nat) t k x, ts[j]? = some t → kvs[j]? = some (k, x) → H' t = some (.tup [kV k, x]) ∧ H t = none) → Q (.ref l) H') := by
 intro pins s σ H xs us Q I r h
 obtain ⟨v, d, kvs, rfl, hv, hd, q⟩ := h
 obtain ⟨u, rfl, ru⟩ := vals1 r
 cases ru
 obtain ⟨iv, _, _⟩ := I.hok v _ hv
 obtain ⟨hz, hS, vs, rk, m⟩ := dk_rd I.hok hd
 obtain ⟨ep, hm⟩ := m.dictAt
 have lv : kvs.length = vs.length := Paired.length rk
 refine PySem.W.kdx_call hh iv hm (by rw [← lv]; exact hz) fun h' tk acc c as kp gl la G ea => ?_
 have I1 : Inv X pins σ H { s with heap := h', toks := tk } := I.kept kp
 have lo : X.s₀.heap.objs.size ≤ s.heap.objs.size := I.sz
 have f0 : FpOk X pins H s.heap.objs.size := I.fpOk (Nat.le_refl _) (I.hok.fresh (Nat.le_refl _))
 have I2 : Inv X pins σ (upd H s.heap.objs.size (.lst (as.map V.ref))) { s with heap := h', toks := tk } := by
  refine I1.track f0 lo ⟨by rw [List.length_map, la, ← lv]; exact hz, acc.toList, c, ?_, gl⟩
  rw [ea]
  exact vals_refs as
 have fr : ∀ a ∈ as, H a = none := fun a ha => I.hok.fresh (Nat.le_of_lt (G.above a ha))
 obtain ⟨H', I', k', t'⟩ := I2.tracks as (kvs.map fun p => [kV p.1, p.2]) (by rw [List.length_map, la, lv]) G.rise (fun a ha => by
  have lt := G.above a ha
  obtain ⟨g0, g⟩ := I.fpOk (Nat.le_of_lt lt) (fr a ha)
  exact ⟨⟨by rw [upd_ne (Nat.ne_of_gt lt)]; exact g0, g⟩, Nat.le_trans lo (Nat.le_of_lt lt)⟩) fun j a p e1 e2 => by
   obtain ⟨key, k, x, e3, hk, e4⟩ := G.pairs j a e1
   rw [List.getElem?_map] at e2
   obtain ⟨⟨k', x'⟩, e5, rfl⟩ := Option.map_eq_some_iff.mp e2
   obtain ⟨v', e6, rv⟩ := KV.get rk e5
   rw [e3] at e6
   cases e6
   exact ⟨by show 2 ≤ sizeLine; decide, [key, x], .cons (rel_key hk) (.cons rv .nil), e4⟩
 refine ⟨.ref s.heap.objs.size, H', I', rfl, q _ as H' (I.hok.fresh (Nat.le_refl _)) (fun b o z => k' b o (by rw [upd_ne (ne_of_none z f0.1)]; exact z)) (k' _ _ upd_same) (by rw [la, lv]) fun j t k x e1 e2 => ⟨t' j t _ e1 (by rw [List.getElem?_map, e2]; rfl), fr t (List.mem_of_getElem? e1)⟩⟩
theorem call_minD (hh : X.A.handled = none) : CallR X (.builtin "min") (fun xs H Q => ∃ (a : Addr) (kvs : List (Key × V)) (ns : List Int), xs = [.ref a] ∧ Rd H a (.dK kvs) ∧ kvs.map (·.1) = ns.map Sum.inl ∧ ns ≠ [] ∧
  ∀ m : Int, m ∈ ns → (∀ n ∈ ns, m ≤ n) → Q (.int m) H) := by
 intro pins s σ H xs us Q I r h
 obtain ⟨a, kvs, ns, rfl, hk, ek, hne, q⟩ := h
 obtain ⟨u, rfl, ru⟩ := vals1 r
 cases ru
 obtain ⟨hz, hS, vs, rk, m⟩ := dk_rd I.hok hk
 obtain ⟨ep, hm⟩ := m.dictAt
 have e1 : vs.map (·.1) = kvs.map (·.1) := by
  clear hz m hm q hk ek
  induction rk with
  | nil => rfl
  | cons a b ih => rw [List.map_cons, List.map_cons, ih, a.1]
 have lv : vs.length = ns.length := by
  have := congrArg List.length (e1.trans ek)
  simpa using this
 have lp : 0 < ns.length := List.length_pos_iff.mpr hne
 refine call_min_walk (wpAny_pyIter_dict hS hm ?_)
 have alt := hm.lt_size
 have hh1 : X.A.in1.handled = none := hh
 refine ⟨s.heap.objs.size, _, _, vs.length, _, _, fun i j => decide (ns.getD i 0 < ns.getD j 0), rfl, Walks.dictKeys (knd := mixKind X.prog X.w) hh1 s.heap.objs.size a (Nat.ne_of_lt alt) vs ep, ⟨⟨_, Heap.get?_push_size _ rfl, rfl, rfl⟩, hm.push _⟩, fun b hb => ?_, by omega, ?_, fun v h' tk hP kp => ?_⟩
 ·rw [Heap.size_push]
  rcases List.mem_cons.mp hb with e | hb
  ·rw [e]; exact Nat.lt_succ_self _
  ·rw [List.mem_singleton.mp hb]; exact Nat.lt_succ_of_lt alt
 ·refine CmpOf.ints_lt (fun i => ns.getD i 0) fun i v hP => ?_
  obtain ⟨k, x, e2, e3⟩ := hP
  have e4 : (vs.map (·.1))[i]? = some k := by rw [List.getElem?_map, e2]; rfl
  rw [e1, ek, List.getElem?_map] at e4
  obtain ⟨n, en, rfl⟩ := Option.map_eq_some_iff.mp e4
  rw [List.getD_eq_getElem?_getD, en]
  rw [mixKind_is] at e3
  exact Value.isInt_shape (show Value.isInt n v = true from e3)
 ·obtain ⟨b1, b2⟩ := argBest_lt (fun i => ns.getD i 0) (vs.length - 1)
  obtain ⟨k, x, e2, e3⟩ := hP
  have e4 : (vs.map (·.1))[argBest (fun i j => decide (ns.getD i 0 < ns.getD j 0)) (vs.length - 1)]? = some k := by rw [List.getElem?_map, e2]; rfl
  rw [e1, ek, List.getElem?_map] at e4
  obtain ⟨n, en, rfl⟩ := Option.map_eq_some_iff.mp e4
  rw [mixKind_is] at e3
  obtain ⟨t, rfl⟩ := Value.isInt_shape (show Value.isInt n v = true from e3)
  have I1 : Inv X pins σ H { s with heap := h', toks := tk } := I.kept fun b o z => kp b o (fun hb => by
   have lt := Heap.lt_size z
   rw [List.mem_singleton.mp hb] at lt
   exact Nat.lt_irrefl _ lt) (Heap.get?_push_of_some _ z)
  refine ⟨.int n, H, I1, ⟨t, rfl⟩, q n (List.mem_of_getElem? en) fun n' hn' => ?_⟩
  obtain ⟨j, hj, rfl⟩ := List.getElem_of_mem hn'
  have := b2 j (by omega)
  rw [List.getD_eq_getElem?_getD, List.getD_eq_getElem?_getD, en, List.getElem?_eq_getElem hj] at this
  exact this
theorem call_sortL : CallR X (.builtin "sorted") (fun xs H Q => ∃ (a : Addr) (ns : List Int), xs = [.ref a] ∧ SqL X.K H a (ns.map V.int) ∧ ns.length < 64 ∧
  ∀ ns' : List Int, ns'.Perm ns → ns'.Pairwise (· ≤ ·) → ∀ l, H l = none → Q (.ref l) (upd H l (.lst (ns'.map V.int)))) := by
 intro pins s σ H xs us Q I r h
 obtain ⟨a, ns, rfl, hq, hl, q⟩ := h
 obtain ⟨u, rfl, ru⟩ := vals1 r
 cases ru
 obtain ⟨its, rv, pl, hz⟩ := I.list hq
 have ll := rv.length
 rw [List.length_map] at ll
 have hI : IntsAre its ns := ints_by ll.symm fun i u n a b => by
  obtain ⟨u', e, r'⟩ := rv.get (i := i) (x := .int n) (by rw [List.getElem?_map, b]; rfl)
  rw [a] at e
  cases e
  exact r'
 refine sorted_ints pl.isList hI (by omega) fun out ns' p1 p2 p3 => ?_
 obtain ⟨e, ge⟩ := sortedAll_at s.heap its out
 have rel : Vals (ns'.map V.int) out.toList := vals_ints p1
 refine ⟨.ref (s.heap.objs.size + 1), _, I.laid (a := s.heap.objs.size + 1) (o := .lst (ns'.map V.int)) (t' := s.toks) (fun b o z => sortedAll_old z) (Nat.le_succ _) ⟨?_, out.toList, e, rel, by simpa using ge⟩, rfl, q ns' p2 p3 _ (I.hok.fresh (Nat.le_succ _))⟩
 have := p2.length_eq
 rw [List.length_map, show sizeLine = 16777216 by decide]
 omega
end
open PySem.AutoSeq1 (wpAny_loadPart')
section
variable {prog : Program} {w : World} {A : Around} {s : Shared} {R : Result → Shared → Prop} {l : Addr} {items : Array Value} {n : Nat} {x : Value} {j : Nat}
theorem rem_from (hj : j < items.size) (hz : items.size ≤ sizeLine) (hl : s.heap.get? l = some { cls := .type "list", dict := none, data := .seq items n, slots := #[] })
  (he : ∀ (m : Nat) (hm : m < items.size), m ≤ j → SeqAt.EqAt A.in1 s items[m] x (decide (m = j)))
  (q : R (.ok (.ret .none)) { s with heap := s.heap.update l (Obj.mapSeq fun xs => xs.eraseIdxIfInBounds j) }) :
  ∀ (k i : Nat), j - i = k → i ≤ j → codeAny (model prog w) A (.builtin "list.remove.loop" ⟨[.ref l, x, rawInt i], []⟩) R s := by
 intro k
 induction k with
 | zero =>
  intro i hk hi
  have e : i = j := by omega
  subst e
  refine go_in PySem.MeetsSeq.entry_remove_loop PySem.MeetsSeq.plain_remove_loop ?_
  unfold Builtin.«list.remove.loop»
  obtain ⟨hp, g, d, tk, os⟩ := s
  wp_walk using wpAny_loadPart' hl
  have ei : items[((i : Nat) : Int).toNat]? = some items[i] := by simp [hj]
  rw [ei]
  refine wpAny_bind (he i hj (Nat.le_refl _) _ _ _ _ ?_)
  rw [decide_eq_true rfl, if_pos rfl]
  refine wpAny_bind (show wpAny _ _ (updateSeq l fun xs => xs.eraseIdxIfInBounds ((i : Nat) : Int).toNat) _ _ _ from wpAny_updateSeq hl rfl ?_ hz (by unfold Array.eraseIdxIfInBounds; split; (simp only [Array.size_eraseIdx]; omega); omega))
  exact wpAny_pure q
 | succ k ih =>
  intro i hk hi
  have hlt : i < items.size := by omega
  refine go_in PySem.MeetsSeq.entry_remove_loop PySem.MeetsSeq.plain_remove_loop ?_
  unfold Builtin.«list.remove.loop»
  obtain ⟨hp, g, d, tk, os⟩ := s
  wp_walk using wpAny_loadPart' hl
  have ei : items[((i : Nat) : Int).toNat]? = some items[i] := by simp [hlt]
  rw [ei]
  refine wpAny_bind (he i hlt hi _ _ _ _ ?_)
  rw [decide_eq_false (show ¬ i = j by omega)]
  wp_walk
  rw [show ((i : Int) + 1) = ((i + 1 : Nat) : Int) by omega]
  exact ⟨plainId_quiet PySem.MeetsSeq.plain_remove_loop _, ih (i + 1) (by omega) (by omega)⟩
end
section
variable {X : Cx}
theorem eq_tups {A : Around} {s : Shared} {p q : Addr} {zs ys : List V} {us ws : List Value} (ne : p ≠ q) (pl : s.heap.IsTuple p us.toArray) (pl' : s.heap.IsTuple q ws.toArray) (r : Vals zs us) (r' : Vals ys ws) (hu : A.units < cLine) (ok : ∀ (i : Nat) (a b : V), zs[i]? = some a → ys[i]? = some b → okP a b) : SeqAt.EqAt A s (.ref p) (.ref q) (eqPs zs ys) := by
 have l1 := r.length
 have l2 := r'.length
 have rc : SeqAt.RcAt A s (.ref p) (.ref q) _ := SeqAt.RcAt.tuples (e := ans zs ys) pl pl' hu fun j h1 h2 => by
  have j1 : j < zs.length := by simp at h1; omega
  have j2 : j < ys.length := by simp at h2; omega
  obtain ⟨u, eu, ru⟩ := r.get (List.getElem?_eq_getElem j1)
  obtain ⟨w, ew, rw'⟩ := r'.get (List.getElem?_eq_getElem j2)
  have a1 : us.toArray[j] = u := by
   simp at h1
   simpa [h1] using eu
  have a2 : ws.toArray[j] = w := by
   simp at h2
   simpa [h2] using ew
  rw [a1, a2, show ans zs ys j = eqP zs[j] ys[j] by unfold ans; rw [List.getElem?_eq_getElem j1, List.getElem?_eq_getElem j2]]
  exact eqAt_P ru rw' (ok j _ _ (List.getElem?_eq_getElem j1) (List.getElem?_eq_getElem j2))
 refine SeqAt.EqAt.of_refs ne ?_
 have eb : eqPs zs ys = ((List.range (min us.toArray.size ws.toArray.size)).all (ans zs ys) && us.toArray.size == ws.toArray.size) := ?_
 ·rw [eb]
  exact rc
 ·by_cases hl : zs.length = ys.length
  ·unfold eqPs
   rw [decide_eq_true hl, Bool.true_and, ← zip_ans zs ys hl, List.size_toArray, List.size_toArray, ← l1, ← l2, ← hl, Nat.min_self, beq_self_eq_true, Bool.and_true]
  ·unfold eqPs
   rw [decide_eq_false hl, Bool.false_and, List.size_toArray, List.size_toArray, ← l1, ← l2, show (zs.length == ys.length) = false from beq_eq_false_iff_ne.mpr hl, Bool.and_false]
def rRemove (K : PySem.W.Frag) : V → List V → Hp → VK → Prop := fun v vs H Q => ∃ l xs y j, v = .ref l ∧ vs = [y] ∧ H l = some (.lst xs) ∧ j < xs.length ∧
 (∀ (m : Nat) (z : V), m ≤ j → xs[m]? = some z → (okP z y ∧ eqP z y = decide (m = j)) ∨ ∃ p q zs ys, z = .ref p ∧ y = .ref q ∧ p ≠ q ∧ SqT K H p zs ∧ SqT K H q ys ∧ (∀ (i : Nat) (a b : V), zs[i]? = some a → ys[i]? = some b → okP a b) ∧ eqPs zs ys = decide (m = j)) ∧
 Q .non (upd H l (.lst (xs.eraseIdx j)))
theorem mt_remove (hu : X.A.in1.units < cLine) : MtM X "list.remove" (rRemove X.K) := by
 intro pins s σ H x vs v us Q I rx rv h
 obtain ⟨l, xs, y, j, rfl, rfl, hH, hj, he, q⟩ := h
 cases rx
 obtain ⟨u, rfl, ru⟩ := vals1 rv
 obtain ⟨z, its, n, r, hl, e⟩ := I.lstM hH
 have lt : xs.length = its.length := r.length
 have jl : j < its.toArray.size := by rw [List.size_toArray]; omega
 have hz : its.toArray.size ≤ sizeLine := by rw [List.size_toArray]; omega
 refine wpAny_call (codeAny_call_builtin PySem.F.slot_list_remove.plain PySem.F.entry_list_remove (PySem.F.slot_list_remove.check _ _ _ _ _ _ _ _ ⟨_, e, rfl⟩ (PySem.F.args_list_remove_2 _ _) ?_))
 unfold Builtin.«list.remove»
 wp_walk
 refine ⟨plainId_quiet PySem.MeetsSeq.plain_remove_loop _, rem_from (j := j) jl hz e (fun m hm hmj => ?_) ?_ j 0 (by omega) (Nat.zero_le _)⟩
 ·have mx : m < xs.length := by rw [List.size_toArray] at hm; omega
  have e1 : xs[m]? = some xs[m] := List.getElem?_eq_getElem mx
  obtain ⟨w, ew, rw'⟩ := r.get e1
  have a1 : its.toArray[m] = w := by
   have : its[m]? = some w := ew
   rw [List.size_toArray] at hm
   simpa [hm] using this
  rw [a1]
  rcases he m _ hmj e1 with ⟨ok, eq⟩ | ⟨p, q', zs, ys, ez, ey, ne, hp, hq, ok, eq⟩
  ·rw [← eq]
   exact eqAt_P rw' ru ok
  ·subst ey
   rw [ez] at rw'
   cases rw'
   cases ru
   rw [← eq]
   obtain ⟨us1, r1, pl1, hz1⟩ := I.tuple hp
   obtain ⟨us2, r2, pl2, hz2⟩ := I.tuple hq
   exact eq_tups ne pl1 pl2 r1 r2 hu ok
 ·refine ⟨.non, _, I.lset (its' := its.eraseIdx j) (t' := s.toks) hH e ?_ (r.eraseIdx j) ?_, rfl, q⟩
  ·show its.toArray.eraseIdxIfInBounds j = (its.eraseIdx j).toArray
   rw [List.eraseIdxIfInBounds_toArray]
  ·have := len_erase xs j
   omega
end
section
variable {X : Cx} {st : Stmt} {t : TS}
def sThaw (t : TS) : TS := fun D σ H => ∃ d v, H d = some v ∧ (∀ o z, v ≠ .frz o z) ∧ t { D with nx := fun σ' H' => ∃ o kvs, H' d = some (.frz o (.dK kvs)) ∧ D.nx σ' (upd H' d (.dK kvs)) } σ H
theorem ps_thaw (h : PS X st t) : PS X st (sThaw t) := by
 intro pins s σ H D I q
 obtain ⟨d, v, hd, nf, q⟩ := q
 have n0 := I.notFrz hd nf
 refine thn (h pins s σ H _ I q) fun f s' r => ?_
 cases f with
 | next =>
  obtain ⟨σ', H', I', o, kvs, e, n⟩ := r
  exact ⟨σ', _, I'.thaw e n0, n⟩
 | brk => exact r
 | cont => exact r
 | ret u => exact r
theorem tsth1 {te : TE} {i : Nat} {D : Ends} {σ : St} {H : Hp} (h : tThaw te σ H fun x H1 => gName i x σ H1 D.nx) : sThaw (tAsg te (gName i)) D σ H := h
end
end L2
namespace L2
open PySem PySem.Spec PyProof PyProof.Rows
def tDSet (td ty tx : TE) : TE := fun σ H Q => td σ H fun x H1 => ∃ a, x = .ref a ∧ IsD H1 a ∧ ty σ H1 fun y H2 => tx σ H2 fun z H3 => ∃ kvs k, H3 a = some (.dK kvs) ∧ y = kV k ∧ kvs.length < sizeLine ∧
 (∀ v, valV kvs k = some v → Q v H3) ∧ (valV kvs k = none → Q z (upd H3 a (.dK (putK kvs k z))))
section
variable {X : Cx} {o e f : Expr} {apos cpos : Pos} {td ty tx : TE}
theorem pe_dset (ho : PE X o td) (he : PE X e ty) (hf : PE X f tx) (m : M2 X o "setdefault" apos e f cpos) : PE X (.Call (.Attribute o "setdefault" apos) [e, f] [] cpos) (tDSet td ty tx) := by
 intro pins s σ H Q I h
 refine wpAny_Call_method m.base m.few m.line PySem.F.plainAttrs_dict PySem.F.slot_dict_setdefault PySem.F.type_dict_setdefault (thn (ho pins s σ H _ I h) fun u s1 ⟨x, H1, I1, rx, a, ex, d, q1⟩ => ?_)
 cases ex
 cases rx
 obtain ⟨t1, t2, _⟩ := isD_at I1 d
 refine ⟨t1, t2, ?_⟩
 rw [m.trees]
 refine Calls.callWith_builtin rfl (Calls.evalArgs_plain (Calls.spliced_cons (thn (he pins s1 σ H1 _ I1 q1) fun iv s2 ⟨y, H2, I2, ry, q2⟩ => Calls.spliced_cons (thn (hf pins s2 σ H2 _ I2 q2) fun fv s3 ⟨z, H3, I3, rz, kvs, k, ea, ey, hl, q3, q4⟩ => Calls.spliced_nil ?_))))
 cases ey
 obtain ⟨z0, hd, vs, rel, dd⟩ := dk_of I3.hok ea
 refine call_meetsIn PySem.F.slot_dict_setdefault dd.typeIs PySem.F.entry_dict_setdefault (PySem.F.args_dict_setdefault_3 _ _ _) (kt_meets_setdefault (mixKind X.prog X.w) a (kV_is ry) hd fv) ⟨vs, dd, by rw [← rel.length]; exact z0, fun v hv => ?_, fun hn h' dd' hs => ?_⟩
 ·cases l : valV kvs k with
  | none =>
   have r := rel.val k
   rw [l, hv] at r
   exact r.elim
  | some v0 =>
   have r := rel.val k
   rw [l, hv] at r
   exact ⟨v0, H3, I3.tok _, r, q3 v0 l⟩
 ·have l : valV kvs k = none := by
   cases l : valV kvs k with
   | none => rfl
   | some v0 =>
    have r := rel.val k
    rw [l, hn] at r
    exact r.elim
  have he : ∃ q, h'.get? a = some q := let ⟨q, _, _, hq, _⟩ := dd'; ⟨q, hq⟩
  have ll := length_putK kvs k z
  exact ⟨z, _, d_write I3 (by rw [ea]; exact True.intro) hs he (dk_new (by omega) hd (rel.put k rz) dd'), rz, q4 l⟩
end
def Tps (H : Hp) (ts : List Addr) (ps : List (List V)) : Prop := ts.length = ps.length ∧ ∀ (j : Nat) t xs, ts[j]? = some t → ps[j]? = some xs → H t = some (.tup xs)
def rNeLT (K : PySem.W.Frag) : R2 := fun x y H Q => ∃ (p q : Addr) (ts us : List Addr) (ps : List (List V)), x = .ref p ∧ y = .ref q ∧ SqL K H p (ts.map V.ref) ∧ SqL K H q (us.map V.ref) ∧ Tps H ts ps ∧ Tps H us ps ∧ (∀ xs ∈ ps, xs.all flatV = true) ∧ Q (.bl false) H
theorem op_neLT {X : Cx} (hu : X.A.units + 1 < cLine) : OpR X (compareOp .NotEq) (rNeLT X.K) := by
 intro pins s σ H x y v u Q I rx ry h
 obtain ⟨p, q, ts, us, ps, rfl, rfl, hp, hq, ht, hv, hf, hQ⟩ := h
 cases rx
 cases ry
 obtain ⟨as, r, pl, hz⟩ := I.list hp
 obtain ⟨bs, r', pl', hz'⟩ := I.list hq
 have l1 := r.length
 have l2 := r'.length
 rw [List.length_map] at l1 l2
 have l3 := ht.1
 have l4 := hv.1
 have key := SeqAt.RcNeAt.lists (A := X.A) (s := s) (e := fun _ => true) pl.isList pl'.isList (by simp; omega) (by omega) (fun j h1 h2 => ?_) X.prog X.w X.xe
 ·refine key _ ⟨.bl _, H, I, rfl, ?_⟩
  have e0 : (!(List.range as.toArray.size).all fun _ => true) = false := by simp
  rw [e0]
  exact hQ
 ·have j1 : j < ts.length := by simp at h1; omega
  have j2 : j < us.length := by omega
  have j3 : j < ps.length := by omega
  obtain ⟨a', ea, ra⟩ := r.get (i := j) (x := .ref ts[j]) (by rw [List.getElem?_map, List.getElem?_eq_getElem j1]; rfl)
  obtain ⟨b', eb, rb⟩ := r'.get (i := j) (x := .ref us[j]) (by rw [List.getElem?_map, List.getElem?_eq_getElem j2]; rfl)
  cases ra
  cases rb
  have a1 : as.toArray[j] = .ref ts[j] := by
   have z := ea
   simp at h1
   simpa [h1] using z
  have a2 : bs.toArray[j] = .ref us[j] := by
   have z := eb
   simp at h2
   simpa [h2] using z
  rw [a1, a2]
  have t1 := ht.2 j _ _ (List.getElem?_eq_getElem j1) (List.getElem?_eq_getElem j3)
  have t2 := hv.2 j _ _ (List.getElem?_eq_getElem j2) (List.getElem?_eq_getElem j3)
  by_cases e : ts[j] = us[j]
  ·rw [e]; exact SeqAt.EqAt.same _
  ·obtain ⟨xs1, w1, y1, _⟩ := I.tuple (SqT.of t1)
   obtain ⟨xs2, w2, y2, _⟩ := I.tuple (SqT.of t2)
   have fl := hf _ (List.getElem_mem j3)
   have m1 := w1.length
   have m2 := w2.length
   have rc := SeqAt.RcAt.tuples (A := X.A.in1) (s := s) (e := fun _ => true) y1 y2 (by show X.A.units + 1 < cLine; exact hu) fun i h3 h4 => ?_
   ·have e1 : ((List.range (min xs1.toArray.size xs2.toArray.size)).all (fun _ => true) && xs1.toArray.size == xs2.toArray.size) = true := by
     rw [Bool.and_eq_true]
     exact ⟨by simp, by simp; omega⟩
    rw [e1] at rc
    exact SeqAt.EqAt.of_refs e rc
   ·have i1 : i < (ps[j]).length := by simp at h3; omega
    have ei : (ps[j])[i]? = some (ps[j])[i] := List.getElem?_eq_getElem i1
    obtain ⟨c1, ec1, rc1⟩ := w1.get ei
    obtain ⟨c2, ec2, rc2⟩ := w2.get ei
    have b1 : xs1.toArray[i] = c1 := by
     simp at h3
     simpa [h3] using ec1
    have b2 : xs2.toArray[i] = c2 := by
     simp at h4
     simpa [h4] using ec2
    rw [b1, b2]
    have f1 := List.all_eq_true.mp fl _ (List.getElem_mem i1)
    have := eqAt_V (A := X.A.in1.in1) (s := s) rc1 rc2 f1 f1
    rwa [eqV_self f1] at this
def bestIs (o : Option (Nat × Value)) : Array Value := match o with | none => #[] | some (_, v) => #[v, v]
theorem args_min_d (a v : Value) : argsOk "min" ⟨[a], [(Str.ofString "default", v)]⟩ := by unfold argsOk; kernel_rfl
section
variable {P : Program} {w : World} {A : Around} {R : Result → Shared → Prop} {I S : Addr} {fp wr : List Addr} {n : Nat} {Pv : Nat → Value → Prop} {St : Nat → Heap → Prop} {bt : Nat → Nat → Bool} {x : Str} {d : Value}
def Best (bt : Nat → Nat → Bool) (Pv : Nat → Value → Prop) (j : Nat) (o : Option (Nat × Value)) : Prop := match o with
 | none => j = 0
 | some (i, v) => 0 < j ∧ i = argBest bt (j - 1) ∧ Pv i v
theorem minD_loop (W : Walks P w A.in1 I fp wr n Pv St) (hc : CmpOf P w A.in1 .Lt Pv bt) (nS : S ∉ fp) : ∀ (k j : Nat) (s : Shared) (o : Option (Nat × Value)) (c : Nat), n - j = k → j ≤ n → St j s.heap → Best bt Pv j o →
  s.heap.get? S = some ⟨.type "list", none, .seq (bestIs o) c, #[]⟩ →
  (∀ v h' tk, (n = 0 ∧ v = d ∨ 0 < n ∧ Pv (argBest bt (n - 1)) v) → (∀ b q, b ∉ wr → b ≠ S → s.heap.get? b = some q → h'.get? b = some q) → R (.ok (.ret v)) { s with heap := h', toks := tk }) →
  codeAny (model P w) A (.builtin "min.loop" ⟨[.ref I, .none, .ref S], [(x, d)]⟩) R s := by
 have nW : S ∉ wr := fun z => nS (W.sub _ z)
 have nm : (toString "min" ++ toString ".loop" : String) = "min.loop" := by decide
 intro k
 induction k with
 | zero =>
  intro j s o c hk hj st hb hS hR
  have ej : j = n := by omega
  subst ej
  refine codeAny_builtin F.entry_min_loop (by
   rw [Around.under_plainId F.plain_min_loop _]
   show wpAny _ A.in1 (seqItems? (.ref S) >>= _) _ _ s
   refine wpAny_bind (wpAny_seqItems hS rfl (wpAny_bind (wpAny_tryCatch (W.done s _ _ st fun h' tk kp => ?_))))
   have hS' := kp S _ nW hS
   cases o with
   | none => exact wpAny_bind (wpAny_rule (wpAny_pure (hR d h' tk (.inl ⟨hb, rfl⟩) fun b q h1 _ e => kp b q h1 e)))
   | some iv =>
    obtain ⟨i, v⟩ := iv
    obtain ⟨h0, rfl, hv⟩ := hb
    have hS2 : h'.get? S = some ⟨.type "list", none, .seq #[v, v] c, #[]⟩ := hS'
    show wpAny _ A.in1 (updateSeq S (fun _ => #[]) >>= _) _ _ _
    refine wpAny_bind ?_
    exact wpAny_updateSeq hS2 rfl (wpAny_bind (wpAny_letGo (wpAny_pure (hR v _ tk (.inr ⟨h0, hv⟩) fun b q h1 h2 e => (Heap.get?_update_other _ _ (Ne.symm h2)).trans (kp b q h1 e))))))
 | succ k ih =>
  intro j s o c hk hj st hb hS hR
  have lt : j < n := by omega
  refine codeAny_builtin F.entry_min_loop (by
   rw [Around.under_plainId F.plain_min_loop _]
   show wpAny _ A.in1 (seqItems? (.ref S) >>= _) _ _ s
   refine wpAny_bind (wpAny_seqItems hS rfl (wpAny_bind (wpAny_tryCatch (W.item j s _ _ lt st fun v h' tk hv st' kp => ?_))))
   have hS' := kp S _ nW hS
   have far : ∀ {g : Array Value → Array Value}, ∀ b ∈ fp, ∀ q, h'.get? b = some q → (h'.update S (Obj.mapSeq g)).get? b = some q := fun b hbf q e => (Heap.get?_update_other _ _ (fun z : S = b => nS (by rw [z]; exact hbf))).trans e
   cases o with
   | none =>
    have j0 : j = 0 := hb
    subst j0
    show wpAny _ A.in1 (updateSeq S (fun _ => #[v, v]) >>= _) _ _ _
    refine wpAny_bind ?_
    refine wpAny_updateSeq hS' rfl ?_
    rw [nm]
    exact wpAny_pure ⟨plainId_quiet F.plain_min_loop _, ih 1 _ (some (0, v)) _ (by omega) lt (W.frame _ _ _ st' far) ⟨Nat.one_pos, rfl, hv⟩ (Heap.get?_update_self _ hS' rfl) fun v' h2 tk2 e2 k2 => hR v' h2 tk2 e2 fun b q h1 n2 e => k2 b q h1 n2 ((Heap.get?_update_other _ _ (Ne.symm n2)).trans (kp b q h1 e))⟩
   | some iv =>
    obtain ⟨i, vb⟩ := iv
    obtain ⟨h0, rfl, hvb⟩ := hb
    have eb : argBest bt (j + 1 - 1) = if bt j (argBest bt (j - 1)) then j else argBest bt (j - 1) := by
     obtain ⟨m, rfl⟩ : ∃ m, j = m + 1 := ⟨j - 1, by omega⟩
     rfl
    show wpAny _ A.in1 (tryCatch (holding [v, v] (richCompare .Lt v vb >>= _)) _ >>= _) _ _ _
    refine wpAny_bind (wpAny_tryCatch (wpAny_holding (wpAny_bind (hc j (argBest bt (j - 1)) v vb _ _ _ hv hvb (wpAny_bind (wpAny_holding (wpAny_truthy_bool (wpAny_bind (wpAny_letGo (wpAny_pure ?_))))))))))
    cases ht : bt j (argBest bt (j - 1)) with
    | true =>
     rw [ht, if_pos rfl] at eb
     have hS2 : h'.get? S = some ⟨.type "list", none, .seq #[vb, vb] c, #[]⟩ := hS'
     simp only [if_true]
     refine wpAny_bind ?_
     refine wpAny_updateSeq hS2 rfl (wpAny_bind (wpAny_letGo ?_))
     rw [nm]
     exact wpAny_pure ⟨plainId_quiet F.plain_min_loop _, ih (j + 1) _ (some (j, v)) _ (by omega) lt (W.frame _ _ _ st' far) ⟨Nat.succ_pos _, eb.symm, hv⟩ (Heap.get?_update_self _ hS' rfl) fun v' h2 tk2 e2 k2 => hR v' h2 tk2 e2 fun b q h1 n2 e => k2 b q h1 n2 ((Heap.get?_update_other _ _ (Ne.symm n2)).trans (kp b q h1 e))⟩
    | false =>
     rw [ht, if_neg Bool.false_ne_true] at eb
     simp only [Bool.false_eq_true, if_false]
     refine wpAny_bind (wpAny_letGo ?_)
     rw [nm]
     exact wpAny_pure ⟨plainId_quiet F.plain_min_loop _, ih (j + 1) _ (some (argBest bt (j - 1), vb)) c (by omega) lt st' ⟨Nat.succ_pos _, eb.symm, hvb⟩ hS' fun v' h2 tk2 e2 k2 => hR v' h2 tk2 e2 fun b q h1 n2 e => k2 b q h1 n2 (kp b q h1 e)⟩)
end
def CallRK (X : Cx) (f : Value) (ks : List Str) (r : List V → List V → Hp → VK → Prop) : Prop :=
 ∀ (pins : List (Addr × Obj)) (s : Shared) (σ : St) (H : Hp) (xs zs : List V) (us ws : List Value) (Q : VK), Inv X pins σ H s → Vals xs us → Vals zs ws → r xs zs H Q → wpAny (model X.prog X.w) X.A (call f us (ks.zip ws)) (EP X pins σ Q) X.xe s
def tCBK (r : List V → List V → Hp → VK → Prop) (t tk : TA) : TE := fun σ H Q => t σ H fun vs H1 => tk σ H1 fun zs H2 => r vs zs H2 Q
section
variable {X : Cx} {x : Str} {p pos : Pos} {e : Expr} {es : List Expr} {kws : List Keyword} {ks : List Str} {t tk : TA} {id : String} {r : List V → List V → Hp → VK → Prop}
theorem pe_callBK (hc : CallRK X (.builtin id) ks r) (hg : Gl X x) (hm : X.mg x = none) (hv : bootBuiltins x = some (.builtin id)) (ha : PA X (e :: es) t) (hkw : PK X kws tk) (hn : x ≠ "__name__" := by decide) (hdb : (x == ("__debug__" : Str)) = false := by decide)
  (he : starEach (e :: es) X.env = (false, eval e X.env) :: starEach es X.env := by rfl) (hpl : (backTo pos (starEach (e :: es) X.env)).any (·.1) = false := by rfl)
  (hall : (backToKw pos (keywordEach kws X.env)).all (·.1.isSome) = true := by rfl) (hno : (backToKw pos (keywordEach kws X.env)).any (·.1.isNone) = false := by rfl) (hks : (backToKw pos (keywordEach kws X.env)).filterMap (·.1) = ks := by rfl) :
  PE X (.Call (.Name x p) (e :: es) kws pos) (tCBK r t tk) := by
 intro pins s σ H Q I h
 refine wpAny_Call_Name_kw (ld_blt I hg hm hv ?_ hn hdb)
 refine callWith_builtin_kwB hpl hno (evalArgs_kw2 hall (thn (ha pos pins s σ H _ I h) fun us s1 ⟨vs, H1, I1, r1, q1⟩ => thn (hkw pos pins s1 σ H1 _ I1 q1) fun ws s2 ⟨zs, H2, I2, r2, q2⟩ => ?_) he)
 rw [hks]
 exact hc pins s2 σ H2 vs zs us ws Q I2 r1 r2 q2
theorem call_minDf (hh : X.A.handled = none) : CallRK X (.builtin "min") ["default"] (fun xs zs H Q => ∃ (a : Addr) (ns : List Int) (d : V), xs = [.ref a] ∧ zs = [d] ∧ SqL X.K H a (ns.map V.int) ∧
  (ns = [] → Q d H) ∧ (∀ m : Int, m ∈ ns → (∀ n ∈ ns, m ≤ n) → Q (.int m) H)) := by
 intro pins s σ H xs zs us ws Q I r rz h
 obtain ⟨a, ns, d, rfl, rfl, hq, q0, q1⟩ := h
 obtain ⟨u, rfl, ru⟩ := vals1 r
 obtain ⟨dv, rfl, rd⟩ := vals1 rz
 cases ru
 obtain ⟨its, rv, pl, hz⟩ := I.list hq
 have ll := rv.length
 rw [List.length_map] at ll
 have nm : (toString "min" ++ toString ".loop" : String) = "min.loop" := by decide
 have isL := pl.isList
 have alt : a < s.heap.objs.size := by obtain ⟨ol, hol, _⟩ := id isL; exact Heap.lt_size hol
 have hh1 : X.A.in1.handled = none := hh
 refine kmk_tree PySem.F.kind_min PySem.F.plain_min PySem.F.entry_min (args_min_d _ _) ?_
 show wpAny _ X.A.in1 (Builtin.Builtins.bindParams "min" ["key", "default"] 0 ⟨[], [(Str.ofString "default", dv)]⟩ >>= _) _ _ s
 refine wpAny_bind (wpAny_of_eq (show Builtin.Builtins.bindParams "min" ["key", "default"] 0 ⟨[], [(Str.ofString "default", dv)]⟩ = pure [none, some dv] from rfl) (wpAny_bind (wpAny_pure (wpAny_bind (wpAny_pyIter_list isL (wpAny_bind (wpAny_newObj_type ?_)))))))
 rw [nm]
 have W := Walks.list (prog := X.prog) (w := X.w) (A := X.A.in1) hh1 s.heap.objs.size a (Nat.ne_of_lt alt) its.toArray
 have sz : its.toArray.size = ns.length := by simp; omega
 have fr : ∀ b q, s.heap.get? b = some q → ((s.heap.push { cls := .type "list_iterator", data := .fields #[.ref a, .int 0 0] }).push (seqObj "list" #[] 0)).get? b = some q := fun b q e => Heap.get?_push_of_some _ (Heap.get?_push_of_some _ e)
 have iv : ∀ i v, its.toArray[i]? = some v → ∃ t, v = Value.int (ns.getD i 0) t := fun i v e => by
  have hi : i < ns.length := by
   rcases Nat.lt_or_ge i its.toArray.size with z | z
   ·omega
   ·rw [Array.getElem?_eq_none z] at e; cases e
  obtain ⟨u', e', r'⟩ := rv.get (i := i) (x := .int ns[i]) (by rw [List.getElem?_map, List.getElem?_eq_getElem hi]; rfl)
  have e2 : its[i]? = some v := by simpa using e
  rw [e'] at e2
  cases e2
  rw [List.getD_eq_getElem?_getD, List.getElem?_eq_getElem hi]
  exact r'
 refine wpAny_pure ⟨plainId_quiet PySem.F.plain_min_loop _, minD_loop W (CmpOf.ints_lt (fun i => ns.getD i 0) iv) (S := (s.heap.push { cls := .type "list_iterator", data := .fields #[.ref a, .int 0 0] }).objs.size) ?_ _ 0 _ none 0 rfl (Nat.zero_le _) ⟨⟨_, Heap.get?_push_of_some _ (Heap.get?_push_size _ rfl), rfl, rfl⟩, ?_⟩ rfl (Heap.get?_push_size _ rfl) fun v h' tk hv kp => ?_⟩
 ·rw [Heap.size_push]
  intro hm
  rcases List.mem_cons.mp hm with e | hm
  ·exact absurd e (Nat.ne_of_gt (Nat.lt_succ_self _))
  ·exact absurd (List.mem_singleton.mp hm) (Nat.ne_of_gt (Nat.lt_succ_of_lt alt))
 ·exact isL.at fun o e => fr _ _ e
 ·have I1 : Inv X pins σ H { s with heap := h', toks := tk } := I.kept fun b o z => kp b o (fun hb => by
   have lt := Heap.lt_size z
   rw [List.mem_singleton.mp hb] at lt
   exact Nat.lt_irrefl _ lt) (fun e => by
    have lt := Heap.lt_size z
    rw [e, Heap.size_push] at lt
    exact Nat.lt_irrefl _ (Nat.lt_of_succ_lt lt)) (fr _ _ z)
  rcases hv with ⟨h0, rfl⟩ | ⟨h0, hv⟩
  ·exact ⟨d, H, I1, rd, q0 (List.length_eq_zero_iff.mp (by omega))⟩
  ·rw [sz] at h0 hv
   obtain ⟨b1, b2⟩ := argBest_lt (fun i => ns.getD i 0) (ns.length - 1)
   obtain ⟨t, rfl⟩ := iv _ _ hv
   refine ⟨.int _, H, I1, ⟨t, rfl⟩, q1 _ ?_ fun n' hn' => ?_⟩
   ·have lt : argBest (fun i j => decide (ns.getD i 0 < ns.getD j 0)) (ns.length - 1) < ns.length := by omega
    rw [List.getD_eq_getElem?_getD, List.getElem?_eq_getElem lt]
    exact List.getElem_mem lt
   ·obtain ⟨j, hj, rfl⟩ := List.getElem_of_mem hn'
    have := b2 j (by omega)
    rw [List.getD_eq_getElem?_getD (i := j), List.getElem?_eq_getElem hj] at this
    exact this
end
def FZ : HO → Bool
 | .tup _ => true
 | .ins _ _ ((f, _) :: _) => f == "level" || f == "key_row"
 | _ => false
structure Chg (h h' H H' : Hp) : Prop where
 sm : Same h' H'
 fr : ∀ b o, H b = some o → h b = none → H' b = some o
 nw : ∀ b, h' b = none ∨ h b ≠ none ∨ H b = none
 fz : ∀ b o, H b = some o → FZ o = true → H' b = some o
def Dis (h g : Hp) : Prop := ∀ b, h b = none ∨ g b = none
theorem Dis.symm {h g : Hp} (d : Dis h g) : Dis g h := fun b => (d b).symm
theorem sg {H H' : Hp} {a : Addr} {o : HO} (S : Same H H') (e : H a = some o) : H' a = some o := S _ _ e
theorem un_f {H : Hp} {p a : Addr} {o x : HO} (f : H p = none) (e : H a = some x) : upd H p o a = some x := by rw [upd_ne (ne_of_none e f)]; exact e
theorem Chg.refl {h H : Hp} (s : Same h H) : Chg h h H H := ⟨s, fun _ _ e _ => e, fun b => by
 cases h b with
 | none => exact .inl rfl
 | some o => exact .inr (.inl (fun z => nomatch z)), fun _ _ e _ => e⟩
theorem Chg.same {h H H' : Hp} (s : Same h H) (S : Same H H') : Chg h h H H' := ⟨s.trans S, fun _ _ e _ => S _ _ e, (Chg.refl s).nw, fun _ _ e _ => S _ _ e⟩
theorem Chg.trans {h h1 h2 H H1 H2 : Hp} (a : Chg h h1 H H1) (b : Chg h1 h2 H1 H2) : Chg h h2 H H2 := by
 have back : ∀ c o, H c = some o → h c = none → h1 c = none := fun c o e n => by
  rcases a.nw c with z | z | z
  ·exact z
  ·exact absurd n z
  ·rw [e] at z; cases z
 refine ⟨b.sm, fun c o e n => b.fr c o (a.fr c o e n) (back c o e n), fun c => ?_, fun c o e f => b.fz c o (a.fz c o e f) f⟩
 rcases b.nw c with z | z | z
 ·exact .inl z
 ·rcases a.nw c with y | y | y
  ·exact absurd y z
  ·exact .inr (.inl y)
  ·exact .inr (.inr y)
 ·cases e : H c with
  | none => exact .inr (.inr rfl)
  | some o =>
   refine .inr (.inl fun n => ?_)
   rw [a.fr c o e n] at z
   cases z
theorem Chg.and {h h1 H H1 H2 : Hp} (a : Chg h h1 H H1) (S : Same H1 H2) : Chg h h1 H H2 := a.trans (.same a.sm S)
theorem same_upd {h H : Hp} (s : Same h H) (a : Addr) (o : HO) : Same (upd h a o) (upd H a o) := fun b x e => by
 unfold upd at e ⊢
 by_cases c : b = a
 ·rw [if_pos c] at e ⊢; exact e
 ·rw [if_neg c] at e ⊢; exact s _ _ e
theorem Chg.add {h H : Hp} {l : Addr} {o : HO} (s : Same h H) (f : H l = none) : Chg h (upd h l o) H (upd H l o) := ⟨same_upd s l o, fun b x e _ => un_f f e, fun b => by
 by_cases c : b = l
 ·rw [c]; exact .inr (.inr f)
 ·rw [upd_ne c]; exact (Chg.refl s).nw b, fun b x e _ => un_f f e⟩
theorem Chg.mut {h H : Hp} {a : Addr} {o x : HO} (s : Same h H) (e : h a = some x) (nf : FZ x = false := by first | rfl | decide) : Chg h (upd h a o) H (upd H a o) := ⟨same_upd s a o, fun b y z n => by
  rw [upd_ne (fun c => by rw [c, e] at n; cases n)]; exact z, fun b => by
 by_cases c : b = a
 ·rw [c, e]; exact .inr (.inl fun z => nomatch z)
 ·rw [upd_ne c]; exact (Chg.refl s).nw b, fun b y z f => by
  rw [upd_ne (fun c => by rw [c, s _ _ e] at z; cases z; rw [nf] at f; cases f)]; exact z⟩
theorem Chg.keep {h h' H H' g : Hp} (c : Chg h h' H H') (d : Dis h g) (s : Same g H) : Same g H' := fun b o e => c.fr b o (s _ _ e) ((d b).resolve_right fun z => by rw [e] at z; cases z)
theorem Chg.dis {h h' H H' g : Hp} (c : Chg h h' H H') (d : Dis h g) (s : Same g H) : Dis h' g := fun b => by
 rcases c.nw b with z | z | z
 ·exact .inl z
 ·exact .inr ((d b).resolve_left z)
 ·exact .inr (s.free z)
theorem Chg.get {h h' H H' : Hp} {b : Addr} {o : HO} (c : Chg h h' H H') (n : h b = none) (e : H b = some o) : H' b = some o := c.fr b o e n
theorem Chg.out {h h' H H' : Hp} {b : Addr} {o : HO} (c : Chg h h' H H') (n : h b = none) (e : H b = some o) : h' b = none := by
 rcases c.nw b with z | z | z
 ·exact z
 ·exact absurd n z
 ·rw [e] at z; cases z
def rsH (h H' : Hp) : Hp := fun b => if (h b).isSome then H' b else none
theorem rs_at {h H' : Hp} {a : Addr} {o : HO} (e : h a = some o) : rsH h H' a = H' a := by unfold rsH; rw [e]; rfl
theorem Chg.rs {h H H' : Hp} (f : ∀ b o, H b = some o → h b = none → H' b = some o) (f2 : ∀ b o, H b = some o → FZ o = true → H' b = some o) : Chg h (rsH h H') H H' := ⟨fun b o e => by
  unfold rsH at e
  cases c : h b with
  | none => rw [c] at e; cases e
  | some x => rw [c] at e; exact e, f, fun b => by
 unfold rsH
 cases c : h b with
 | none => exact .inl rfl
 | some x => exact .inr (.inl fun z => nomatch z), f2⟩
section
variable {K : PySem.W.Frag} {σ : St} {H : Hp} {Q : VK} {n bk ct : St → Hp → Prop} {rt : VK} {D : Ends} {ta tb tc te : TE} {t u : TS} {tt tu : TT} {g : TG} {gs : TGs} {i j : Nat} {v w' : V} {vs : List V} {f : Str} {r r' : R2}
theorem s_seq (h : t ⟨u ⟨n, rt, bk, ct⟩, rt, bk, ct⟩ σ H) : tSeq t u ⟨n, rt, bk, ct⟩ σ H := h
theorem s_set (h : te σ H fun x H1 => n (σ.set i (some x)) H1) : tAsg te (gName i) ⟨n, rt, bk, ct⟩ σ H := h
theorem s_asg (h : te σ H fun x H1 => g x σ H1 n) : tAsg te g ⟨n, rt, bk, ct⟩ σ H := h
theorem s_ret (h : te σ H rt) : tRet te ⟨n, rt, bk, ct⟩ σ H := h
theorem s_retN (h : rt .non H) : tRetN ⟨n, rt, bk, ct⟩ σ H := h
theorem s_drop (h : te σ H fun _ H1 => n σ H1) : tDrop te ⟨n, rt, bk, ct⟩ σ H := h
theorem s_if (h : tt σ H fun b H1 => if b = true then t D σ H1 else u D σ H1) : tIfS tt t u D σ H := h
theorem s_next (h : n σ H) : tNext ⟨n, rt, bk, ct⟩ σ H := h
def KFldS (K : PySem.W.Frag) (f : Str) (y : V) (n : St → Hp → Prop) (σ : St) (x : V) (H : Hp) : Prop := ∃ a C dx fs, x = .ref a ∧ H a = some (.ins C dx fs) ∧ Cls K C ∧ NoAttr K C f ∧ fs.length < 1000 ∧ n σ (upd H a (.ins C dx (putF f y fs)))
theorem s_fld (h : tb σ H fun y H1 => ta σ H1 fun x H2 => KFldS K f y n σ x H2) : sFld K ta tb f ⟨n, rt, bk, ct⟩ σ H := h
theorem k_flds {a C dx : Addr} {fs : List (Str × V)} {y : V} (h : H a = some (.ins C dx fs)) (c : Cls K C) (no : NoAttr K C f) (l : fs.length < 1000) (q : n σ (upd H a (.ins C dx (putF f y fs)))) : KFldS K f y n σ (.ref a) H := ⟨a, C, dx, fs, rfl, h, c, no, l, q⟩
def KDPut (v : V) (n : St → Hp → Prop) (σ : St) (x y : V) (H : Hp) : Prop := ∃ a H', x = .ref a ∧ DPut H a y v H' ∧ n σ H'
theorem s_dput (h : tc σ H fun v H1 => ta σ H1 fun x H2 => tb σ H2 fun y H3 => KDPut v n σ x y H3) : sDPut ta tb tc ⟨n, rt, bk, ct⟩ σ H := h
theorem k_dputK {a : Addr} {kvs : List (Key × V)} {k : Key} (h : H a = some (.dK kvs)) (l : kvs.length < sizeLine) (q : n σ (upd H a (.dK (putK kvs k v)))) : KDPut v n σ (.ref a) (kV k) H := ⟨a, _, rfl, DPut.k h l, q⟩
def KPar (i j : Nat) (n : St → Hp → Prop) (σ : St) (vs : List V) (H : Hp) : Prop := ∃ v w, vs = [v, w] ∧ n ((σ.set i (some v)).set j (some w)) H
theorem s_par {ta : TA} (h : ta σ H fun vs H1 => KPar i j n σ vs H1) : tPar i j ta ⟨n, rt, bk, ct⟩ σ H := h
theorem k_par (h : n ((σ.set i (some v)).set j (some w')) H) : KPar i j n σ [v, w'] H := ⟨v, w', rfl, h⟩
theorem g_name {N : St → Hp → Prop} (h : N (σ.set i (some v)) H) : gName i v σ H N := h
theorem g_tup {N : St → Hp → Prop} {a : Addr} {xs : List V} {k : Nat} (e : H a = some (.tup xs)) (l : xs.length = k) (h : gs xs σ H N) : gTup K k gs (.ref a) σ H N := ⟨a, xs, rfl, SqT.of e, l, h⟩
theorem g_cons {N : St → Hp → Prop} {xs : List V} (h : g v σ H fun σ' H' => gs xs σ' H' N) : gCons g gs (v :: xs) σ H N := ⟨v, xs, rfl, h⟩
theorem g_sub {N : St → Hp → Prop} {ts : TSet} (h : ta σ H fun o H1 => tb σ H1 fun i H2 => ts o i v H2 fun H3 => N σ H3) : gSub ta tb ts v σ H N := h
theorem q_setL {N : Hp → Prop} {a : Addr} {xs : List V} {k : Int} {j : Nat} (h : H a = some (.lst xs)) (e : ixN xs.length k = some j) (q : N (upd H a (.lst (xs.set j v)))) : rSetL (.ref a) (.int k) v H N := ⟨a, xs, k, j, rfl, rfl, h, e, q⟩
theorem g_nil {N : St → Hp → Prop} (h : N σ H) : gNil [] σ H N := ⟨rfl, h⟩
def QB (Q : Bool → Hp → Prop) (x : V) (H : Hp) : Prop := ∃ k, x = .bl k ∧ Q k H
theorem qb {Q : Bool → Hp → Prop} {k : Bool} (h : Q k H) : QB Q (.bl k) H := ⟨k, rfl, h⟩
theorem r_test {Q : Bool → Hp → Prop} (h : te σ H (QB Q)) : tTest te σ H Q := h
theorem r_tB {Q : Bool → Hp → Prop} (h : te σ H (QB Q)) : tB te σ H Q := h
theorem r_andV (h : ta σ H (QB fun c H1 => if c = true then tb σ H1 Q else Q (.bl false) H1)) : tAndV ta tb σ H Q := h
theorem r_notV (h : ta σ H (QB fun c H1 => Q (.bl (!c)) H1)) : tNotV ta σ H Q := h
theorem r_and {Q : Bool → Hp → Prop} (h : tt σ H fun c H1 => if c = true then tu σ H1 Q else Q false H1) : tAnd tt tu σ H Q := h
theorem r_or {Q : Bool → Hp → Prop} (h : tt σ H fun c H1 => if c = true then Q true H1 else tu σ H1 Q) : tOr tt tu σ H Q := h
theorem r_not {Q : Bool → Hp → Prop} (h : tt σ H fun c H1 => Q (!c) H1) : tNot tt σ H Q := h
theorem r_ifx (h : tt σ H fun c H1 => if c = true then ta σ H1 Q else tb σ H1 Q) : tIf tt ta tb σ H Q := h
theorem r_var (e : σ[i]? = some (some v)) (h : Q v H) : tVar i σ H Q := ⟨v, e, h⟩
theorem r_c (h : Q v H) : tC v σ H Q := h
theorem r_op (h : ta σ H fun x H1 => tb σ H1 fun y H2 => r x y H2 Q) : tOp r ta tb σ H Q := h
theorem r_un {ru : V → Hp → VK → Prop} (h : ta σ H fun x H1 => ru x H1 Q) : tUn ru ta σ H Q := h
theorem q_i0 {g : Int → Int → V} {a b : Int} (h : Q (g a b) H) : rI0 g (.int a) (.int b) H Q := ⟨a, b, rfl, rfl, h⟩
theorem q_i {C : Int → Int → Prop} {g : Int → Int → V} {a b : Int} (c : C a b) (h : Q (g a b) H) : rI C g (.int a) (.int b) H Q := ⟨a, b, rfl, rfl, c, h⟩
theorem q_u {g : Int → V} {a : Int} (h : Q (g a) H) : rU g (.int a) H Q := ⟨a, rfl, h⟩
theorem q_eq {x y : V} (c : scal x y = true) (h : Q (.bl (decide (x = y))) H) : rEq x y H Q := ⟨c, h⟩
theorem q_ne {x y : V} (c : scal x y = true) (h : Q (.bl (!decide (x = y))) H) : rNe x y H Q := ⟨c, h⟩
def KChain (r' : R2) (tc : TE) (σ : St) (y : V) (Q : VK) (z : V) (H : Hp) : Prop := ∃ k, z = .bl k ∧ (if k = true then tc σ H fun w' H4 => r' y w' H4 Q else Q (.bl false) H)
theorem r_chain (h : ta σ H fun x H1 => tb σ H1 fun y H2 => r x y H2 (KChain r' tc σ y Q)) : tChain r r' ta tb tc σ H Q := h
theorem k_chain {y : V} {k : Bool} (h : if k = true then tc σ H fun w' H4 => r' y w' H4 Q else Q (.bl false) H) : KChain r' tc σ y Q (.bl k) H := ⟨k, rfl, h⟩
def KFld (K : PySem.W.Frag) (f : Str) (Q : VK) (x : V) (H : Hp) : Prop := ∃ a C dx fs v, x = .ref a ∧ H a = some (.ins C dx fs) ∧ Cls K C ∧ NoAttr K C f ∧ fs.lookup f = some v ∧ Q v H
theorem r_fld (h : ta σ H (KFld K f Q)) : tFld K ta f σ H Q := h
theorem k_fld {a C dx : Addr} {fs : List (Str × V)} (h : H a = some (.ins C dx fs)) (c : Cls K C) (no : NoAttr K C f) (l : fs.lookup f = some v) (q : Q v H) : KFld K f Q (.ref a) H := ⟨a, C, dx, fs, v, rfl, h, c, no, l, q⟩
def KDGet (x y : V) (Q : VK) (H : Hp) : Prop := ∃ a v, x = .ref a ∧ DGet H a y (some v) ∧ Q v H
theorem r_dget (h : ta σ H fun x H1 => tb σ H1 fun y H2 => KDGet x y Q H2) : tDGet ta tb σ H Q := h
theorem k_dgetK {a : Addr} {kvs : List (Key × V)} {k : Key} (h : H a = some (.dK kvs)) (e : valV kvs k = some v) (q : Q v H) : KDGet (.ref a) (kV k) Q H := ⟨a, v, rfl, e ▸ DGet.k (k := k) h, q⟩
def KLst (xs : List V) (Q : VK) (H : Hp) : Prop := xs.length ≤ sizeLine ∧ ∀ p, H p = none → Q (.ref p) (upd H p (.lst xs))
theorem r_lst {t : TA} (h : t σ H fun xs H1 => KLst xs Q H1) : tLst t σ H Q := h
def KTup (xs : List V) (Q : VK) (H : Hp) : Prop := xs.length ≤ sizeLine ∧ ∀ p, H p = none → Q (.ref p) (upd H p (.tup xs))
theorem r_tup {t : TA} (h : t σ H fun xs H1 => KTup xs Q H1) : tTup t σ H Q := h
theorem r_cons {t : TA} {Q : List V → Hp → Prop} (h : ta σ H fun x H1 => t σ H1 fun xs H2 => Q (x :: xs) H2) : tCons ta t σ H Q := h
theorem r_nil {Q : List V → Hp → Prop} (h : Q [] H) : tNil σ H Q := h
theorem r_call {sp : Sp} {dvs : List V} {E : XK} {t : TA} (h : t σ H fun vs H1 => sp (vs ++ dvs) H1 Q E) : tCall sp dvs E t σ H Q := h
def KMeth (C : Addr) (m : Str) (sp : Sp) (dvs : List V) (E : XK) (t : TA) (σ : St) (Q : VK) (x : V) (H : Hp) : Prop := ∃ a dx fs, x = .ref a ∧ H a = some (.ins C dx fs) ∧ fs.lookup m = none ∧ t σ H fun vs H2 => sp (x :: (vs ++ dvs)) H2 Q E
theorem r_meth {C : Addr} {m : Str} {sp : Sp} {dvs : List V} {E : XK} {t : TA} (h : ta σ H (KMeth C m sp dvs E t σ Q)) : tMeth C m sp dvs E ta t σ H Q := h
theorem k_meth {C a dx : Addr} {m : Str} {sp : Sp} {dvs : List V} {E : XK} {t : TA} {fs : List (Str × V)} (h : H a = some (.ins C dx fs)) (l : fs.lookup m = none) (q : t σ H fun vs H2 => sp (.ref a :: (vs ++ dvs)) H2 Q E) : KMeth C m sp dvs E t σ Q (.ref a) H := ⟨a, dx, fs, rfl, h, l, q⟩
def KMake (C : Addr) (sp : Sp) (dvs : List V) (E : XK) (Q : VK) (vs : List V) (H : Hp) : Prop := ∀ x dx, H x = none → H dx = none → dx ≠ x → sp (.ref x :: (vs ++ dvs)) (upd (upd H dx (.own x)) x (.ins C dx [])) (fun v H2 => v = .non ∧ Q (.ref x) H2) E
theorem r_make {C : Addr} {sp : Sp} {dvs : List V} {E : XK} {t : TA} (h : t σ H fun vs H1 => KMake C sp dvs E Q vs H1) : tMake C sp dvs E t σ H Q := h
theorem r_cb {rr : List V → Hp → VK → Prop} {t : TA} (h : t σ H fun vs H1 => rr vs H1 Q) : tCB rr t σ H Q := h
theorem q_ixL {a : Addr} {xs : List V} {k : Int} (h : H a = some (.lst xs)) (e : atI xs k = some v) (q : Q v H) : rIxL K (.ref a) (.int k) H Q := ⟨a, xs, k, v, rfl, rfl, SqL.of h, e, q⟩
theorem q_ixT {a : Addr} {xs : List V} {k : Int} (h : H a = some (.tup xs)) (e : atI xs k = some v) (q : Q v H) : rIxT K (.ref a) (.int k) H Q := ⟨a, xs, k, v, rfl, rfl, SqT.of h, e, q⟩
def KAtT (K : PySem.W.Frag) (T : String) (rr : V → List V → Hp → VK → Prop) (t : TA) (σ : St) (Q : VK) (x : V) (H : Hp) : Prop := tyV K T x H ∧ t σ H fun xs H2 => rr x xs H2 Q
theorem r_bm {T : String} {rr : V → List V → Hp → VK → Prop} {t : TA} (h : ta σ H (KAtT K T rr t σ Q)) : tBM K T rr ta t σ H Q := h
theorem k_bmL {a : Addr} {xs : List V} {rr : V → List V → Hp → VK → Prop} {t : TA} (h : H a = some (.lst xs)) (q : t σ H fun ys H2 => rr (.ref a) ys H2 Q) : KAtT K "list" rr t σ Q (.ref a) H := ⟨.inl ⟨rfl, _, SqL.of h⟩, q⟩
theorem q_append {a : Addr} {xs : List V} {y : V} (h : H a = some (.lst xs)) (l : xs.length < sizeLine) (q : Q .non (upd H a (.lst (xs ++ [y])))) : rAppend (.ref a) [y] H Q := ⟨a, xs, y, rfl, rfl, h, l, q⟩
theorem q_cat {a b : Addr} {xs ys : List V} (h1 : H a = some (.lst xs)) (h2 : H b = some (.lst ys)) (l : xs.length + ys.length ≤ sizeLine) (q : ∀ p, H p = none → Q (.ref p) (upd H p (.lst (xs ++ ys)))) : rCat (.ref a) (.ref b) H Q := ⟨a, b, xs, ys, rfl, rfl, h1, h2, l, q⟩
end
end L2
namespace L2
open PySem
def RowAt (tp : Bool) (H : Hp) (a : Addr) (xs : List V) : Prop := H a = some (if tp then .tup xs else .lst xs)
theorem RowAt.sq {K : PySem.W.Frag} {tp : Bool} {H : Hp} {a : Addr} {xs : List V} (h : RowAt tp H a xs) : SqB K tp H a xs := by
 cases tp with
 | true => exact SqT.of h
 | false => exact SqL.of h
theorem itb_go {K : PySem.W.Frag} {tp : Bool} {H : Hp} {a : Addr} {xs : List V} {i : Nat} {x : V} (h : RowAt tp H a xs) (e : xs[i]? = some x) : (ItB K tp a).go i H := by
 cases tp with
 | true => exact ⟨xs, x, SqT.of h, e⟩
 | false => exact ⟨xs, x, SqL.of h, e⟩
theorem itb_yld {K : PySem.W.Frag} {tp : Bool} {H H' : Hp} {a : Addr} {xs : List V} {i : Nat} {v : V} (h : RowAt tp H a xs) (y : (ItB K tp a).yld i H v H') : H' = H ∧ xs[i]? = some v := by
 cases tp with
 | true => exact ⟨y.1, y.2 xs (SqT.of h)⟩
 | false => exact ⟨y.1, y.2 xs (SqL.of h)⟩
theorem itb_stop {K : PySem.W.Frag} {tp : Bool} {H : Hp} {a : Addr} {xs : List V} {i : Nat} (h : RowAt tp H a xs) (e : xs.length ≤ i) : (ItB K tp a).stop i H := by
 cases tp with
 | true => exact ⟨xs, SqT.of h, e⟩
 | false => exact ⟨xs, SqL.of h, e⟩
theorem row_len {K : PySem.W.Frag} {tp : Bool} {H : Hp} {a : Addr} {xs : List V} (h : RowAt tp H a xs) : SqL K H a xs ∨ SqT K H a xs := by
 cases tp with
 | true => exact .inr (SqT.of h)
 | false => exact .inl (SqL.of h)
theorem row_ix {K : PySem.W.Frag} {tp : Bool} {H : Hp} {a : Addr} {xs : List V} {i : Int} {v : V} {Q : VK} (h : RowAt tp H a xs) (e : atI xs i = some v) (q : Q v H) : rIx K (.ref a) (.int i) H Q := by
 cases tp with
 | true => exact .inr (.inl ⟨_, _, _, _, rfl, rfl, SqT.of h, e, q⟩)
 | false => exact .inl ⟨_, _, _, _, rfl, rfl, SqL.of h, e, q⟩
theorem sameD {H1 H2 : Hp} {D : Addr} {o : HO} (s : Same H1 H2) (d : H1 D = none) : Same H1 (upd H2 D o) := fun b u q => by rw [upd_ne (ne_of_none q d)]; exact s b u q
theorem iteE {b c : Bool} {A B : Prop} (e : b = c) (h : if c = true then A else B) : if b = true then A else B := by subst e; exact h
theorem big1000 : (2001 : Nat) ≤ sizeLine := by decide
theorem comp_pure {J : It} {js : List Nat} {tc : TT} {te : TE} {σ : St} {H1 : Hp} {Q : VK} (xs : List V) (p : V → Bool) (g : V → V)
  (hJ : ∀ i H2, Same H1 H2 → (i < xs.length → J.go i H2) ∧ (∀ v H3, J.yld i H2 v H3 → i < xs.length → H3 = H2 ∧ xs[i]? = some v) ∧ (xs.length ≤ i → J.stop i H2))
  (hc : ∀ x ∈ xs, ∀ H2 (R : Bool → Hp → Prop), Same H1 H2 → (∀ H3, Same H2 H3 → R (p x) H3) → tc (blkSt js σ (some x)) H2 R)
  (he : ∀ x ∈ xs, p x = true → ∀ H2 (R : VK), Same H1 H2 → (∀ H3, Same H2 H3 → R (g x) H3) → te (blkSt js σ (some x)) H2 R)
  (hz : xs.length ≤ 2000) (q : ∀ d H2, H1 d = none → Same H1 H2 → H2 d = some (.lst ((xs.filter p).map g)) → Q (.ref d) H2) (D : Addr) (hD : H1 D = none) :
  ∃ W : Nat → Nat → Hp → Prop, (∃ m, W 0 m (upd H1 D (.lst []))) ∧ ∀ i m H2, W i m H2 →
   (J.stop i H2 ∧ Q (.ref D) H2) ∨ (J.go i H2 ∧ ∀ v H3, J.yld i H2 v H3 → tc (blkSt js σ (some v)) H3 fun b H4 =>
    if b = true then te (blkSt js σ (some v)) H4 fun y H5 => ∃ ys, H5 D = some (.lst ys) ∧ ys.length < sizeLine ∧ ∃ m', m' < m ∧ W (i + 1) m' (upd H5 D (.lst (ys ++ [y])))
    else ∃ m', m' < m ∧ W (i + 1) m' H4) := by
 refine ⟨fun i m H2 => i + m = xs.length ∧ Same H1 H2 ∧ H2 D = some (.lst (((xs.take i).filter p).map g)), ⟨xs.length, by omega, sameD (Same.refl _) hD, by simp [upd_same]⟩, ?_⟩
 rintro i m H2 ⟨hm, S2, e2⟩
 by_cases hi : i < xs.length
 ·obtain ⟨j1, j2, j3⟩ := hJ i H2 S2
  refine .inr ⟨j1 hi, fun v H3 yl => ?_⟩
  obtain ⟨rfl, ev⟩ := j2 v H3 yl hi
  have hv : v ∈ xs := List.mem_of_getElem? ev
  have tk : xs.take (i + 1) = xs.take i ++ [v] := by
   rw [List.take_add_one, ev]
   rfl
  have len : (((xs.take i).filter p).map g).length ≤ 2000 := by
   rw [List.length_map]
   exact Nat.le_trans (List.length_filter_le _ _) (by rw [List.length_take]; omega)
  refine hc v hv H3 _ S2 fun H4 S4 => ?_
  cases hp : p v with
  | false => exact iteF ⟨m - 1, by omega, by omega, S2.trans S4, by rw [tk, List.filter_append]; simp [hp, S4 _ _ e2]⟩
  | true =>
   refine iteT (he v hv hp H4 _ (S2.trans S4) fun H5 S5 => ⟨_, S5 _ _ (S4 _ _ e2), by have := big1000; omega, m - 1, by omega, by omega, sameD ((S2.trans S4).trans S5) hD, ?_⟩)
   rw [upd_same, tk, List.filter_append]
   simp [hp]
 ·refine .inl ⟨(hJ i H2 S2).2.2 (by omega), q D H2 hD S2 ?_⟩
  rw [e2, List.take_of_length_le (by omega)]
theorem tcb1 {r : List V → Hp → VK → Prop} {ta : TE} {σ : St} {H : Hp} {Q : VK} (h : ta σ H fun x H1 => r [x] H1 Q) : tCB r (tCons ta tNil) σ H Q := h
theorem tand1 {ta tb : TE} {σ : St} {H : Hp} {Q : VK} (h : ta σ H fun x H1 => ∃ c, x = .bl c ∧ if c = true then tb σ H1 Q else Q (.bl false) H1) : tAndV ta tb σ H Q := h
theorem tret1 {te : TE} {D : Ends} {σ : St} {H : Hp} (h : te σ H D.rt) : tRet te D σ H := h
theorem comp_f {J : It} {js : List Nat} {wi : TI} {tc : TT} {te : TE} {σ : St} {H H1 : Hp} {Q : VK} (xs : List V) (p : V → Bool) (g : V → V) (hw : ∀ R : It → Hp → Prop, R J H1 → wi σ H R)
  (hJ : ∀ i H2, Same H1 H2 → (i < xs.length → J.go i H2) ∧ (∀ v H3, J.yld i H2 v H3 → i < xs.length → H3 = H2 ∧ xs[i]? = some v) ∧ (xs.length ≤ i → J.stop i H2))
  (hc : ∀ x ∈ xs, ∀ H2 (R : Bool → Hp → Prop), Same H1 H2 → (∀ H3, Same H2 H3 → R (p x) H3) → tc (blkSt js σ (some x)) H2 R)
  (he : ∀ x ∈ xs, p x = true → ∀ H2 (R : VK), Same H1 H2 → (∀ H3, Same H2 H3 → R (g x) H3) → te (blkSt js σ (some x)) H2 R)
  (hz : xs.length ≤ 2000) (q : ∀ d H2, H1 d = none → Same H1 H2 → H2 d = some (.lst ((xs.filter p).map g)) → Q (.ref d) H2) : tComp js wi tc te σ H Q :=
 hw _ fun D hD => comp_pure xs p g hJ hc he hz q D hD
theorem it_row {K : PySem.W.Frag} {tp : Bool} {H1 : Hp} {a : Addr} {xs : List V} (h : RowAt tp H1 a xs) : ∀ i H2, Same H1 H2 →
  (i < xs.length → (ItB K tp a).go i H2) ∧ (∀ v H3, (ItB K tp a).yld i H2 v H3 → i < xs.length → H3 = H2 ∧ xs[i]? = some v) ∧ (xs.length ≤ i → (ItB K tp a).stop i H2) := fun i H2 S => by
 have h2 : RowAt tp H2 a xs := S _ _ h
 refine ⟨fun hi => ?_, fun v H3 y _ => itb_yld h2 y, fun hi => itb_stop h2 hi⟩
 exact itb_go h2 (x := xs[i]) (by simp [hi])
theorem it_rng {lo : Int} {n : Nat} {H1 : Hp} : ∀ i H2, Same H1 H2 → (i < (upTo lo n).length → (Itr lo n).go i H2) ∧ (∀ v H3, (Itr lo n).yld i H2 v H3 → i < (upTo lo n).length → H3 = H2 ∧ (upTo lo n)[i]? = some v) ∧ ((upTo lo n).length ≤ i → (Itr lo n).stop i H2) := fun i H2 S => by
 have l : (upTo lo n).length = n := by simp [L2.upTo]
 rw [l]
 refine ⟨fun hi => hi, fun v H3 y hi => ?_, fun hi => hi⟩
 obtain ⟨rfl, rfl⟩ := y
 exact ⟨rfl, by simp [L2.upTo, hi]⟩
theorem kb_back {H H1 : Hp} {p l : Addr} (k : KB p H H1) (h : H1 l = none) (n : l ≠ p) : H l = none := by
 cases c : H l with
 | none => rfl
 | some o => rw [k l o c n] at h; cases h
theorem tseq1 {t u : TS} {D : Ends} {σ : St} {H : Hp} (h : t { D with nx := fun σ' H' => u D σ' H' } σ H) : tSeq t u D σ H := h
theorem seq2 {t u : TS} {D : Ends} {σ : St} {H : Hp} (R : St → Hp → Prop) (mk : ∀ N : St → Hp → Prop, (∀ σ' H', R σ' H' → N σ' H') → t { D with nx := N } σ H) (q : ∀ σ' H', R σ' H' → u D σ' H') : tSeq t u D σ H := tseq1 (mk _ q)
theorem kbF {H H1 : Hp} {p q : Addr} {o : HO} (k : KB p H H1) (h : H q = none) : KB p H (upd H1 q o) := fun b u z n => by rw [upd_ne (ne_of_none z h)]; exact k b u z n
theorem comp2_pure {K : PySem.W.Frag} {J : It} {js : List Nat} {tc : TT} {te : TE} {σ : St} {H1 : Hp} {Q : VK} (ps : List (Int × Int)) (p : Int × Int → Bool) (g : Int × Int → V)
  (hJ : ∀ i H2, Same H1 H2 → (i < ps.length → J.go i H2) ∧ (∀ v H3 x, J.yld i H2 v H3 → ps[i]? = some x → ∃ t, v = .ref t ∧ Same H2 H3 ∧ H3 t = some (.tup [.int x.1, .int x.2])) ∧ (ps.length ≤ i → J.stop i H2))
  (hc : ∀ x ∈ ps, ∀ H2 (R : Bool → Hp → Prop), Same H1 H2 → (∀ H3, Same H2 H3 → R (p x) H3) → tc (blkSt2 js σ (some (.int x.1)) (some (.int x.2))) H2 R)
  (he : ∀ x ∈ ps, p x = true → ∀ H2 (R : VK), Same H1 H2 → (∀ H3, Same H2 H3 → R (g x) H3) → te (blkSt2 js σ (some (.int x.1)) (some (.int x.2))) H2 R)
  (hz : ps.length ≤ 2000) (q : ∀ d H2, H1 d = none → Same H1 H2 → H2 d = some (.lst ((ps.filter p).map g)) → Q (.ref d) H2) (D : Addr) (hD : H1 D = none) :
  ∃ W : Nat → Nat → Hp → Prop, (∃ m, W 0 m (upd H1 D (.lst []))) ∧ ∀ i m H2, W i m H2 →
   (J.stop i H2 ∧ Q (.ref D) H2) ∨ (J.go i H2 ∧ ∀ v H3, J.yld i H2 v H3 → ∃ t y y', v = .ref t ∧ SqT K H3 t [y, y'] ∧ tc (blkSt2 js σ (some y) (some y')) H3 fun b H4 =>
    if b = true then te (blkSt2 js σ (some y) (some y')) H4 fun y H5 => ∃ ys, H5 D = some (.lst ys) ∧ ys.length < sizeLine ∧ ∃ m', m' < m ∧ W (i + 1) m' (upd H5 D (.lst (ys ++ [y])))
    else ∃ m', m' < m ∧ W (i + 1) m' H4) := by
 refine ⟨fun i m H2 => i + m = ps.length ∧ Same H1 H2 ∧ H2 D = some (.lst (((ps.take i).filter p).map g)), ⟨ps.length, by omega, sameD (Same.refl _) hD, by simp [upd_same]⟩, ?_⟩
 rintro i m H2 ⟨hm, S2, e2⟩
 by_cases hi : i < ps.length
 ·obtain ⟨j1, j2, j3⟩ := hJ i H2 S2
  have ex : ps[i]? = some ps[i] := List.getElem?_eq_getElem hi
  generalize ps[i] = x at ex
  refine .inr ⟨j1 hi, fun v H3 yl => ?_⟩
  obtain ⟨t, rfl, S3, et⟩ := j2 v H3 x yl ex
  have hx : x ∈ ps := List.mem_of_getElem? ex
  have tk : ps.take (i + 1) = ps.take i ++ [x] := by rw [List.take_add_one, ex]; rfl
  have len : (((ps.take i).filter p).map g).length ≤ 2000 := by
   rw [List.length_map]
   exact Nat.le_trans (List.length_filter_le _ _) (by rw [List.length_take]; omega)
  refine ⟨t, _, _, rfl, SqT.of et, hc x hx H3 _ (S2.trans S3) fun H4 S4 => ?_⟩
  have S34 := S3.trans S4
  cases hp : p x with
  | false => exact iteF ⟨m - 1, by omega, by omega, S2.trans S34, by rw [tk, List.filter_append]; simp [hp, S34 _ _ e2]⟩
  | true =>
   refine iteT (he x hx hp H4 _ (S2.trans S34) fun H5 S5 => ⟨_, S5 _ _ (S34 _ _ e2), by have := big1000; omega, m - 1, by omega, by omega, sameD ((S2.trans S34).trans S5) hD, ?_⟩)
   rw [upd_same, tk, List.filter_append]
   simp [hp]
 ·refine .inl ⟨(hJ i H2 S2).2.2 (by omega), q D H2 hD S2 ?_⟩
  rw [e2, List.take_of_length_le (by omega)]
def Tups (H : Hp) (ts : List Addr) (ps : List (Int × Int)) : Prop := ts.length = ps.length ∧ ∀ (j : Nat) (t : Addr) (x : Int × Int), ts[j]? = some t → ps[j]? = some x → H t = some (.tup [.int x.1, .int x.2])
theorem Tups.keep {H H' : Hp} {ts : List Addr} {ps : List (Int × Int)} (h : Tups H ts ps) (S : ∀ b xs, H b = some (.tup xs) → H' b = some (.tup xs)) : Tups H' ts ps := ⟨h.1, fun j t x a b => S _ _ (h.2 j t x a b)⟩
theorem it_prs {K : PySem.W.Frag} {H1 : Hp} {l : Addr} {ts : List Addr} {ps : List (Int × Int)} (hl : H1 l = some (.lst (ts.map V.ref))) (h : Tups H1 ts ps) : ∀ i H2, Same H1 H2 →
  (i < ps.length → (Itl K l).go i H2) ∧ (∀ v H3 x, (Itl K l).yld i H2 v H3 → ps[i]? = some x → ∃ t, v = .ref t ∧ Same H2 H3 ∧ H3 t = some (.tup [.int x.1, .int x.2])) ∧ (ps.length ≤ i → (Itl K l).stop i H2) := fun i H2 S => by
 have h2 : SqL K H2 l (ts.map V.ref) := SqL.of (S _ _ hl)
 have le := h.1
 refine ⟨fun hi => ⟨_, .ref ts[i], h2, by rw [List.getElem?_map, List.getElem?_eq_getElem (by omega)]; rfl⟩, fun v H3 x yl ex => ?_, fun hi => ⟨_, h2, by rw [List.length_map]; omega⟩⟩
 obtain ⟨rfl, y2⟩ := yl
 have ev := y2 _ h2
 rw [List.getElem?_map] at ev
 obtain ⟨t, et, rfl⟩ := Option.map_eq_some_iff.mp ev
 exact ⟨t, rfl, Same.refl _, S _ _ (h.2 i t x et ex)⟩
def kL (ps : List (Int × Int)) : List (Key × V) := ps.map fun p => (Sum.inl p.1, V.int p.2)
def kT (ns : List Int) : List (Key × V) := ns.map fun n => (Sum.inl n, V.bl true)
theorem kL_at {ps : List (Int × Int)} {i : Nat} {x : Int × Int} (h : ps[i]? = some x) : (kL ps)[i]? = some (Sum.inl x.1, V.int x.2) := by unfold kL; rw [List.getElem?_map, h]; rfl
theorem kL_len (ps : List (Int × Int)) : (kL ps).length = ps.length := by unfold kL; rw [List.length_map]
theorem kT_len (ns : List Int) : (kT ns).length = ns.length := by unfold kT; rw [List.length_map]
theorem it_its {H1 : Hp} {d : Addr} {o : Obj} {ps : List (Int × Int)} (hd : H1 d = some (.frz o (.dK (kL ps)))) : ∀ i H2, Same H1 H2 →
  (i < ps.length → (Iti d o (kL ps)).go i H2) ∧ (∀ v H3 x, (Iti d o (kL ps)).yld i H2 v H3 → ps[i]? = some x → ∃ t, v = .ref t ∧ Same H2 H3 ∧ H3 t = some (.tup [.int x.1, .int x.2])) ∧ (ps.length ≤ i → (Iti d o (kL ps)).stop i H2) := fun i H2 S => by
 refine ⟨fun hi => ⟨S _ _ hd, by rw [kL_len]; exact hi⟩, fun v H3 x yl ex => ?_, fun hi => ⟨S _ _ hd, by rw [kL_len]; exact hi⟩⟩
 obtain ⟨t, k, y, rfl, ft, e, rfl⟩ := yl
 rw [kL_at ex] at e
 cases e
 exact ⟨t, rfl, Same.upd ft, upd_same⟩
theorem it_vals {H1 : Hp} {d : Addr} {o : Obj} {ps : List (Int × Int)} (hd : H1 d = some (.frz o (.dK (kL ps)))) : ∀ i H2, Same H1 H2 →
  (i < (ps.map fun p => V.int p.2).length → (Itv d o (kL ps)).go i H2) ∧ (∀ v H3, (Itv d o (kL ps)).yld i H2 v H3 → i < (ps.map fun p => V.int p.2).length → H3 = H2 ∧ (ps.map fun p => V.int p.2)[i]? = some v) ∧ ((ps.map fun p => V.int p.2).length ≤ i → (Itv d o (kL ps)).stop i H2) := fun i H2 S => by
 rw [List.length_map]
 refine ⟨fun hi => ⟨S _ _ hd, by rw [kL_len]; exact hi⟩, fun v H3 yl hi => ?_, fun hi => ⟨S _ _ hd, by rw [kL_len]; exact hi⟩⟩
 obtain ⟨rfl, k, e⟩ := yl
 rw [kL_at (List.getElem?_eq_getElem hi)] at e
 cases e
 exact ⟨rfl, by rw [List.getElem?_map, List.getElem?_eq_getElem hi]; rfl⟩
theorem comp_vals {js : List Nat} {te to : TE} {σ : St} {H : Hp} {Q : VK} {d : Addr} {ps : List (Int × Int)} (hto : ∀ R : VK, R (.ref d) H → to σ H R) (hd : H d = some (.dK (kL ps))) (hz : ps.length ≤ 1000) (g : Int → V)
  (he : ∀ x ∈ ps, ∀ H2 (R : VK), KB d H H2 → (∀ H3, Same H2 H3 → R (g x.2) H3) → te (blkSt js σ (some (.int x.2))) H2 R)
  (q : ∀ l H', H l = none → Same H H' → H' l = some (.lst (ps.map fun x => g x.2)) → Q (.ref l) H') : tThaw (tComp js (iVals to) (fun _ H Q => Q true H) te) σ H Q := by
 refine ⟨d, _, hd, (fun _ _ z => nomatch z), hto _ ⟨d, kL ps, rfl, hd, fun ob D hD => ?_⟩⟩
 have kb : ∀ {H2 : Hp}, Same (upd H d (.frz ob (.dK (kL ps)))) H2 → KB d H H2 := fun S b o z n => S _ _ (by rw [upd_ne n]; exact z)
 refine comp_pure (js := js) (tc := fun _ H Q => Q true H) (te := te) (σ := σ) (Q := fun x H1 => ∃ o kvs, H1 d = some (.frz o (.dK kvs)) ∧ Q x (upd H1 d (.dK kvs))) (ps.map fun p => V.int p.2) (fun _ => true) (fun v => match v with | .int z => g z | v => v) (it_vals upd_same) ?_ ?_ (by rw [List.length_map]; omega) ?_ D hD
 ·exact fun v hv H2 R' S2 r => r H2 (Same.refl _)
 ·intro v hv _ H2 R' S2 r
  obtain ⟨c, hc, rfl⟩ := List.mem_map.mp hv
  exact he c hc H2 R' (kb S2) r
 ·intro l H2 fl S2 e2
  have e3 := S2 _ _ (upd_same (H := H) (a := d) (o := .frz ob (.dK (kL ps))))
  refine ⟨ob, kL ps, e3, q l _ ?_ (fun b o z => ?_) ?_⟩
  ·cases c : H l with
   | none => rfl
   | some o =>
    by_cases hb : l = d
    ·subst hb; rw [upd_same] at fl; cases fl
    ·rw [upd_ne hb, c] at fl; cases fl
  ·by_cases hb : b = d
   ·subst hb
    rw [hd] at z
    cases z
    exact upd_same
   ·rw [upd_ne hb]
    exact kb S2 b o z hb
  ·rw [upd_ne (ne_of e2 e3 (fun z => nomatch z)), e2, List.filter_eq_self.mpr (fun _ _ => rfl), List.map_map]
   rfl
theorem comp_items {K : PySem.W.Frag} {js : List Nat} {tc : TT} {te to : TE} {σ : St} {H : Hp} {Q : VK} {d : Addr} {ps : List (Int × Int)} (hto : ∀ R : VK, R (.ref d) H → to σ H R) (hd : H d = some (.dK (kL ps))) (hz : ps.length ≤ 1000) (p : Int × Int → Bool) (g : Int × Int → V)
  (hc : ∀ x ∈ ps, ∀ H2 (R : Bool → Hp → Prop), KB d H H2 → (∀ H3, Same H2 H3 → R (p x) H3) → tc (blkSt2 js σ (some (.int x.1)) (some (.int x.2))) H2 R)
  (he : ∀ x ∈ ps, p x = true → ∀ H2 (R : VK), KB d H H2 → (∀ H3, Same H2 H3 → R (g x) H3) → te (blkSt2 js σ (some (.int x.1)) (some (.int x.2))) H2 R)
  (q : ∀ l H', H l = none → Same H H' → H' l = some (.lst ((ps.filter p).map g)) → Q (.ref l) H') : tThaw (tComp2 K js (iItems to) tc te) σ H Q := by
 refine ⟨d, _, hd, (fun _ _ z => nomatch z), hto _ ⟨d, kL ps, rfl, hd, fun ob D hD => ?_⟩⟩
 have kb : ∀ {H2 : Hp}, Same (upd H d (.frz ob (.dK (kL ps)))) H2 → KB d H H2 := fun S b o z n => S _ _ (by rw [upd_ne n]; exact z)
 refine comp2_pure (K := K) (js := js) (tc := tc) (te := te) (σ := σ) (Q := fun x H1 => ∃ o kvs, H1 d = some (.frz o (.dK kvs)) ∧ Q x (upd H1 d (.dK kvs))) ps p g (it_its upd_same) (fun x hx H2 R S2 r => hc x hx H2 R (kb S2) r) (fun x hx hp H2 R S2 r => he x hx hp H2 R (kb S2) r) (by omega) ?_ D hD
 intro l H2 fl S2 e2
 have e3 := S2 _ _ (upd_same (H := H) (a := d) (o := .frz ob (.dK (kL ps))))
 refine ⟨ob, kL ps, e3, q l _ ?_ (fun b o z => ?_) ?_⟩
 ·cases c : H l with
  | none => rfl
  | some o =>
   by_cases hb : l = d
   ·subst hb; rw [upd_same] at fl; cases fl
   ·rw [upd_ne hb, c] at fl; cases fl
 ·by_cases hb : b = d
  ·subst hb
   rw [hd] at z
   cases z
   exact upd_same
  ·rw [upd_ne hb]
   exact kb S2 b o z hb
 ·rw [upd_ne (ne_of e2 e3 (fun z => nomatch z)), e2]
theorem comp_list {K : PySem.W.Frag} {js : List Nat} {tc : TT} {te to : TE} {σ : St} {H : Hp} {Q : VK} {l : Addr} {ts : List Addr} {ps : List (Int × Int)} (hto : ∀ R : VK, R (.ref l) H → to σ H R) (hl : H l = some (.lst (ts.map V.ref))) (ht : Tups H ts ps) (hz : ps.length ≤ 1000) (p : Int × Int → Bool) (g : Int × Int → V)
  (hc : ∀ x ∈ ps, ∀ H2 (R : Bool → Hp → Prop), Same H H2 → (∀ H3, Same H2 H3 → R (p x) H3) → tc (blkSt2 js σ (some (.int x.1)) (some (.int x.2))) H2 R)
  (he : ∀ x ∈ ps, p x = true → ∀ H2 (R : VK), Same H H2 → (∀ H3, Same H2 H3 → R (g x) H3) → te (blkSt2 js σ (some (.int x.1)) (some (.int x.2))) H2 R)
  (q : ∀ d H', H d = none → Same H H' → H' d = some (.lst ((ps.filter p).map g)) → Q (.ref d) H') : tComp2 K js (iList K to) tc te σ H Q :=
 hto _ ⟨l, rfl, ⟨_, SqL.of hl⟩, fun D hD => comp2_pure (K := K) (js := js) (tc := tc) (te := te) (σ := σ) (Q := Q) ps p g (it_prs hl ht) hc he (by omega) q D hD⟩
theorem bt_sorted : bootBuiltins "sorted" = some (.builtin "sorted") := by decide +kernel
theorem kT_val (ns : List Int) (p : Int) : (valV (kT ns) (Sum.inl p)).isSome = decide (p ∈ ns) := by
 induction ns with
 | nil => rfl
 | cons n ns ih =>
  by_cases e : n = p
  ·subst e
   rw [show kT (n :: ns) = (Sum.inl n, V.bl true) :: kT ns from rfl, valV_pos rfl, decide_eq_true (List.mem_cons_self ..)]
   rfl
  ·rw [show kT (n :: ns) = (Sum.inl n, V.bl true) :: kT ns from rfl, valV_neg (fun z => e (Sum.inl.inj z)), ih]
   exact decide_eq_decide.mpr ⟨fun h => List.mem_cons_of_mem _ h, fun h => (List.mem_cons.mp h).resolve_left fun z => e z.symm⟩
theorem kL_val (ps : List (Int × Int)) (p : Int) : (valV (kL ps) (Sum.inl p)).isSome = decide (p ∈ ps.map (·.1)) := by
 induction ps with
 | nil => rfl
 | cons n ns ih =>
  by_cases e : n.1 = p
  ·subst e
   rw [show kL (n :: ns) = (Sum.inl n.1, V.int n.2) :: kL ns from rfl, valV_pos rfl, decide_eq_true (by simp)]
   rfl
  ·rw [show kL (n :: ns) = (Sum.inl n.1, V.int n.2) :: kL ns from rfl, valV_neg (fun z => e (Sum.inl.inj z)), ih]
   exact decide_eq_decide.mpr ⟨fun h => List.mem_cons_of_mem _ h, fun h => (List.mem_cons.mp h).resolve_left fun z => e z.symm⟩
theorem kT_some {ns : List Int} {p : Int} (h : p ∈ ns) : ∃ v, valV (kT ns) (Sum.inl p) = some v := by
 have := kT_val ns p
 rw [decide_eq_true h] at this
 exact Option.isSome_iff_exists.mp this
theorem kL_some {ps : List (Int × Int)} {p : Int} (h : p ∈ ps.map (·.1)) : ∃ v, valV (kL ps) (Sum.inl p) = some v := by
 have := kL_val ps p
 rw [decide_eq_true h] at this
 exact Option.isSome_iff_exists.mp this
theorem kT_none {ns : List Int} {p : Int} (h : p ∉ ns) : valV (kT ns) (Sum.inl p) = none := by
 have := kT_val ns p
 rw [decide_eq_false h] at this
 cases c : valV (kT ns) (Sum.inl p) with
 | none => rfl
 | some v => rw [c] at this; cases this
theorem kL_none {ps : List (Int × Int)} {p : Int} (h : p ∉ ps.map (·.1)) : valV (kL ps) (Sum.inl p) = none := by
 have := kL_val ps p
 rw [decide_eq_false h] at this
 cases c : valV (kL ps) (Sum.inl p) with
 | none => rfl
 | some v => rw [c] at this; cases this
theorem kT_put {ns : List Int} {p : Int} (h : p ∉ ns) : putK (kT ns) (Sum.inl p) (V.bl true) = kT (ns ++ [p]) := by
 rw [putK_new _ (kT_none h)]
 unfold kT
 rw [List.map_append]
 rfl
theorem kL_put {ps : List (Int × Int)} {p l : Int} (h : p ∉ ps.map (·.1)) : putK (kL ps) (Sum.inl p) (V.int l) = kL (ps ++ [(p, l)]) := by
 rw [putK_new _ (kL_none h)]
 unfold kL
 rw [List.map_append]
 rfl
theorem kT_drop (ns : List Int) (p : Int) : dropK (kT ns) (Sum.inl p) = kT (ns.filter fun n => decide (n ≠ p)) := by
 unfold dropK kT
 rw [List.filter_map]
 congr 1
 refine List.filter_congr fun n _ => decide_eq_decide.mpr ⟨fun h z => h (congrArg Sum.inl z), fun h z => h (Sum.inl.inj z)⟩
theorem kL_drop (ps : List (Int × Int)) (p : Int) : dropK (kL ps) (Sum.inl p) = kL (ps.filter fun x => decide (x.1 ≠ p)) := by
 unfold dropK kL
 rw [List.filter_map]
 congr 1
 refine List.filter_congr fun n _ => decide_eq_decide.mpr ⟨fun h z => h (congrArg Sum.inl z), fun h z => h (Sum.inl.inj z)⟩
theorem kT_keys (ns : List Int) : (kT ns).map (·.1) = ns.map Sum.inl := by unfold kT; rw [List.map_map]; rfl
def MtOk (P : Program) (w : World) (K : PySem.W.Frag) (mg : Str → Option Value) (base : Heap) (CX : CXT) (C : Addr) (nm : Str) (ps : List Str) (k : Nat) (sp : Sp) : Prop :=
 ∃ f fd, Meth K C nm f ∧ Binds K fd ps [] ∧ FnOk P w K mg base CX k f fd ps sp
structure RS where
 lap : Int
 us : List Int
 ks : List (Int × Int)
 fs : List Int
 cs : List (Int × Int)
def RS.places (S : RS) : List Int := S.us ++ S.ks.map (·.1) ++ S.fs
def pastL (cs : List (Int × Int)) (l : Int) : Bool := cs.all fun c => decide (l < c.2)
def RS.rel (S : RS) : RS := { S with ks := S.ks.filter (fun k => !pastL S.cs k.2), fs := S.fs ++ (S.ks.filter fun k => pastL S.cs k.2).map (·.1) }
def RS.gone (S : RS) (p : Int) : RS := { S with us := S.us.filter (fun n => decide (n ≠ p)), ks := S.ks ++ [(p, S.lap)], lap := S.lap + 1 }
def RS.left (S : RS) (n : Int) : RS := { S with cs := S.cs.filter fun c => decide (c.1 ≠ n) }
def RS.come (S : RS) (n : Int) : RS := { S with cs := S.cs ++ [(n, S.lap)] }
def RS.take (S : RS) (p : Int) : RS := { S with us := S.us ++ [p], fs := S.fs.filter fun n => decide (n ≠ p) }
structure RS.Ok (S : RS) : Prop where
 nd : S.places.Nodup
 rg : ∀ p ∈ S.places, 0 ≤ p ∧ p < (S.places.length : Nat)
 cn : (S.cs.map (·.1)).Nodup
 cr : ∀ c ∈ S.cs, 0 ≤ c.1 ∧ c.1 ≤ 1000000
theorem perm_filter {α : Type} (f : α → Bool) : ∀ l : List α, (l.filter f ++ l.filter fun x => !f x).Perm l
 | [] => .refl _
 | x :: l => by
  have ih := perm_filter f l
  cases c : f x with
  | true => rw [List.filter_cons_of_pos c, List.filter_cons_of_neg (by rw [c]; decide)]; exact ih.cons x
  | false =>
   rw [List.filter_cons_of_neg (by rw [c]; decide), List.filter_cons_of_pos (by rw [c]; rfl)]
   exact List.perm_middle.trans (ih.cons x)
theorem filter_out {p : Int} : ∀ {l : List Int}, l.Nodup → p ∈ l → (p :: l.filter fun n => decide (n ≠ p)).Perm l
 | x :: l, nd, h => by
  obtain ⟨n1, n2⟩ := List.nodup_cons.mp nd
  by_cases e : x = p
  ·subst e
   have fs : l.filter (fun n => decide (n ≠ x)) = l := List.filter_eq_self.mpr fun y hy => decide_eq_true (show y ≠ x from fun z => n1 (by rw [← z]; exact hy))
   rw [List.filter_cons_of_neg (by simp), fs]
  ·rw [List.filter_cons_of_pos (by simpa using e)]
   have hm : p ∈ l := (List.mem_cons.mp h).resolve_left fun z => e z.symm
   exact (List.Perm.swap ..).trans ((filter_out n2 hm).cons x)
theorem RS.Ok.of {S S' : RS} (o : S.Ok) (p : S'.places.Perm S.places) (c : S'.cs = S.cs) : S'.Ok := ⟨p.nodup_iff.mpr o.nd, fun q hq => by rw [p.length_eq]; exact o.rg q (p.mem_iff.mp hq), by rw [c]; exact o.cn, by rw [c]; exact o.cr⟩
theorem RS.rel_perm (S : RS) : S.rel.places.Perm S.places := by
 unfold RS.places RS.rel
 dsimp only
 have h1 : ((S.ks.filter fun k => pastL S.cs k.2).map (·.1) ++ (S.ks.filter fun k => !pastL S.cs k.2).map (·.1)).Perm (S.ks.map (·.1)) := by
  rw [← List.map_append]
  exact (perm_filter (fun k : Int × Int => pastL S.cs k.2) S.ks).map _
 have h2 : ((S.ks.filter fun k => !pastL S.cs k.2).map (·.1) ++ (S.fs ++ (S.ks.filter fun k => pastL S.cs k.2).map (·.1))).Perm (S.ks.map (·.1) ++ S.fs) := by
  rw [← List.append_assoc]
  refine List.perm_append_comm.trans ?_
  rw [← List.append_assoc]
  exact h1.append_right _
 rw [List.append_assoc, List.append_assoc]
 exact h2.append_left _
theorem RS.Ok.rel {S : RS} (o : S.Ok) : S.rel.Ok := o.of S.rel_perm rfl
theorem RS.gone_perm {S : RS} (o : S.Ok) {p : Int} (h : p ∈ S.us) : (S.gone p).places.Perm S.places := by
 have nu : S.us.Nodup := by
  have := o.nd
  unfold RS.places at this
  rw [List.append_assoc] at this
  exact (List.nodup_append.mp this).1
 have f := filter_out nu h
 unfold RS.places RS.gone
 dsimp only
 rw [List.map_append]
 show ((S.us.filter fun n => decide (n ≠ p)) ++ (S.ks.map (·.1) ++ [p]) ++ S.fs).Perm _
 refine List.Perm.append_right _ ?_
 rw [← List.append_assoc]
 refine List.perm_append_comm.trans ?_
 show (p :: ((S.us.filter fun n => decide (n ≠ p)) ++ S.ks.map (·.1))).Perm _
 exact f.append_right _
theorem RS.Ok.gone {S : RS} (o : S.Ok) {p : Int} (h : p ∈ S.us) : (S.gone p).Ok := o.of (RS.gone_perm o h) rfl
theorem RS.Ok.left {S : RS} (o : S.Ok) (n : Int) : (S.left n).Ok := ⟨o.nd, o.rg, o.cn.sublist (List.Sublist.map _ List.filter_sublist), fun c hc => o.cr c (List.mem_filter.mp hc).1⟩
theorem RS.Ok.come {S : RS} (o : S.Ok) {n : Int} (h0 : 0 ≤ n) (h1 : n ≤ 1000000) (hn : n ∉ S.cs.map (·.1)) : (S.come n).Ok := by
 refine ⟨o.nd, o.rg, ?_, fun c hc => ?_⟩
 ·show ((S.cs ++ [(n, S.lap)]).map (·.1)).Nodup
  rw [List.map_append, List.nodup_append]
  exact ⟨o.cn, by simp, fun a ha b hb e => hn (by have e2 : b = n := List.mem_singleton.mp hb; rw [← e2, ← e]; exact ha)⟩
 ·rcases List.mem_append.mp hc with h | h
  ·exact o.cr c h
  ·rw [List.mem_singleton.mp h]; exact ⟨h0, h1⟩
theorem RS.Ok.fsn {S : RS} (o : S.Ok) : S.fs.Nodup := (List.nodup_append.mp o.nd).2.1
theorem RS.Ok.take {S : RS} (o : S.Ok) {p : Int} (h : p ∈ S.fs) : (S.take p).Ok := by
 refine o.of ?_ rfl
 have f := filter_out o.fsn h
 unfold RS.places RS.take
 dsimp only
 have : (S.us ++ [p] ++ S.ks.map (·.1) ++ (S.fs.filter fun n => decide (n ≠ p))).Perm (S.us ++ S.ks.map (·.1) ++ (p :: S.fs.filter fun n => decide (n ≠ p))) := by
  rw [List.append_assoc, List.append_assoc, List.append_assoc]
  refine List.Perm.append_left _ ?_
  show (p :: (S.ks.map (·.1) ++ _)).Perm _
  exact (List.perm_middle (a := p)).symm
 exact this.trans (f.append_left _)
theorem RS.Ok.new {S : RS} (o : S.Ok) (h : S.fs = []) : (S.take (S.places.length : Nat)).Ok := by
 have ep : (S.take (S.places.length : Nat)).places.Perm (((S.places.length : Nat) : Int) :: S.places) := by
  unfold RS.places RS.take
  dsimp only
  rw [h, List.filter_nil, List.append_nil, List.append_nil, List.append_assoc]
  exact List.perm_middle
 refine ⟨ep.nodup_iff.mpr (List.nodup_cons.mpr ⟨fun hm => ?_, o.nd⟩), fun q hq => ?_, o.cn, o.cr⟩
 ·have := (o.rg _ hm).2
  omega
 ·rw [ep.length_eq, List.length_cons]
  rcases List.mem_cons.mp (ep.mem_iff.mp hq) with e | e
  ·rw [e]; omega
  ·have := o.rg q e
   omega
def Keep (l : List Addr) (H H' : Hp) : Prop := ∀ b o, H b = some o → b ∉ l → H' b = some o
theorem Keep.refl {l : List Addr} {H : Hp} : Keep l H H := fun _ _ h _ => h
theorem Keep.trans {l : List Addr} {H H1 H2 : Hp} (a : Keep l H H1) (b : Keep l H1 H2) : Keep l H H2 := fun c o h n => b c o (a c o h n) n
theorem Keep.mono {l m : List Addr} {H H' : Hp} (a : Keep l H H') (h : ∀ x ∈ l, x ∈ m) : Keep m H H' := fun c o e n => a c o e fun z => n (h c z)
theorem Same.keep {l : List Addr} {H H' : Hp} (a : Same H H') : Keep l H H' := fun b o h _ => a b o h
theorem Keep.upd {l : List Addr} {H H' : Hp} {q : Addr} {o : HO} (a : Keep l H H') (h : q ∈ l) : Keep l H (L2.upd H' q o) := fun b u e n => by rw [upd_ne (fun (z : b = q) => n (by rw [z]; exact h))]; exact a b u e n
theorem Keep.updN {l : List Addr} {H H' : Hp} {q : Addr} {o : HO} (a : Keep l H H') (h : H' q = none) : Keep l H (L2.upd H' q o) := fun b u e n => by rw [upd_ne (ne_of_none (a b u e n) h)]; exact a b u e n
structure IsR (C x dx du dk df dc : Addr) (H : Hp) (S : RS) : Prop where
 x : H x = some (.ins C dx [("in_use", .ref du), ("kept_laps", .ref dk), ("free_ones", .ref df), ("call_laps", .ref dc), ("lap_now", .int S.lap)])
 u : H du = some (.dK (kT S.us))
 k : H dk = some (.dK (kL S.ks))
 f : H df = some (.dK (kT S.fs))
 c : H dc = some (.dK (kL S.cs))
 nd : [du, dk, df, dc].Nodup
theorem IsR.same {C x dx du dk df dc : Addr} {H H' : Hp} {S : RS} (r : IsR C x dx du dk df dc H S) (s : Same H H') : IsR C x dx du dk df dc H' S := ⟨s _ _ r.x, s _ _ r.u, s _ _ r.k, s _ _ r.f, s _ _ r.c, r.nd⟩
theorem IsR.keep {C x dx du dk df dc : Addr} {H H' : Hp} {S : RS} {l : List Addr} (r : IsR C x dx du dk df dc H S) (s : Keep l H H') (n : ∀ b ∈ [x, du, dk, df, dc], b ∉ l) : IsR C x dx du dk df dc H' S :=
 ⟨s _ _ r.x (n _ (by simp)), s _ _ r.u (n _ (by simp)), s _ _ r.k (n _ (by simp)), s _ _ r.f (n _ (by simp)), s _ _ r.c (n _ (by simp)), r.nd⟩
def RS.moved (S : RS) : List Int := (S.ks.filter fun k => pastL S.cs k.2).map (·.1)
theorem RS.Ok.ksn {S : RS} (o : S.Ok) : (S.ks.map (·.1)).Nodup := by
 have := o.nd
 unfold RS.places at this
 rw [List.append_assoc] at this
 exact (List.nodup_append.mp (List.nodup_append.mp this).2.1).1
theorem RS.Ok.kf {S : RS} (o : S.Ok) {p : Int} (h : p ∈ S.ks.map (·.1)) : p ∉ S.fs := fun hf => by
 have := (List.nodup_append.mp o.nd).2.2 p (List.mem_append_right _ h) p hf
 exact this rfl
theorem RS.Ok.uk {S : RS} (o : S.Ok) {p : Int} (h : p ∈ S.us) : p ∉ S.ks.map (·.1) := fun hk => by
 have := o.nd
 unfold RS.places at this
 rw [List.append_assoc] at this
 exact (List.nodup_append.mp this).2.2 p h p (List.mem_append_left _ hk) rfl
theorem RS.Ok.uf {S : RS} (o : S.Ok) {p : Int} (h : p ∈ S.us) : p ∉ S.fs := fun hk => by
 have := o.nd
 unfold RS.places at this
 rw [List.append_assoc] at this
 exact (List.nodup_append.mp this).2.2 p h p (List.mem_append_right _ hk) rfl
theorem RS.moved_sub (S : RS) {p : Int} (h : p ∈ S.moved) : p ∈ S.ks.map (·.1) := by
 unfold RS.moved at h
 obtain ⟨k, hk, rfl⟩ := List.mem_map.mp h
 exact List.mem_map.mpr ⟨k, (List.mem_filter.mp hk).1, rfl⟩
theorem RS.Ok.mvn {S : RS} (o : S.Ok) : S.moved.Nodup := o.ksn.sublist (List.Sublist.map _ List.filter_sublist)
theorem fst_inj {ks : List (Int × Int)} (nd : (ks.map (·.1)).Nodup) {a b : Int × Int} (ha : a ∈ ks) (hb : b ∈ ks) (e : a.1 = b.1) : a = b := by
 induction ks with
 | nil => cases ha
 | cons x xs ih =>
  rw [List.map_cons] at nd
  obtain ⟨n1, n2⟩ := List.nodup_cons.mp nd
  rcases List.mem_cons.mp ha with rfl | ha'
  ·rcases List.mem_cons.mp hb with rfl | hb'
   ·rfl
   ·exact absurd (List.mem_map.mpr ⟨b, hb', e.symm⟩) n1
  ·rcases List.mem_cons.mp hb with rfl | hb'
   ·exact absurd (List.mem_map.mpr ⟨a, ha', e⟩) n1
   ·exact ih n2 ha' hb'
theorem RS.Ok.stay {S : RS} (o : S.Ok) : (S.ks.filter fun k => decide (k.1 ∉ S.moved)) = S.ks.filter fun k => !pastL S.cs k.2 := by
 refine List.filter_congr fun k hk => ?_
 cases c : pastL S.cs k.2 with
 | true =>
  have : k.1 ∈ S.moved := List.mem_map.mpr ⟨k, List.mem_filter.mpr ⟨hk, c⟩, rfl⟩
  rw [decide_eq_false (fun z => z this)]
  rfl
 | false =>
  rw [decide_eq_true]
  ·rfl
  ·intro hm
   obtain ⟨k', hk', e⟩ := List.mem_map.mp hm
   obtain ⟨h1, h2⟩ := List.mem_filter.mp hk'
   rw [fst_inj o.ksn h1 hk e, c] at h2
   cases h2
theorem filter_take {ks : List (Int × Int)} {ms : List Int} {i : Nat} {m : Int} (h : ms[i]? = some m) : ((ks.filter fun k => decide (k.1 ∉ ms.take i)).filter fun k => decide (k.1 ≠ m)) = ks.filter fun k => decide (k.1 ∉ ms.take (i + 1)) := by
 rw [List.filter_filter]
 refine List.filter_congr fun k _ => ?_
 rw [List.take_add_one, h]
 by_cases h1 : k.1 = m
 ·have hm : k.1 ∈ ms.take i ++ [m] := List.mem_append_right _ (List.mem_singleton.mpr h1)
  rw [decide_eq_false (fun z => z h1), Bool.false_and]
  exact (decide_eq_false fun z => z hm).symm
 ·rw [decide_eq_true (show k.1 ≠ m from h1), Bool.true_and]
  refine decide_eq_decide.mpr ⟨fun z hm => ?_, fun z hm => z (List.mem_append_left _ hm)⟩
  rcases List.mem_append.mp hm with q | q
  ·exact z q
  ·exact h1 (List.mem_singleton.mp q)
theorem not_take {ms : List Int} (nd : ms.Nodup) {i : Nat} {m : Int} (h : ms[i]? = some m) : m ∉ ms.take i := fun hm => by
 obtain ⟨hi, e⟩ := List.getElem?_eq_some_iff.mp h
 obtain ⟨j, hj, ej⟩ := List.getElem_of_mem hm
 rw [List.length_take] at hj
 rw [List.getElem_take] at ej
 have := (List.getElem_inj nd).mp (ej.trans e.symm)
 omega
theorem putK_set {kvs : List (Key × V)} {k : Key} {v : V} : ∀ {j : Nat}, (kvs.map (·.1)).Nodup → (kvs.map (·.1))[j]? = some k → putK kvs k v = kvs.set j (k, v) := by
 intro j nd h
 have any : (kvs.any fun kv => decide (kv.1 = k)) = true := by
  rw [List.any_eq_true]
  obtain ⟨x, hx, e⟩ := List.mem_map.mp (List.mem_of_getElem? h)
  exact ⟨x, hx, decide_eq_true e⟩
 unfold putK
 rw [if_pos any]
 clear any
 induction kvs generalizing j with
 | nil => cases h
 | cons x xs ih =>
  rw [List.map_cons] at nd h
  obtain ⟨n1, n2⟩ := List.nodup_cons.mp nd
  cases j with
  | zero =>
   have e : x.1 = k := Option.some.inj h
   rw [List.map_cons, if_pos e, List.set_cons_zero, e]
   congr 1
   have : ∀ y ∈ xs, (if y.1 = k then (y.1, v) else y) = y := fun y hy => if_neg fun z => n1 (List.mem_map.mpr ⟨y, hy, by rw [z, e]⟩)
   exact (List.map_congr_left this).trans (List.map_id' xs)
  | succ j =>
   have h' : (xs.map (·.1))[j]? = some k := h
   have ne : ¬ x.1 = k := fun z => n1 (by rw [z]; exact List.mem_of_getElem? h')
   rw [List.map_cons, if_neg ne, List.set_cons_succ, ih n2 h']
theorem valV_get {kvs : List (Key × V)} {k : Key} {v : V} : ∀ {j : Nat}, (kvs.map (·.1)).Nodup → kvs[j]? = some (k, v) → valV kvs k = some v := by
 induction kvs with
 | nil => intro j _ h; cases h
 | cons x xs ih =>
  intro j nd h
  rw [List.map_cons] at nd
  obtain ⟨n1, n2⟩ := List.nodup_cons.mp nd
  cases j with
  | zero =>
   have e : x = (k, v) := Option.some.inj h
   subst e
   exact valV_pos rfl
  | succ j =>
   have h' : xs[j]? = some (k, v) := h
   rw [valV_neg (fun z => n1 (List.mem_map.mpr ⟨(k, v), List.mem_of_getElem? h', z.symm⟩))]
   exact ih n2 h'
theorem Tups.mem {H : Hp} {ts : List Addr} {ps : List (Int × Int)} (h : Tups H ts ps) {t : Addr} (ht : t ∈ ts) : ∃ x ∈ ps, H t = some (.tup [.int x.1, .int x.2]) := by
 obtain ⟨j, hj, rfl⟩ := List.getElem_of_mem ht
 have hp : j < ps.length := by rw [← h.1]; exact hj
 exact ⟨ps[j], List.getElem_mem hp, h.2 j _ _ (List.getElem?_eq_getElem hj) (List.getElem?_eq_getElem hp)⟩
theorem Tups.snoc {H : Hp} {ts : List Addr} {ps : List (Int × Int)} {t : Addr} {x : Int × Int} (h : Tups H ts ps) (e : H t = some (.tup [.int x.1, .int x.2])) : Tups H (ts ++ [t]) (ps ++ [x]) := by
 refine ⟨by rw [List.length_append, List.length_append, h.1]; rfl, fun j u y a b => ?_⟩
 by_cases hj : j < ts.length
 ·rw [List.getElem?_append_left hj] at a
  rw [List.getElem?_append_left (by rw [← h.1]; exact hj)] at b
  exact h.2 j u y a b
 ·rw [List.getElem?_append_right (by omega)] at a
  rw [List.getElem?_append_right (by rw [← h.1]; omega), ← h.1] at b
  cases c : j - ts.length with
  | zero =>
   rw [c] at a b
   cases Option.some.inj a
   cases Option.some.inj b
   exact e
  | succ n => rw [c] at a; cases a
end L2
namespace L2
open PySem PySem.Spec PyProof PyProof.Rows
def KMethP (CP : Addr → Prop) (m : Str) (sp : Sp) (dvs : List V) (E : XK) (Q : VK) (x : V) (H : Hp) : Prop := ∃ a C dx fs, x = .ref a ∧ CP C ∧ H a = some (.ins C dx fs) ∧ fs.lookup m = none ∧ sp (x :: ([] ++ dvs)) H Q E
def tMethP (CP : Addr → Prop) (m : Str) (sp : Sp) (dvs : List V) (E : XK) (ta : TE) : TE := fun σ H Q => ta σ H (KMethP CP m sp dvs E Q)
section
variable {X : Cx} {CX : CXT} {k : Nat} {f C : Addr} {fd : FuncData} {ps : List Str} {ds : List Value} {dvs : List V} {sp : Sp} {E : XK} {m : Str} {pos apos : Pos} {o : Expr} {ta : TE} {CP : Addr → Prop}
theorem pe_methP0 {pl : Sem Bool} (he : PE X o ta) (hm : ∀ C, CP C → Cls X.K C ∧ Meth X.K C m f) (F : FnOk X.prog X.w X.K X.mg X.base CX k f fd ps sp) (hr : Room k X.A) (hb : Binds X.K fd ps ds) (hd : Vals dvs ds) (hx : Passes CX X E)
  (ht : eval (.Call (.Attribute o m apos) [] [] pos) X.env = (do
   let ov ← eval o X.env
   standAt apos.atName
   let (f, first) ← holding [ov] (getMethod ov m pl)
   callWith pos f first (backTo pos (starEach [] X.env)) (backToKw pos (keywordEach [] X.env))) := by rfl) :
  PE X (.Call (.Attribute o m apos) [] [] pos) (tMethP CP m sp dvs E ta) := by
 intro pins s σ H Q I h
 refine PySem.W.methodCall_KW (pl := pl) (thn (he pins s σ H _ I h) fun u s1 ⟨x, H1, I1, rx, a, C, dx, fs, ex, hC, ea, l, q⟩ => ?_) ht
 cases ex
 cases rx
 exact getmeth_ok I1 ea (hm C hC).1 (hm C hC).2 l (PySem.W.callWith_K0 (first := [.ref a]) I1.kIn (hm C hC).2.kp (run_fn (us := [.ref a]) (vs := [.ref a]) F hr hb hd hx I1 (.cons rfl .nil) q))
end
section
variable {σ : St} {H : Hp} {Q : VK} {ta : TE} {CP : Addr → Prop} {m : Str} {sp : Sp} {dvs : List V} {E : XK}
theorem r_methP (h : ta σ H (KMethP CP m sp dvs E Q)) : tMethP CP m sp dvs E ta σ H Q := h
theorem k_methP {a C dx : Addr} {fs : List (Str × V)} (h : H a = some (.ins C dx fs)) (c : CP C) (l : fs.lookup m = none) (q : sp (.ref a :: ([] ++ dvs)) H Q E) : KMethP CP m sp dvs E Q (.ref a) H := ⟨a, C, dx, fs, rfl, c, h, l, q⟩
end
theorem iteNF {A B : Prop} (h : B) : if (!true) = true then A else B := iteF h
theorem iteNT {A B : Prop} (h : A) : if (!false) = true then A else B := iteT h
theorem Keep.free {l : List Addr} {H H' : Hp} {d : Addr} (k : Keep l H H') (h : H' d = none) (n : d ∉ l) : H d = none := by
 cases c : H d with
 | none => rfl
 | some o => rw [k d o c n] at h; cases h
theorem bt_dict : bootBuiltins "dict" = some (.type "dict") := by decide +kernel
theorem new_ins {H : Hp} {y dy b : Addr} {o o1 o2 : HO} (f1 : H y = none) (f2 : H dy = none) (e : H b = some o) : upd (upd H dy o1) y o2 b = some o := by
 rw [upd_ne (ne_of_none e f1)]
 exact un_f f2 e
def oV : Option Int → V | none => .non | some i => .int i
end L2
namespace L2
open PySem
theorem Chg.addS {h H H1 : Hp} {y : Addr} {o : HO} (s : Same h H) (S : Same H H1) (f : H y = none) (e : H1 y = some o) : Chg h (upd h y o) H H1 := ⟨fun b x z => by
  by_cases c : b = y
  ·rw [c, upd_same] at z; rw [c, e]; exact z
  ·rw [upd_ne c] at z; exact S _ _ (s _ _ z), fun b x z _ => S _ _ z, fun b => by
 by_cases c : b = y
 ·rw [c]; exact .inr (.inr f)
 ·rw [upd_ne c]; exact (Chg.refl s).nw b, fun b x z _ => S _ _ z⟩
theorem Chg.ext {h h1 H H' : Hp} {y : Addr} {o : HO} (c : Chg h h1 H H') (f : H y = none) (e : H' y = some o) : Chg h (upd h1 y o) H H' := ⟨fun b x z => by
  by_cases d : b = y
  ·rw [d, upd_same] at z; rw [d, e]; exact z
  ·rw [upd_ne d] at z; exact c.sm _ _ z, c.fr, fun b => by
 by_cases d : b = y
 ·rw [d]; exact .inr (.inr f)
 ·rw [upd_ne d]; exact c.nw b, c.fz⟩
theorem iteD {p : Prop} [Decidable p] {A B : Prop} (c : p) (h : A) : if decide p = true then A else B := by rw [decide_eq_true c]; exact iteT h
theorem iteX {p : Prop} [Decidable p] {A B : Prop} (c : ¬ p) (h : B) : if decide p = true then A else B := by rw [decide_eq_false c]; exact iteF h
theorem iteNX {p : Prop} [Decidable p] {A B : Prop} (c : ¬ p) (h : A) : if (!decide p) = true then A else B := by rw [decide_eq_false c]; exact iteT h
def KDAug (tv : TE) (rd : V → V → Hp → VK → Prop) (n : St → Hp → Prop) (σ : St) (x y : V) (H : Hp) : Prop := ∃ a v, x = .ref a ∧ DGet H a y (some v) ∧ tv σ H fun y2 H3 => rd v y2 H3 fun z H4 => ∃ H5, DPut H4 a y z H5 ∧ n σ H5
theorem s_daug {td ty tv : TE} {rd : V → V → Hp → VK → Prop} {n bk ct : St → Hp → Prop} {rt : VK} {σ : St} {H : Hp} (h : td σ H fun x H1 => ty σ H1 fun y H2 => KDAug tv rd n σ x y H2) : sDAug td ty tv rd ⟨n, rt, bk, ct⟩ σ H := h
theorem k_daug {n : St → Hp → Prop} {σ : St} {H : Hp} {a : Addr} {kvs : List (Key × V)} {k : Key} {i j : Int} (h : H a = some (.dK kvs)) (e : valV kvs k = some (.int i)) (l : kvs.length < sizeLine) (q : n σ (upd H a (.dK (putK kvs k (.int (i + j)))))) : KDAug (tC (.int j)) rAdd n σ (.ref a) (kV k) H :=
 ⟨a, .int i, rfl, e ▸ DGet.k (k := k) h, i, j, rfl, rfl, _, DPut.k h l, q⟩
def KDSet (a : Addr) (y z : V) (Q : VK) (H : Hp) : Prop := ∃ kvs k, H a = some (.dK kvs) ∧ y = kV k ∧ kvs.length < sizeLine ∧ (∀ v, valV kvs k = some v → Q v H) ∧ (valV kvs k = none → Q z (upd H a (.dK (putK kvs k z))))
def KDS (ty tx : TE) (σ : St) (Q : VK) (x : V) (H : Hp) : Prop := ∃ a, x = .ref a ∧ IsD H a ∧ ty σ H fun y H2 => tx σ H2 fun z H3 => KDSet a y z Q H3
theorem r_dset {td ty tx : TE} {σ : St} {H : Hp} {Q : VK} (h : td σ H (KDS ty tx σ Q)) : tDSet td ty tx σ H Q := h
theorem k_ds {ty tx : TE} {σ : St} {H : Hp} {Q : VK} {a : Addr} {kvs : List (Key × V)} (h : H a = some (.dK kvs)) (q : ty σ H fun y H2 => tx σ H2 fun z H3 => KDSet a y z Q H3) : KDS ty tx σ Q (.ref a) H := ⟨a, rfl, .inl ⟨_, .inl h⟩, q⟩
theorem k_dset {H : Hp} {Q : VK} {a : Addr} {z : V} {kvs : List (Key × V)} {k : Key} (h : H a = some (.dK kvs)) (l : kvs.length < sizeLine) (q1 : ∀ v, valV kvs k = some v → Q v H) (q2 : valV kvs k = none → Q z (upd H a (.dK (putK kvs k z)))) : KDSet a (kV k) z Q H := ⟨kvs, k, h, rfl, l, q1, q2⟩
def rsL (l : List Addr) (H : Hp) : Hp := fun b => if b ∈ l then H b else none
theorem rsL_at {l : List Addr} {H : Hp} {b : Addr} (h : b ∈ l) : rsL l H b = H b := if_pos h
theorem rsL_same {l : List Addr} {H : Hp} : Same (rsL l H) H := fun b o e => by
 unfold rsL at e
 by_cases c : b ∈ l
 ·rw [if_pos c] at e; exact e
 ·rw [if_neg c] at e; cases e
theorem rsL_in {l : List Addr} {H : Hp} {b : Addr} (h : rsL l H b ≠ none) : b ∈ l := by
 unfold rsL at h
 by_cases c : b ∈ l
 ·exact c
 ·rw [if_neg c] at h; exact absurd rfl h
theorem fr_keep {h H H' : Hp} {l : List Addr} (k : Keep l H H') (i : ∀ a ∈ l, h a ≠ none) : ∀ b o, H b = some o → h b = none → H' b = some o := fun b o e n => k b o e fun z => i b z n
theorem IsR.out {h : Hp} {C r dr du dk df dc d : Addr} {S : RS} {o : HO} (i : IsR C r dr du dk df dc h S) (n : d ∉ [r, du, dk, df, dc]) : IsR C r dr du dk df dc (upd h d o) S := by
 simp only [List.mem_cons, List.not_mem_nil, or_false, not_or] at n
 obtain ⟨n0, n1, n2, n3, n4⟩ := n
 exact ⟨by rw [upd_ne (Ne.symm n0)]; exact i.x, by rw [upd_ne (Ne.symm n1)]; exact i.u, by rw [upd_ne (Ne.symm n2)]; exact i.k, by rw [upd_ne (Ne.symm n3)]; exact i.f, by rw [upd_ne (Ne.symm n4)]; exact i.c, i.nd⟩
def pK {α : Type} (xs : List α) (f : α → V) : List (Key × V) := xs.mapIdx fun i x => (Sum.inl (i : Int), f x)
section
variable {α : Type} {xs : List α} {f : α → V}
theorem pK_len : (pK xs f).length = xs.length := by unfold pK; rw [List.length_mapIdx]
theorem pK_at {j : Nat} : (pK xs f)[j]? = (xs[j]?).map fun x => (Sum.inl (j : Int), f x) := by unfold pK; rw [List.getElem?_mapIdx]
theorem pK_key {j : Nat} : ((pK xs f).map (·.1))[j]? = (xs[j]?).map fun _ => Sum.inl (j : Int) := by rw [List.getElem?_map, pK_at, Option.map_map]; rfl
theorem pK_nd : ((pK xs f).map (·.1)).Nodup := by
 show List.Pairwise (· ≠ ·) _
 rw [List.pairwise_iff_getElem]
 intro i j hi hj hij z
 have a1 : ((pK xs f).map (·.1))[i]? = ((pK xs f).map (·.1))[j]? := by rw [List.getElem?_eq_getElem hi, List.getElem?_eq_getElem hj, z]
 rw [List.length_map, pK_len] at hi hj
 rw [pK_key, pK_key, List.getElem?_eq_getElem hi, List.getElem?_eq_getElem hj] at a1
 have := Sum.inl.inj (Option.some.inj a1)
 omega
theorem pK_val {j : Nat} {x : α} (h : xs[j]? = some x) : valV (pK xs f) (Sum.inl (j : Int)) = some (f x) := valV_get (j := j) pK_nd (by rw [pK_at, h]; rfl)
theorem pK_set {j : Nat} {x : α} (h : j < xs.length) : putK (pK xs f) (Sum.inl (j : Int)) (f x) = pK (xs.set j x) f := by
 rw [putK_set (j := j) pK_nd (by rw [pK_key, List.getElem?_eq_getElem h]; rfl)]
 refine List.ext_getElem? fun i => ?_
 rw [pK_at, List.getElem?_set, List.getElem?_set, pK_len, pK_at]
 by_cases c : j = i
 ·subst c
  rw [if_pos rfl, if_pos rfl, if_pos h, if_pos h]
  rfl
 ·rw [if_neg c, if_neg c]
theorem pK_no {j : Nat} (h : xs.length ≤ j) : valV (pK xs f) (Sum.inl (j : Int)) = none := by
 cases c : valV (pK xs f) (Sum.inl (j : Int)) with
 | none => rfl
 | some v =>
  obtain ⟨i, hi, e⟩ := List.getElem_of_mem (valV_in c)
  have hi' := hi
  rw [List.length_map, pK_len] at hi'
  have z : ((pK xs f).map (·.1))[i]? = some (Sum.inl (j : Int)) := by rw [List.getElem?_eq_getElem hi, e]
  rw [pK_key, List.getElem?_eq_getElem hi'] at z
  have := Sum.inl.inj (Option.some.inj z)
  omega
theorem pK_new {x : α} : putK (pK xs f) (Sum.inl (xs.length : Int)) (f x) = pK (xs ++ [x]) f := by
 rw [putK_new _ (pK_no (Nat.le_refl _))]
 unfold pK
 rw [List.mapIdx_append]
 simp
theorem pK_congr {xs ys : List α} (h : ∀ j : Nat, (xs[j]?).map f = (ys[j]?).map f) : pK xs f = pK ys f := by
 refine List.ext_getElem? fun i => ?_
 have := h i
 rw [pK_at, pK_at]
 cases a : xs[i]? with
 | none => cases b : ys[i]? with
  | none => rfl
  | some y => rw [a, b] at this; cases this
 | some x => cases b : ys[i]? with
  | none => rw [a, b] at this; cases this
  | some y =>
   rw [a, b] at this
   show some (_, f x) = some (_, f y)
   rw [Option.some.inj this]
end
def ForQ (J : It) (g : TG) (tb : TS) (D : Ends) (σ : St) (H : Hp) : Prop := tFor (fun _ H R => R J H) g tb D σ H
def KIL (K : PySem.W.Frag) (R : It → Hp → Prop) (x : V) (H : Hp) : Prop := ∃ a, x = .ref a ∧ (∃ xs, SqL K H a xs) ∧ R (Itl K a) H
def KR1 (R : It → Hp → Prop) (vs : List V) (H : Hp) : Prop := ∃ j : Int, vs = [.int j] ∧ -(2 ^ 62) ≤ j ∧ j < 2 ^ 62 ∧ R (Itr 0 j.toNat) H
def KR2 (R : It → Hp → Prop) (vs : List V) (H : Hp) : Prop := ∃ i j : Int, vs = [.int i, .int j] ∧ (-(2 ^ 62) ≤ i ∧ i < 2 ^ 62 ∧ -(2 ^ 62) ≤ j ∧ j < 2 ^ 62) ∧ R (Itr i (j - i).toNat) H
section
variable {K : PySem.W.Frag} {σ : St} {H : Hp} {wi : TI} {g : TG} {tb : TS} {D : Ends} {tl : TE} {ta : TA} {R : It → Hp → Prop} {n bk ct : St → Hp → Prop} {rt : VK}
theorem s_for (h : wi σ H fun J H1 => ForQ J g tb D σ H1) : tFor wi g tb D σ H := h
theorem r_il (h : tl σ H (KIL K R)) : iList K tl σ H R := h
theorem k_il {a : Addr} {xs : List V} (h : H a = some (.lst xs)) (q : R (Itl K a) H) : KIL K R (.ref a) H := ⟨a, rfl, ⟨xs, SqL.of h⟩, q⟩
theorem r_rng1 (h : ta σ H (KR1 R)) : iRng1 ta σ H R := h
theorem r_rng2 (h : ta σ H (KR2 R)) : iRng2 ta σ H R := h
theorem k_rng1 {j : Int} (h0 : 0 ≤ j) (h1 : j ≤ 1000000) (q : R (Itr 0 j.toNat) H) : KR1 R [.int j] H := ⟨j, rfl, by omega, by omega, q⟩
theorem k_rng2 {i j : Int} (h0 : 0 ≤ i) (h1 : i ≤ 1000000) (h2 : 0 ≤ j) (h3 : j ≤ 1000000) (q : R (Itr i (j - i).toNat) H) : KR2 R [.int i, .int j] H := ⟨i, j, rfl, ⟨by omega, by omega, by omega, by omega⟩, q⟩
theorem q_forL {a : Addr} {xs : List V} (Pv : Nat → St → Hp → Prop) (h0 : Pv 0 σ H) (hl : ∀ i σ H, i ≤ xs.length → Pv i σ H → H a = some (.lst xs))
  (hs : ∀ i x σ H, xs[i]? = some x → Pv i σ H → g x σ H fun σ2 H2 => tb ⟨Pv (i + 1), rt, n, Pv (i + 1)⟩ σ2 H2) (hd : ∀ σ H, Pv xs.length σ H → n σ H) : ForQ (Itl K a) g tb ⟨n, rt, bk, ct⟩ σ H :=
 for_list (K := K) (D := ⟨n, rt, bk, ct⟩) Pv h0 (fun i σ H a b => SqL.of (hl i σ H a b)) hs hd
theorem q_forR {lo : Int} {m : Nat} (Pv : Nat → St → Hp → Prop) (h0 : Pv 0 σ H)
  (hs : ∀ i σ H, i < m → Pv i σ H → g (.int (lo + i)) σ H fun σ2 H2 => tb ⟨Pv (i + 1), rt, n, Pv (i + 1)⟩ σ2 H2) (hd : ∀ σ H, Pv m σ H → n σ H) : ForQ (Itr lo m) g tb ⟨n, rt, bk, ct⟩ σ H :=
 for_range (D := ⟨n, rt, bk, ct⟩) Pv h0 hs hd
theorem s_join {t u : TS} (R : St → Hp → Prop) (mk : ∀ N : St → Hp → Prop, (∀ σ' H', R σ' H' → N σ' H') → t ⟨N, rt, bk, ct⟩ σ H) (q : ∀ σ' H', R σ' H' → u ⟨n, rt, bk, ct⟩ σ' H') : tSeq t u ⟨n, rt, bk, ct⟩ σ H := mk _ q
end
theorem k_dgetS {Q : VK} {H : Hp} {a : Addr} {v : V} {kvs : List (Key × V)} {s : Str} (h : H a = some (.dK kvs)) (e : valV kvs (Sum.inr s) = some v) (q : Q v H) : KDGet (.ref a) (.str s) Q H := k_dgetK (k := Sum.inr s) h e q
theorem k_dputS {n : St → Hp → Prop} {σ : St} {H : Hp} {a : Addr} {v : V} {kvs kvs' : List (Key × V)} {s : Str} (h : H a = some (.dK kvs)) (l : kvs.length < sizeLine) (e : putK kvs (Sum.inr s) v = kvs') (q : n σ (upd H a (.dK kvs'))) : KDPut v n σ (.ref a) (.str s) H := k_dputK (k := Sum.inr s) h l (e ▸ q)
theorem r_pcons {tk tv : TE} {r : List (TE × TE)} {σ : St} {H : Hp} {Q : List (V × V) → Hp → Prop} (h : tk σ H fun x H1 => tv σ H1 fun y H2 => tPairs r σ H2 fun ps H3 => Q ((x, y) :: ps) H3) : tPairs ((tk, tv) :: r) σ H Q := h
theorem r_pnil {σ : St} {H : Hp} {Q : List (V × V) → Hp → Prop} (h : Q [] H) : tPairs [] σ H Q := h
theorem r_cbk {rr : List V → List V → Hp → VK → Prop} {t tk : TA} {σ : St} {H : Hp} {Q : VK} (h : t σ H fun vs H1 => tk σ H1 fun zs H2 => rr vs zs H2 Q) : tCBK rr t tk σ H Q := h
theorem inV_ints {p : Int} {ns : List Int} : inV (.int p) (ns.map V.int) = decide (p ∈ ns) := by
 unfold inV
 rw [Bool.eq_iff_iff, List.any_eq_true, decide_eq_true_iff]
 constructor
 ·rintro ⟨v, hv, e⟩
  obtain ⟨z, hz, rfl⟩ := List.mem_map.mp hv
  have : z = p := by simpa [eqV] using e
  exact this ▸ hz
 ·intro h
  exact ⟨.int p, List.mem_map.mpr ⟨p, h, rfl⟩, by simp [eqV]⟩
theorem all_flat {ns : List Int} : (ns.map V.int).all flatV = true := by
 rw [List.all_eq_true]
 intro v hv
 obtain ⟨z, _, rfl⟩ := List.mem_map.mp hv
 rfl
def uH (g k : Hp) : Hp := fun b => match g b with | some o => some o | none => k b
section
variable {g g' k k' H H' : Hp} {b : Addr} {o : HO}
theorem uH_l (e : g b = some o) : uH g k b = some o := by unfold uH; rw [e]
theorem uH_r (n : g b = none) : uH g k b = k b := by unfold uH; rw [n]
theorem uH_none : uH g k b = none ↔ g b = none ∧ k b = none := by
 unfold uH
 cases g b with
 | none => exact ⟨fun h => ⟨rfl, h⟩, fun h => h.2⟩
 | some o => exact ⟨(fun h => nomatch h), fun h => nomatch h.1⟩
theorem uH_sl : Same g (uH g k) := fun b o e => uH_l e
theorem uH_sr (d : Dis g k) : Same k (uH g k) := fun b o e => by rw [uH_r ((d b).resolve_right fun z => by rw [e] at z; cases z)]; exact e
theorem uH_same (a : Same g H) (c : Same k H) : Same (uH g k) H := fun b o e => by
 cases q : g b with
 | some x => rw [uH_l q] at e; exact a _ _ (q.trans e)
 | none => rw [uH_r q] at e; exact c _ _ e
theorem Chg.uL (d : Dis g k) (sk : Same k H) (c : Chg g g' H H') : Chg (uH g k) (uH g' k) H H' := ⟨uH_same c.sm (c.keep d sk), fun b o e n => c.fr b o e (uH_none.mp n).1, fun b => by
 rcases c.nw b with z | z | z
 ·cases q : k b with
  | none => exact .inl (uH_none.mpr ⟨z, q⟩)
  | some o => exact .inr (.inl fun w => by rw [(uH_none.mp w).2] at q; cases q)
 ·exact .inr (.inl fun w => z (uH_none.mp w).1)
 ·exact .inr (.inr z), c.fz⟩
theorem Chg.uR (d : Dis g k) (sg : Same g H) (c : Chg k k' H H') : Chg (uH g k) (uH g k') H H' := ⟨uH_same (c.keep d.symm sg) c.sm, fun b o e n => c.fr b o e (uH_none.mp n).2, fun b => by
 rcases c.nw b with z | z | z
 ·cases q : g b with
  | none => exact .inl (uH_none.mpr ⟨q, z⟩)
  | some o => exact .inr (.inl fun w => by rw [(uH_none.mp w).1] at q; cases q)
 ·exact .inr (.inl fun w => z (uH_none.mp w).2)
 ·exact .inr (.inr z), c.fz⟩
end
theorem KB.get {H H' : Hp} {p b : Addr} {o : HO} (k : KB p H H') (e : H b = some o) (n : b ≠ p) : H' b = some o := k _ _ e n
theorem KB.same {h H H' : Hp} {p : Addr} (k : KB p H H') (s : Same h H) (n : h p = none) : Same h H' := fun b o e => k b o (s _ _ e) fun z => by rw [z, n] at e; cases e
end L2
namespace L2
open PySem PySem.Spec PyProof.Rows
section
variable {P : Program} {w : World} {K : PySem.W.Frag} {mg : Str → Option Value} {base : Heap} {x cn nm q : Str} {st : Stmt} {N ps : List Str} {k : Nat} {sp : Sp} {C : Addr}
def OkD (P : Program) (w : World) (K : PySem.W.Frag) (mg : Str → Option Value) (base : Heap) (x : Str) (st : Stmt) (ps : List Str) (k : Nat) (sp : Sp) : Prop :=
 ∃ f fd, Dn K mg x x st ps f fd ∧ FnOk P w K mg base CX0 k f fd ps sp
def DD (K : PySem.W.Frag) (mg : Str → Option Value) (x : Str) (st : Stmt) (ps : List Str) : Prop := ∃ f fd, Dn K mg x x st ps f fd
def MM (K : PySem.W.Frag) (mg : Str → Option Value) (cn nm q : Str) (st : Stmt) (ps : List Str) : Prop := ∃ C f fd, mg cn = some (.ref C) ∧ Meth K C nm f ∧ Fun K nm q st f fd ∧ Binds K fd ps []
abbrev Bod (P : Program) (w : World) (K : PySem.W.Frag) (mg : Str → Option Value) (base : Heap) (N ps : List Str) (q : Str) (st : Stmt) (k : Nat) (sp : Sp) : Prop :=
 ∀ {f : Addr} {cdv : Value} {A : Around} {outer : List Env} {s : Shared} {vs : List V} {E : XK}, FnScope N ps (defScope st) → ∀ (H : Hp) (Q : VK), Room k (A.deeper (envOfC q (defScope st) s.heap.objs.size f cdv)) → sp vs H Q E →
  ∃ t, PSs (cxOf CX0 P w K mg base N q (defScope st) f cdv A outer s H E).nox (defBody st) t ∧ t { nx := fun _ H' => Q .non H', rt := Q } (start N vs) H
theorem DD.ok (M : DD K mg x st ps) (h : Bod P w K mg base N ps x st k sp)
  (S : FnScope N ps (defScope st) := by exact ⟨rfl, rfl, rfl, by decide +kernel, rfl, by decide +kernel, by decide +kernel⟩) (len : ∀ vs H Q E, sp vs H Q E → vs.length = ps.length := by (intro _ _ _ _ h; repeat (first | (obtain ⟨h1, _⟩ := h; subst h1; rfl) | obtain ⟨_, h⟩ := h))) : OkD P w K mg base x st ps (k + 1) sp :=
 let ⟨f, fd, D⟩ := M; ⟨f, fd, D, D.fn.ok S len fun _ _ _ _ H _ Q _ => h S H Q⟩
theorem mg_eq {a b : Addr} (h : mg x = some (.ref a)) (h' : mg x = some (.ref b)) : a = b := Value.ref.inj (Option.some.inj (h.symm.trans h'))
theorem MM.ok (M : MM K mg cn nm q st ps) (hm : mg cn = some (.ref C)) (h : Bod P w K mg base N ps q st k sp)
  (S : FnScope N ps (defScope st) := by exact ⟨rfl, rfl, rfl, by decide +kernel, rfl, by decide +kernel, by decide +kernel⟩) (len : ∀ vs H Q E, sp vs H Q E → vs.length = ps.length := by (intro _ _ _ _ h; repeat (first | (obtain ⟨h1, _⟩ := h; subst h1; rfl) | obtain ⟨_, h⟩ := h))) : MtOk P w K mg base CX0 C nm ps (k + 1) sp := by
 obtain ⟨_, f, fd, m0, m, n, b⟩ := M
 cases mg_eq hm m0
 exact ⟨f, fd, m, b, n.ok S len fun _ _ _ _ H _ Q _ => h S H Q⟩
end
section
variable {X : Cx} {k k0 : Nat} {C : Addr} {ps : List Str} {sp : Sp} {x m : Str} {st : Stmt} {p pos apos : Pos} {e o : Expr} {es : List Expr} {ta : TE} {t : TA}
theorem pe_d (F : OkD X.prog X.w X.K X.mg X.base x st ps k sp) (hr : Room k0 X.A) (ha : PA X (e :: es) t) (hg : Gl X x := by rfl) (hk : k ≤ k0 := by decide)
  (hdb : (x == ("__debug__" : Str)) = false := by decide) (he : starEach (e :: es) X.env = (false, eval e X.env) :: starEach es X.env := by rfl) (hpl : (backTo pos (starEach es X.env)).any (·.1) = false := by rfl) :
  PE X (.Call (.Name x p) (e :: es) [] pos) (tCall sp [] E0 t) := by
 obtain ⟨f, fd, D, G⟩ := F
 exact pe_call G (hr.mono hk) hg D.m D.fn.kp D.b .nil pass0 ha hdb he hpl
theorem pe_m {pl : Sem Bool} (he : PE X o ta) (c : Cls X.K C) (F : MtOk X.prog X.w X.K X.mg X.base CX0 C m ps k sp) (hr : Room k0 X.A) (ha : PA X (e :: es) t) (hk : k ≤ k0 := by decide)
  (hst : starEach (e :: es) X.env = (false, eval e X.env) :: starEach es X.env := by rfl) (hpl : (backTo pos (starEach es X.env)).any (·.1) = false := by rfl)
  (ht : eval (.Call (.Attribute o m apos) (e :: es) [] pos) X.env = (do
   let ov ← eval o X.env
   standAt apos.atName
   let (f, first) ← holding [ov] (getMethod ov m pl)
   callWith pos f first (backTo pos (starEach (e :: es) X.env)) (backToKw pos (keywordEach [] X.env))) := by rfl) :
  PE X (.Call (.Attribute o m apos) (e :: es) [] pos) (tMeth C m sp [] E0 ta t) := by
 obtain ⟨f, fd, M, B, G⟩ := F
 exact pe_meth he c M G (hr.mono hk) B .nil pass0 ha hst hpl ht
theorem pe_m0 {pl : Sem Bool} (he : PE X o ta) (c : Cls X.K C) (F : MtOk X.prog X.w X.K X.mg X.base CX0 C m ps k sp) (hr : Room k0 X.A) (hk : k ≤ k0 := by decide)
  (ht : eval (.Call (.Attribute o m apos) [] [] pos) X.env = (do
   let ov ← eval o X.env
   standAt apos.atName
   let (f, first) ← holding [ov] (getMethod ov m pl)
   callWith pos f first (backTo pos (starEach [] X.env)) (backToKw pos (keywordEach [] X.env))) := by rfl) :
  PE X (.Call (.Attribute o m apos) [] [] pos) (tMeth C m sp [] E0 ta tNil) := by
 obtain ⟨f, fd, M, B, G⟩ := F
 exact pe_meth0 he c M G (hr.mono hk) B .nil pass0 ht
theorem pe_gs {y : Str} {j : Nat} {ps' : Pos} (hr : Room k0 X.A) (he : PE X o ta) : PE X (.Subscript o (.Constant (.str y) j ps') pos) (tDGet ta (tC (.str y))) := pe_dget (hu_of hr) he pe_str (fun _ _ => rfl)
theorem ps_v {s' : Scope} {te : TE} {pos' : Pos} (S : FnScope X.N ps s') (i : Nat) (he : PE X e te) (hi : X.N[i]? = some x := by rfl) (hx : Loc X.env.scope x := by exact Or.inl rfl) (hs : swapsWith e (some (.Name x pos')) pos.line X.env = pure false := by rfl)
  (hf : X.fn x = true ∨ X.env.scope.names.lookup x = some .local := by first | exact .inl rfl | exact .inr rfl | assumption) : PS X (.Assign [.Name x pos'] e pos) (tAsg te (gName i)) := ps_set S.nd hi hx he hs hf
theorem pg_v {s' : Scope} (S : FnScope X.N ps s') (i : Nat) (hi : X.N[i]? = some x := by rfl) (hx : Loc X.env.scope x := by exact Or.inl rfl) (hf : X.fn x = true ∨ X.env.scope.names.lookup x = some .local := by first | exact .inl rfl | exact .inr rfl | assumption) : PG X (.Name x pos) (gName i) := pg_name S.nd hi hx hf
end
end L2
namespace L2
open PySem PyProof PyProof.Rows
theorem list_lacks {n : Str} (h : (match fastLookup "list" n with | some none => true | _ => false) = true) : typeLookup (.type "list") n = pure none := am_miss_of_fast h
section
variable {prog : Program} {w : World} {A : Around} {E : Value → Shared → Prop} {s : Shared} {l : Addr} {its : Array Value} {n : Nat}
abbrev LstO (h : Heap) (l : Addr) (its : Array Value) (n : Nat) : Prop := h.get? l = some { cls := .type "list", dict := none, data := .seq its n, slots := #[] }
theorem lk_miss {Q : PySem.Fin → Shared → Prop} {u : Tok} (o : LstO s.heap l its n) (hA : A.handled = none) (h : ∀ h' tk e, s.heap.NewAttrErr h' e (.ref l) "keys" → E (.ref e) { s with heap := h', toks := tk }) :
  wpAny (model prog w) A (Builtin.«object.__getattribute__» ⟨[.ref l, .str "keys" u], []⟩) Q E s := by
 have lacks := list_lacks (n := "keys") (by kernel_rfl)
 have ty : s.TypeIs (.ref l) "list" := ⟨_, o, rfl⟩
 have plain : (["__module__", "__name__", "__qualname__", "__doc__", "__annotations__"] : List Str).contains "keys" = false := by decide +kernel
 have ol : s.heap.get? l = some { cls := .type "list", dict := none, data := .seq its n, slots := #[] } := o
 wp_walk
 exact wpAny_raiseAttrError hA h (attrMsg_fits (by decide +kernel) (by size_fits))
theorem lst_entry : entryFor table "list.__getattribute__" = some Builtin.«object.__getattribute__» := entryFor_alias (id' := "object.__getattribute__") (by kernel_rfl) (by decide +kernel) (by decide +kernel) (by kernel_rfl)
theorem lk_none {Q : Option Value → Shared → Prop} (o : LstO s.heap l its n) (hA : A.handled = none) (h : ∀ h' tk, (∀ c oc, s.heap.get? c = some oc → h'.get? c = some oc) → Q none { s with heap := h', toks := tk }) : wpAny (model prog w) A (getAttr? (.ref l) "keys") Q E s := by
 have ty : ∀ tk, Shared.TypeIs { s with toks := tk } (.ref l) "list" := fun tk => ⟨_, o, rfl⟩
 have ty0 : s.TypeIs (.ref l) "list" := ⟨_, o, rfl⟩
 have b1 := F.slot_list_getattribute.lookup
 have b2 := F.slot_list_getattribute.bind (.ref l)
 have b3 := list_lacks (n := "__getattr__") (by kernel_rfl)
 have go : ∀ {Q' : Value → Shared → Prop} {E' : Value → Shared → Prop} {tk : Nat}, (∀ h' tk' e, s.heap.NewAttrErr h' e (.ref l) "keys" → E' (.ref e) { s with heap := h', toks := tk' }) → wpAny (model prog w) A (call (.builtin "list.__getattribute__") ([.ref l] ++ [.str "keys" s.toks])) Q' E' { s with toks := tk } := fun q =>
  wpAny_call_entry F.slot_list_getattribute (ty _) lst_entry (lk_miss (s := { s with toks := _ }) o hA q) (F.args_list_getattribute_2 _ _)
 show wpAny _ _ (mkText "keys" >>= fun n => getAttrBy? (.ref l) n) _ _ _
 wp_walk using go
 intro h' tk' e ne
 obtain ⟨ta, tb, there⟩ := ne.there
 have sub := sub_AttributeError
 show wpAny _ _ (getattributeRaised (.ref l) (.str "keys" s.toks) (.type "list") (.ref e) none false false) _ _ _
 wp_walk
 exact h h' tk' ne.keeps
end
section
variable {prog : Program} {w : World} {A : Around} {KK : Type} [DecidableEq KK] {knd : KeyKind prog w KK} {R : Result → Shared → Prop}
def PairsAt (knd : KeyKind prog w KK) (h : Heap) (xs : Array Value) (rs : List (KK × Value)) : Prop := ∀ (i : Nat) v, xs[i]? = some v → ∃ (T : Addr) (x y : Value) (k : KK), v = .ref T ∧ h.IsTuple T #[x, y] ∧ rs[i]? = some (k, y) ∧ knd.is k x = true
theorem PairsAt.keep {h h' : Heap} {xs : Array Value} {rs : List (KK × Value)} (p : PairsAt knd h xs rs) (k : ∀ T o, (∃ i : Nat, xs[i]? = some (Value.ref T)) → h.get? T = some o → h'.get? T = some o) : PairsAt knd h' xs rs := fun i v e => by
 obtain ⟨T, x, y, kk, rfl, ⟨o, g, r⟩, q⟩ := p i v e
 exact ⟨T, x, y, kk, rfl, ⟨o, k T o ⟨i, e⟩ g, r⟩, q⟩
theorem dict_keep {h h' : Heap} {d : Addr} {rs : List (KK × Value)} (p : h.DictOf knd d rs) (k : ∀ o, h.get? d = some o → h'.get? d = some o) : h'.DictOf knd d rs := by
 obtain ⟨o, es, ep, ho, r⟩ := p
 exact ⟨o, es, ep, k _ ho, r⟩
theorem upd_loopL {it l d : Addr} {xs : Array Value} (hh : A.handled = none) (di : d ≠ it) (dl : d ≠ l) (il : l ≠ it) (res : Value) (rs : List (KK × Value)) (hl : xs.size = rs.length) (hn : rs.length ≤ sizeLine) (nd : (rs.map (·.1)).Nodup)
  (no : ∀ (i : Nat) T, xs[i]? = some (Value.ref T) → T ≠ d ∧ T ≠ it) :
  ∀ (k i : Nat) (s : Shared), rs.length - i = k → i ≤ rs.length → s.heap.IsListIter it l i → s.heap.IsList l xs → PairsAt knd s.heap xs rs → s.heap.DictOf knd d (rs.take i) →
  (∀ s' h' tk, s' = { s with heap := h', toks := tk } → h'.DictOf knd d rs → (∀ c o, c ≠ it → c ≠ d → s.heap.get? c = some o → h'.get? c = some o) → R (.ok (.ret res)) s') →
  codeAny (model prog w) A (.builtin "dict.update.loop" ⟨[.ref d, .ref it, rawInt i, res], []⟩) R s := by
 intro k
 induction k with
 | zero =>
  intro i s hk hi hit hls ps hd hR
  have hin : i = rs.length := by omega
  refine codeAny_builtin entry_upd_loop ?_
  rw [Around.under_plainId plain_upd_loop _]
  show wpAny _ A.in1 (pyNext (.ref it) >>= _) _ _ s
  refine wpAny_bind (wpAny_pyNext_list_end hh hit hls (by rw [Array.getElem?_eq_none (by omega)]) fun h' kp => ?_)
  rw [List.take_of_length_le (by omega)] at hd
  refine wpAny_bind (wpAny_pure (wpAny_pure (hR _ h' s.toks rfl ?_ ?_)))
  all_goals first
   | exact dict_keep hd fun o e => kp _ _ di e
   | exact fun c o c1 _ e => kp _ _ c1 e
 | succ k ih =>
  intro i s hk hi hit hls ps hd hR
  have ilt : i < xs.size := by omega
  obtain ⟨T, x, y, kk, ev, gT, er, ek⟩ := ps i _ (Array.getElem?_eq_getElem ilt)
  obtain ⟨nTd, nTi⟩ := no i T (by rw [Array.getElem?_eq_getElem ilt, ev])
  refine codeAny_builtin entry_upd_loop ?_
  rw [Around.under_plainId plain_upd_loop _]
  show wpAny _ A.in1 (pyNext (.ref it) >>= _) _ _ s
  refine wpAny_bind (wpAny_pyNext_list_item hit hls (by rw [Array.getElem?_eq_getElem ilt, ev]) fun h1 it1 sb1 => ?_)
  obtain ⟨oT, eT, cT, nT, dT⟩ := gT
  have eT1 := sb1.extBut _ _ nTi eT
  refine wpAny_bind (wpAny_holding (wpAny_bind (wpAny_tryCatch ?_)))
  unfold Builtin.Dict.pairItems
  refine wpAny_bind (wpAny_typeOf (T := "tuple") ⟨_, eT1, cT⟩ ?_)
  rw [if_pos (by decide)]
  refine wpAny_bind (wpAny_seqItems eT1 dT (wpAny_pure ?_))
  show wpAny _ _ (holding [x, y] (dictSet d x y)) _ _ _
  have hd1 : h1.DictOf knd d (rs.take i) := dict_keep hd fun o e => sb1.extBut _ _ di e
  refine wpAny_holding (wpAny_dictSet_pairs (hsz := by rw [List.length_take]; omega) ek hd1 fun h2 hd2 sb => ?_)
  replace sb : Heap.SameBut d h1 h2 := sb
  have est : stored (rs.take i) kk y = rs.take (i + 1) := by
   rw [stored, if_neg, List.take_succ, er]
   ·rfl
   ·intro q
    obtain ⟨kv, m1, m2⟩ := List.any_eq_true.mp q
    obtain ⟨j, hj⟩ := List.getElem?_of_mem m1
    have jl : j < i := by
     have := (List.getElem?_eq_some_iff.mp hj).1
     rw [List.length_take] at this
     omega
    rw [List.getElem?_take_of_lt jl] at hj
    have e1 : (rs.map (·.1))[j]? = some kk := by rw [List.getElem?_map, hj]; exact congrArg some (of_decide_eq_true m2)
    have e2 : (rs.map (·.1))[i]? = some kk := by rw [List.getElem?_map, er]; rfl
    exact absurd ((List.getElem?_inj (by rw [List.length_map]; omega) nd).mp (e1.trans e2.symm)) (by omega)
  rw [est] at hd2
  refine wpAny_pure ⟨plainId_quiet plain_upd_loop _, ?_⟩
  obtain ⟨oi, gi, ri⟩ := it1
  obtain ⟨ol, gl, rl⟩ := hls
  refine ih (i + 1) _ (by omega) (by omega) ⟨oi, sb.extBut _ _ (Ne.symm di) gi, ri⟩ ⟨ol, sb.extBut _ _ (Ne.symm dl) (sb1.extBut _ _ il gl), rl⟩ (ps.keep fun T' o ⟨j, ej⟩ e => sb.extBut _ _ (no j T' ej).1 (sb1.extBut _ _ (no j T' ej).2 e)) hd2 fun s' h3 tk3 es hd3 kp3 => ?_
  exact hR s' h3 tk3 es hd3 fun c o c1 c2 e => kp3 c o c1 c2 (sb.extBut _ _ c2 (sb1.extBut _ _ c1 e))
end
section
variable {prog : Program} {w : World} {A : Around} {E : Value → Shared → Prop} {s : Shared} {KK : Type} [DecidableEq KK] {knd : KeyKind prog w KK} {l : Addr} {its : Array Value} {n : Nat}
theorem init_lst {d : Addr} {more : List (KK × Value)} {R : PySem.Fin → Shared → Prop} (o : LstO s.heap l its n) (hd : s.heap.DictOf knd d more) (hA : A.handled = none)
  (q : ∀ (h' : Heap) tk, (∀ c oc, s.heap.get? c = some oc → h'.get? c = some oc) → R (.again (.builtin "dict.update.loop" ⟨[.ref d, .ref h'.objs.size, rawInt 0, .none], []⟩)) { s with heap := h'.push { cls := .type "list_iterator", data := .fields #[.ref l, .int 0 0] }, toks := tk }) :
  wpAny (model prog w) A (Builtin.«dict.__init__» ⟨[.ref d, .ref l], []⟩) R E s := by
 have ty : s.TypeIs (.ref l) "list" := ⟨_, o, rfl⟩
 have td := hd.typeIs
 have from' : wpAny (model prog w) A (Builtin.Dict.updateFrom "dict.__init__" d (.ref l) [] .none) R E s := by
  have seek : ∀ {Q' : Option Value → Shared → Prop}, (∀ h' tk, (∀ c oc, s.heap.get? c = some oc → h'.get? c = some oc) → Q' none { s with heap := h', toks := tk }) → wpAny (model prog w) A (getAttr? (.ref l) "keys") Q' E s := fun k => lk_none o hA k
  refine show wpAny _ _ (typeOf (.ref l) >>= _) _ _ s from wpAny_bind (wpAny_typeOf ty (wpAny_bind (seek fun h' tk keep => ?_)))
  exact wpAny_bind (wpAny_rule (wpAny_bind (wpAny_pyIter_list (items := its) ⟨_, keep _ _ o, rfl, _, rfl⟩ (wpAny_pure (q h' tk keep)))))
 have head : ∀ {Q' : Unit → Shared → Prop}, Q' () s → wpAny (model prog w) A (Builtin.Dict.notOrdered "__init__" ⟨[.ref d, .ref l], []⟩) Q' E s := fun k => wpAny_notOrdered_dict td k
 wp_walk using head, from'
theorem dict_of_lst {rs : List (KK × Value)} {Q : Value → Shared → Prop} (hh : A.handled = none) (o : LstO s.heap l its n) (ps : PairsAt knd s.heap its rs) (hl : its.size = rs.length) (hn : rs.length ≤ sizeLine) (nd : (rs.map (·.1)).Nodup)
  (h : ∀ h' tk, h'.DictOf knd s.heap.objs.size rs → (∀ c o, s.heap.get? c = some o → h'.get? c = some o) → Q (.ref s.heap.objs.size) { s with heap := h', toks := tk }) :
  wpAny (model prog w) A (call (.type "dict") [.ref l]) Q E s := by
 refine callType_codes (Q₁ := fun obj t => obj = .ref s.heap.objs.size ∧ ∃ hm, t = { s with heap := hm } ∧ hm.DictOf knd s.heap.objs.size [] ∧ ∀ c o, s.heap.get? c = some o → hm.get? c = some o) PySem.F.kt_called_dict (PySem.F.kt_typeCall_dict_1 _) PySem.F.entry_dict_init (kt_code_dict_new _ ⟨rfl, _, rfl, Heap.DictOf.new s.heap, fun c o e => Heap.get?_push_of_some _ e⟩) ?_
 rintro _ _ ⟨rfl, hm, rfl, dm, km⟩
 refine ⟨dm.typeIs, PySem.F.args_dict_init_2 _ _, init_lst (s := { s with heap := hm }) (km _ _ o) dm hh fun h1 tk k1 => ⟨plainId_quiet plain_upd_loop _, ?_⟩⟩
 have kp : ∀ c o, s.heap.get? c = some o → h1.get? c = some o := fun c o e => k1 c o (km c o e)
 have k2 : ∀ c o, h1.get? c = some o → (h1.push { cls := .type "list_iterator", data := .fields #[.ref l, .int 0 0] }).get? c = some o := fun c o e => Heap.get?_push_of_some _ e
 have lt1 : ∀ {c o}, s.heap.get? c = some o → c < s.heap.objs.size := fun e => Heap.lt_size e
 have lt2 : ∀ {c o}, h1.get? c = some o → c < h1.objs.size := fun e => Heap.lt_size e
 obtain ⟨od, _, _, gd, _⟩ := id dm
 have ld := lt2 (k1 _ _ gd)
 have d1 : (h1.push { cls := .type "list_iterator", data := .fields #[.ref l, .int 0 0] }).DictOf knd s.heap.objs.size (rs.take 0) := by
  rw [List.take_zero]
  exact dict_keep dm fun oo e => k2 _ _ (k1 _ _ e)
 refine upd_loopL (A := A.in1) (knd := knd) (l := l) (xs := its) hh (Nat.ne_of_lt ld) (Ne.symm (Nat.ne_of_lt (lt1 o))) (Nat.ne_of_lt (lt2 (kp _ _ o))) .none rs hl hn nd (fun i T e => ?_) rs.length 0 { s with heap := h1.push { cls := .type "list_iterator", data := .fields #[.ref l, .int 0 0] }, toks := tk } rfl (Nat.zero_le _) ⟨_, Heap.get?_push_size _ rfl, rfl, rfl⟩ ⟨_, k2 _ _ (kp _ _ o), rfl, _, rfl⟩ (ps.keep fun T oT _ e => k2 _ _ (kp _ _ e)) d1 fun s' h' tk' es d' kp' => ?_
 ·obtain ⟨T', x, y, kk, ev, ⟨oT, eT, _⟩, _⟩ := ps i _ e
  cases ev
  exact ⟨Nat.ne_of_lt (lt1 eT), Nat.ne_of_lt (lt2 (kp _ _ eT))⟩
 ·subst es
  exact ⟨rfl, h h' tk' d' fun c oc e => kp' c oc (Nat.ne_of_lt (lt2 (kp _ _ e))) (Nat.ne_of_lt (lt1 e)) (k2 _ _ (kp _ _ e))⟩
end
theorem pairs_of {prog : Program} {w : World} {h : Heap} : ∀ {ts : List Addr} {kvs : List (Key × V)}, ts.length = kvs.length → (∀ (i : Nat) t k v, ts[i]? = some t → kvs[i]? = some (k, v) → ∃ x y, h.IsTuple t #[x, y] ∧ RelV (kV k) x ∧ RelV v y) →
  ∃ rs : List (Key × Value), KV kvs rs ∧ ∀ (i : Nat) v, (ts.map Value.ref)[i]? = some v → ∃ (T : Addr) (x y : Value) (k : Key), v = .ref T ∧ h.IsTuple T #[x, y] ∧ rs[i]? = some (k, y) ∧ (mixKind prog w).is k x = true
 | [], [], _, _ => ⟨[], .nil, fun i v e => by cases e⟩
 | [], _ :: _, e, _ => by cases e
 | _ :: _, [], e, _ => by cases e
 | t :: ts, (k, v) :: kvs, e, p => by
  obtain ⟨x, y, g, rx, ry⟩ := p 0 t k v rfl rfl
  obtain ⟨rs, kv, q⟩ := pairs_of (prog := prog) (w := w) (ts := ts) (kvs := kvs) (Nat.succ.inj e) fun i t' k' v' a b => p (i + 1) t' k' v' a b
  refine ⟨(k, y) :: rs, .cons ⟨rfl, ry⟩ kv, fun i u hu => ?_⟩
  cases i with
  | zero => cases hu; exact ⟨t, x, y, k, rfl, g, rfl, kV_is rx⟩
  | succ i => exact q i u hu
theorem refs_of : ∀ {ts : List Addr} {its : List Value}, Vals (ts.map V.ref) its → its = ts.map Value.ref
 | [], _, .nil => rfl
 | t :: ts, _, .cons r q => by cases r; rw [refs_of q]; rfl
section
variable {X : Cx}
theorem call_dictL (hh : X.A.handled = none) : CallR X (.type "dict") (fun xs H Q => ∃ (l : Addr) (ts : List Addr) (kvs : List (Key × V)), xs = [.ref l] ∧ H l = some (.lst (ts.map V.ref)) ∧ ts.length = kvs.length ∧ (kvs.map (·.1)).Nodup ∧ (∀ (i : Nat) t k v, ts[i]? = some t → kvs[i]? = some (k, v) → H t = some (.tup [kV k, v])) ∧
  ∀ d, H d = none → Q (.ref d) (upd H d (.dK kvs))) := by
 intro pins s σ H xs us Q I r h
 obtain ⟨l, ts, kvs, rfl, hl, ln, nd, tu, q⟩ := h
 obtain ⟨u, rfl, ru⟩ := vals1 r
 cases ru
 obtain ⟨z, its, n, rv, e⟩ := (show ObjOk X.prog X.w H s.heap l (.lst (ts.map V.ref)) from Rd.ok (.inl hl) I.hok)
 cases refs_of rv
 obtain ⟨rs, kv, ps⟩ := pairs_of (prog := X.prog) (w := X.w) (h := s.heap) ln fun i t k v a b => by
  obtain ⟨us, r2, ⟨o, e1, e2, m, e3⟩, _⟩ := I.tuple (SqT.of (tu i t k v a b))
  obtain ⟨x, y, rfl, rx, ry⟩ := vals2 r2
  exact ⟨x, y, ⟨o, e1, e2, m, e3⟩, rx, ry⟩
 have lr : rs.length = kvs.length := kv.length.symm
 rw [List.length_map] at z
 refine dict_of_lst (knd := mixKind X.prog X.w) (rs := rs) hh e (fun i v a => ps i v (by simpa using a)) (by simp [lr, ln]) (by omega) (by rw [← kv.keys]; exact nd) fun h' tk hd kp => ?_
 refine ⟨.ref s.heap.objs.size, _, I.laid (a := s.heap.objs.size) (o := .dK kvs) (t' := tk) kp (Nat.le_refl _) ⟨by omega, ?_, rs, kv, hd⟩, rfl, q _ (I.hok.fresh (Nat.le_refl _))⟩
 have := I.big
 exact beq_eq_false_iff_ne.mpr (by intro z; simp only [Addr] at *; omega)
end
end L2
namespace L2
open PySem PySem.Spec PyProof PyProof.Rows
def ItZ (K : PySem.W.Frag) (a b : Addr) : It :=
 ⟨fun i H => ∃ xs ys x y, SqL K H a xs ∧ SqL K H b ys ∧ xs[i]? = some x ∧ ys[i]? = some y, fun i H v H' => ∃ t x y, v = .ref t ∧ H t = none ∧ (∀ xs ys, SqL K H a xs → SqL K H b ys → xs[i]? = some x ∧ ys[i]? = some y) ∧ H' = upd H t (.tup [x, y]),
  fun i H => ∃ xs ys, SqL K H a xs ∧ SqL K H b ys ∧ xs.length = i⟩
theorem Inv.listAt {X : Cx} {pins : List (Addr × Obj)} {σ : St} {H : Hp} {s : Shared} {a : Addr} {xs : List V} (I : Inv X pins σ H s) (h : SqL X.K H a xs) : ∃ us : List Value, Vals xs us ∧ s.heap.IsList a us.toArray := by
 obtain ⟨us, r, ⟨o, n, e1, e2, _, e4⟩, _⟩ := I.list h
 exact ⟨us, r, o, e1, e2, n, e4⟩
theorem turn_zipL {P : Program} {w : World} {K : PySem.W.Frag} {elts : List Expr} {kk : Nat} {tpos : Pos} (a b z TI TO i1 i2 : Addr) (Z : ZipApart z TI TO i1 i2 a b) :
  Turn P w K (.Tuple elts kk tpos) (ItZ K a b) [z, TI, TO, i1, i2] z (fun i h => IsZip h z TI TO .none ∧ IsPair h TI (.ref i1) (.ref i2) ∧ (∃ u v, IsPair h TO u v) ∧ h.IsListIter i1 a i ∧ h.IsListIter i2 b i) where
 mem := by simp
 obj := fun i h ⟨gz, gI, ⟨u, v, gO⟩, ⟨o1, e1, _, d1⟩, ⟨o2, e2, _, d2⟩⟩ c hc => by
  simp only [List.mem_cons, List.not_mem_nil, or_false] at hc
  rcases hc with rfl | rfl | rfl | rfl | rfl
  ·exact ⟨_, gz, fun v z => by have z' : Data.fields _ = Data.cell v := z; cases z'⟩
  ·exact ⟨_, gI, fun v z => by have z' : Data.seq _ _ = Data.cell v := z; cases z'⟩
  ·exact ⟨_, gO, fun v z => by have z' : Data.seq _ _ = Data.cell v := z; cases z'⟩
  ·exact ⟨_, e1, fun v z => by rw [d1] at z; cases z⟩
  ·exact ⟨_, e2, fun v z => by rw [d2] at z; cases z⟩
 keep := fun i h h' ⟨gz, gI, ⟨u, v, gO⟩, ⟨o1, e1, d1⟩, ⟨o2, e2, d2⟩⟩ k => ⟨k z (by simp) _ gz, k TI (by simp) _ gI, ⟨u, v, k TO (by simp) _ gO⟩, ⟨o1, k i1 (by simp) _ e1, d1⟩, o2, k i2 (by simp) _ e2, d2⟩
 item := by
  intro X hP hw hK hc i pins s σ H E I hf st hg
  subst hP hw hK
  obtain ⟨gz, gI, ⟨u, v, gO⟩, h1, h2⟩ := st
  obtain ⟨xs, ys, x, y, qx, qy, ex, ey⟩ := hg
  obtain ⟨us, rx, px⟩ := I.listAt qx
  obtain ⟨vs, ry, py⟩ := I.listAt qy
  obtain ⟨u1, hu1, ru1⟩ := rx.get ex
  obtain ⟨u2, hu2, ru2⟩ := ry.get ey
  refine wpAny_pyNext_zip_item Z gz gI gO h1 h2 px py (x := u1) (y := u2) (by simpa using hu1) (by simpa using hu2) fun h' zo gO' t1 t2 hT sz kp => ⟨_, rfl, ?_⟩
  refine wpAny_letOwnedTupleGo_zip (s := { s with heap := h' }) zo fun h3 gz3 sb => ?_
  replace sb : Heap.SameBut z h' h3 := sb
  have old : ∀ {c : Addr} {o : Obj}, s.heap.get? c = some o → c ≠ s.heap.objs.size := fun e => Nat.ne_of_lt (Heap.lt_size e)
  have hT3 := sb.extBut _ _ (Ne.symm (old gz)) hT
  have J : Inv X pins σ (upd H s.heap.objs.size (.tup [x, y])) { s with heap := h3, toks := s.toks } := by
   refine I.turnT (xs := [x, y]) (us := [u1, u2]) [z, TI, TO, i1, i2] hf (fun c o hc e => ?_) (Nat.le_refl _) (.cons ru1 (.cons ru2 .nil)) (by show 2 ≤ sizeLine; decide) hT3
   simp only [List.mem_cons, List.not_mem_nil, or_false, not_or] at hc
   exact sb.extBut _ _ hc.1 (kp c o hc.1 hc.2.2.1 hc.2.2.2.1 hc.2.2.2.2 e)
  obtain ⟨p1, q1, r1⟩ := t1
  obtain ⟨p2, q2, r2⟩ := t2
  refine ⟨.ref s.heap.objs.size, _, J, rfl, ⟨_, x, y, rfl, I.hok.fresh (Nat.le_refl _), fun xs' ys' qx' qy' => ?_, rfl⟩, ⟨gz3, sb.extBut _ _ Z.TIz (kp _ _ Z.TIz Z.TITO Z.TIi1 Z.TIi2 gI), ⟨_, _, sb.extBut _ _ Z.TOz gO'⟩, ⟨p1, sb.extBut _ _ Z.i1z q1, r1⟩, p2, sb.extBut _ _ Z.i2z q2, r2⟩, fun c hc => ?_⟩
  ·rw [I.list_inj qx' qx, I.list_inj qy' qy]
   exact ⟨ex, ey⟩
  ·have ne : c ≠ s.heap.objs.size := by
    obtain ⟨o1, e1, _⟩ := h1
    obtain ⟨o2, e2, _⟩ := h2
    simp only [List.mem_cons, List.not_mem_nil, or_false] at hc
    rcases hc with rfl | rfl | rfl | rfl | rfl
    ·exact old gz
    ·exact old gI
    ·exact old gO
    ·exact old e1
    ·exact old e2
   rw [upd_ne ne]
   exact (hf c hc).1
 done := by
  intro X hP hw hK hc i pins s σ H E I hf st hg
  subst hP hw hK
  obtain ⟨gz, gI, ⟨u, v, gO⟩, h1, h2⟩ := st
  obtain ⟨xs, ys, qx, qy, en⟩ := hg
  obtain ⟨us, rx, px⟩ := I.listAt qx
  obtain ⟨vs, ry, py⟩ := I.listAt qy
  have hh : X.A.in1.handled = none := I.ok.hd hc
  refine wpAny_pyNext_zip_end hh Z gz gI gO h1 h2 px py (.inl (Array.getElem?_eq_none (by rw [List.size_toArray, ← rx.length]; omega))) fun h' kp => ⟨rfl, ?_⟩
  refine I.turnN (t' := s.toks) [z, TI, TO, i1, i2] hf fun c o hc e => ?_
  simp only [List.mem_cons, List.not_mem_nil, or_false, not_or] at hc
  exact kp c o hc.1 hc.2.2.1 hc.2.2.2.1 hc.2.2.2.2 e
 self := fun _ _ _ _ _ st h => wpAny_pyIter_zip st.1 h
section
variable {X : Cx}
def iZipL (K : PySem.W.Frag) (ta : TA) : TI := fun σ H R => ta σ H fun vs H1 => ∃ a b, vs = [.ref a, .ref b] ∧ (∃ xs, SqL K H1 a xs) ∧ (∃ ys, SqL K H1 b ys) ∧ R (ItZ K a b) H1
theorem pi_zipL {elts : List Expr} {kk : Nat} {tpos p pos : Pos} {l l' : Expr} {ta : TA} (hg : Gl X "zip") (hm : X.mg "zip" = none) (hv : bootBuiltins "zip" = some (.type "zip")) (ha : PA X [l, l'] ta) (sa : isStar l = false := by rfl) (sb : isStar l' = false := by rfl) :
  PI X (.Tuple elts kk tpos) (.Call (.Name "zip" p) [l, l'] [] pos) (iZipL X.K ta) := by
 intro pins s σ H R I h
 refine Call_ (ld_blt I hg hm hv (PyProof.Rows.callWith_type1 (thn (ha pos pins s σ H _ I h) fun us s1 ⟨vs, H1, I1, r1, q1⟩ => ?_) (star_cons sa) (by rw [star_cons sb]; rfl)))
 obtain ⟨a, b, rfl, ⟨xs, qx⟩, ⟨ys, qy⟩, q⟩ := q1
 obtain ⟨u1, u2, rfl, e1, e2⟩ := vals2 r1
 cases e1
 cases e2
 obtain ⟨us, rx, px⟩ := I1.listAt qx
 obtain ⟨ws, ry, py⟩ := I1.listAt qy
 refine call_zip_2 px py fun h1 gz gI gO i1 i2 sz kp => ?_
 have a1 : a < s1.heap.objs.size := let ⟨_, e, _⟩ := px; Heap.lt_size e
 have a2 : b < s1.heap.objs.size := let ⟨_, e, _⟩ := py; Heap.lt_size e
 have Z : ZipApart (s1.heap.objs.size + 4) (s1.heap.objs.size + 2) (s1.heap.objs.size + 3) s1.heap.objs.size (s1.heap.objs.size + 1) a b := by
  constructor <;> (intro e; simp only [Addr] at *; omega)
 refine wpAny_pyIter_zip gz ⟨s1.heap.objs.size + 4, [s1.heap.objs.size + 4, s1.heap.objs.size + 2, s1.heap.objs.size + 3, s1.heap.objs.size, s1.heap.objs.size + 1], _, _, H1, rfl, I1.kept (t' := s1.toks) kp, turn_zipL a b _ _ _ _ _ Z, ⟨gz, gI, ⟨_, _, gO⟩, i1, i2⟩, fun c hc => ?_, q⟩
 have lc : s1.heap.objs.size ≤ c := by
  simp only [List.mem_cons, List.not_mem_nil, or_false] at hc
  rcases hc with rfl | rfl | rfl | rfl | rfl <;> (simp only [Addr] at *; omega)
 exact I1.fpOk lc (I1.hok.fresh lc)
theorem for_zipL {K : PySem.W.Frag} {a b : Addr} {xs ys : List V} {g : TG} {tb : TS} {D : Ends} {σ : St} {H : Hp} (hlen : ys.length = xs.length) (Pv : Nat → St → Hp → Prop) (h0 : Pv 0 σ H) (hl : ∀ i σ H, i ≤ xs.length → Pv i σ H → SqL K H a xs ∧ SqL K H b ys)
  (hs : ∀ i x y t σ H, xs[i]? = some x → ys[i]? = some y → Pv i σ H → H t = none → g (.ref t) σ (upd H t (.tup [x, y])) fun σ2 H2 => tb { D with nx := Pv (i + 1), ct := Pv (i + 1), bk := D.nx } σ2 H2) (hd : ∀ σ H, Pv xs.length σ H → D.nx σ H) : tFor (fun _ H R => R (ItZ K a b) H) g tb D σ H := by
 refine ⟨fun i m σ H => m = xs.length - i ∧ i ≤ xs.length ∧ Pv i σ H, ⟨xs.length, by simp, Nat.zero_le _, h0⟩, ?_⟩
 rintro i m σ H ⟨rfl, hi, p⟩
 obtain ⟨q1, q2⟩ := hl i σ H hi p
 by_cases hlt : i < xs.length
 ·have hlt' : i < ys.length := by omega
  refine .inr ⟨⟨xs, ys, xs[i], ys[i], q1, q2, by simp [hlt], by simp [hlt']⟩, Pv (i + 1), fun σ' H' p' => ⟨xs.length - (i + 1), by omega, rfl, hlt, p'⟩, fun x H' y => ?_⟩
  obtain ⟨t, z, z', rfl, ht, hy, rfl⟩ := y
  obtain ⟨e1, e2⟩ := hy xs ys q1 q2
  exact hs i z z' t σ H e1 e2 p ht
 ·have e : i = xs.length := by omega
  subst e
  exact .inl ⟨⟨xs, ys, q1, q2, rfl⟩, hd σ H p⟩
end
def ItE (K : PySem.W.Frag) (a : Addr) : It :=
 ⟨fun i H => ∃ xs x, SqL K H a xs ∧ xs[i]? = some x, fun i H v H' => ∃ t x, v = .ref t ∧ H t = none ∧ (∀ xs, SqL K H a xs → xs[i]? = some x) ∧ H' = upd H t (.tup [.int i, x]), fun i H => ∃ xs, SqL K H a xs ∧ xs.length = i⟩
theorem turn_enumL {P : Program} {w : World} {K : PySem.W.Frag} {elts : List Expr} {kk : Nat} {tpos : Pos} (a e it : Addr) (h1 : e ≠ it) (h2 : a ≠ e) (h3 : a ≠ it) :
  Turn P w K (.Tuple elts kk tpos) (ItE K a) [e, it] e (fun i h => (∃ old, IsEnum h e it i old) ∧ h.IsListIter it a i) where
 mem := by simp
 obj := fun i h ⟨⟨old, he⟩, ⟨o, q, _, d⟩⟩ b hb => by
  simp only [List.mem_cons, List.not_mem_nil, or_false] at hb
  rcases hb with rfl | rfl
  ·exact ⟨_, he, fun v z => by have z' : Data.fields _ = Data.cell v := z; cases z'⟩
  ·exact ⟨o, q, fun v z => by rw [d] at z; cases z⟩
 keep := fun i h h' ⟨⟨old, he⟩, ⟨o, q, d⟩⟩ k => ⟨⟨old, k e (by simp) _ he⟩, o, k it (by simp) _ q, d⟩
 item := by
  intro X hP hw hK hc i pins s σ H E I hf st hg
  subst hP hw hK
  obtain ⟨⟨old, he⟩, hi⟩ := st
  obtain ⟨xs, x, hq, hx⟩ := hg
  obtain ⟨us, rv, p⟩ := I.listAt hq
  obtain ⟨u, hu, ru⟩ := rv.get hx
  have hlt : i < us.toArray.size := by rw [List.size_toArray, ← rv.length]; exact (List.getElem?_eq_some_iff.mp hx).1
  have hh : X.A.in1.handled = none := I.ok.hd hc
  refine wpAny_pyNext_enum_itemD (Draws.list hh it a h3 us.toArray) he ⟨hi, p⟩ hlt h1 (by simp [h1, Ne.symm h2]) fun x' h' tk hP hout hSt hT hsz hk => ⟨_, rfl, ?_⟩
  have ex : x' = u := Option.some.inj ((by simpa using hP : us[i]? = some x').symm.trans hu)
  subst ex
  refine wpAny_letOwnedTupleGo_enum (s := { s with heap := h', toks := tk + 1 }) hout fun h3' he3 sb => ?_
  have old : ∀ {c : Addr} {o : Obj}, s.heap.get? c = some o → c ≠ s.heap.objs.size := fun z => Nat.ne_of_lt (Heap.lt_size z)
  obtain ⟨⟨oi, qi, di⟩, _⟩ := hSt
  have J : Inv X pins σ (upd H s.heap.objs.size (.tup [.int i, x])) { s with heap := h3', toks := tk + 1 } := by
   refine I.turnT (xs := [.int i, x]) (us := [.int i tk, x']) [e, it] hf (fun c o hc z => ?_) (Nat.le_refl _) (.cons ⟨tk, rfl⟩ (.cons ru .nil)) (by show 2 ≤ sizeLine; decide) (sb.extBut _ _ (Ne.symm (old he)) hT)
   simp only [List.mem_cons, List.not_mem_nil, or_false, not_or] at hc
   exact sb.extBut _ _ hc.1 (hk c o hc.1 hc.2 z)
  refine ⟨.ref s.heap.objs.size, _, J, rfl, ⟨_, x, rfl, I.hok.fresh (Nat.le_refl _), fun ys hy => by rw [I.list_inj hy hq]; exact hx, rfl⟩, ⟨⟨_, by simpa using he3⟩, oi, sb.extBut _ _ (Ne.symm h1) qi, di⟩, fun b hb => ?_⟩
  have ne : b ≠ s.heap.objs.size := by
   obtain ⟨o, z, _⟩ := hi
   simp only [List.mem_cons, List.not_mem_nil, or_false] at hb
   rcases hb with rfl | rfl
   ·exact old he
   ·exact old z
  rw [upd_ne ne]
  exact (hf b hb).1
 done := by
  intro X hP hw hK hc i pins s σ H E I hf st hg
  subst hP hw hK
  obtain ⟨⟨old, he⟩, hi⟩ := st
  obtain ⟨xs, hq, hx⟩ := hg
  obtain ⟨us, rv, p⟩ := I.listAt hq
  have en : i = us.toArray.size := by rw [List.size_toArray, ← rv.length]; exact hx.symm
  subst en
  have hh : X.A.in1.handled = none := I.ok.hd hc
  obtain ⟨f0, f1, f2, f3, f4, f5⟩ := hf it (by simp)
  exact wpAny_pyNext_enum_endD (Draws.list hh it a h3 us.toArray) he ⟨hi, p⟩ fun h' eb => ⟨rfl, I.turned (t' := s.toks) (fun b o hb q => eb b o hb q) f0 f1 f3 f4 f5⟩
 self := fun _ _ _ _ _ ⟨⟨_, he⟩, _⟩ h => wpAny_pyIter_enum he h
section
variable {X : Cx}
def iEnumL (K : PySem.W.Frag) (ta : TA) : TI := fun σ H R => ta σ H fun vs H1 => ∃ a, vs = [.ref a] ∧ (∃ xs, SqL K H1 a xs) ∧ R (ItE K a) H1
theorem pi_enumL {elts : List Expr} {kk : Nat} {tpos p pos : Pos} {l : Expr} {ta : TA} (hg : Gl X "enumerate") (hm : X.mg "enumerate" = none) (hv : bootBuiltins "enumerate" = some (.type "enumerate")) (ha : PA X [l] ta) (hs : starEach [l] X.env = [(false, eval l X.env)] := by rfl) :
  PI X (.Tuple elts kk tpos) (.Call (.Name "enumerate" p) [l] [] pos) (iEnumL X.K ta) := by
 intro pins s σ H R I h
 refine Call_ (ld_blt I hg hm hv (PyProof.Rows.callWith_type1 (thn (ha pos pins s σ H _ I h) fun us s1 ⟨vs, H1, I1, r1, q1⟩ => ?_) hs rfl))
 obtain ⟨a, rfl, ⟨xs, hq⟩, q⟩ := q1
 obtain ⟨u, rfl, ru⟩ := vals1 r1
 cases (show u = Value.ref a from ru)
 obtain ⟨its, rv, p⟩ := I1.listAt hq
 have alt : a < s1.heap.objs.size := let ⟨_, e, _⟩ := p; Heap.lt_size e
 refine call_enumerate_list p fun h' he hS _ hk => wpAny_pyIter_enum (s := { s1 with heap := h' }) he ⟨s1.heap.objs.size + 1, [s1.heap.objs.size + 1, s1.heap.objs.size], _, _, H1, rfl, I1.kept (t' := s1.toks) hk, turn_enumL a _ _ (Nat.ne_of_gt (Nat.lt_succ_self _)) (Nat.ne_of_lt (Nat.lt_succ_of_lt alt)) (Nat.ne_of_lt alt), ⟨⟨_, by simpa using he⟩, hS⟩, fun b hb => ?_, q⟩
 have lc : s1.heap.objs.size ≤ b := by
  simp only [List.mem_cons, List.not_mem_nil, or_false] at hb
  rcases hb with rfl | rfl <;> (simp only [Addr] at *; omega)
 exact I1.fpOk lc (I1.hok.fresh lc)
theorem for_enumL {K : PySem.W.Frag} {a : Addr} {xs : List V} {g : TG} {tb : TS} {D : Ends} {σ : St} {H : Hp} (Pv : Nat → St → Hp → Prop) (h0 : Pv 0 σ H) (hl : ∀ i σ H, i ≤ xs.length → Pv i σ H → SqL K H a xs)
  (hs : ∀ i x t σ H, xs[i]? = some x → Pv i σ H → H t = none → g (.ref t) σ (upd H t (.tup [.int i, x])) fun σ2 H2 => tb { D with nx := Pv (i + 1), ct := Pv (i + 1), bk := D.nx } σ2 H2) (hd : ∀ σ H, Pv xs.length σ H → D.nx σ H) : tFor (fun _ H R => R (ItE K a) H) g tb D σ H := by
 refine ⟨fun i m σ H => m = xs.length - i ∧ i ≤ xs.length ∧ Pv i σ H, ⟨xs.length, by simp, Nat.zero_le _, h0⟩, ?_⟩
 rintro i m σ H ⟨rfl, hi, p⟩
 have q := hl i σ H hi p
 by_cases hlt : i < xs.length
 ·refine .inr ⟨⟨xs, xs[i], q, by simp [hlt]⟩, Pv (i + 1), fun σ' H' p' => ⟨xs.length - (i + 1), by omega, rfl, hlt, p'⟩, fun x H' y => ?_⟩
  obtain ⟨t, z, rfl, ht, hy, rfl⟩ := y
  exact hs i z t σ H (hy xs q) p ht
 ·have e : i = xs.length := by omega
  subst e
  exact .inl ⟨⟨xs, q, rfl⟩, hd σ H p⟩
theorem call_setL (hh : X.A.handled = none) : CallR X (.type "set") (fun xs H Q => ∃ (a : Addr) (ns : List Int), xs = [.ref a] ∧ H a = some (.lst (ns.map V.int)) ∧ ns.length ≤ 100 ∧
  ∀ l, H l = none → Q (.ref l) (upd H l (.set (fun k => (onceOf ns ns.length).any (· == k)) (onceOf ns ns.length).length))) := by
 intro pins s σ H xs us Q I r h
 obtain ⟨a, ns, rfl, hl, hz, q⟩ := h
 obtain ⟨u, rfl, rx⟩ := vals1 r
 cases rx
 obtain ⟨_, its, n, rv, g⟩ := (show ObjOk X.prog X.w H s.heap a (.lst (ns.map V.int)) from I.hok a _ hl)
 have e1 : its.toArray.size = ns.length := by have := rv.length; rw [List.length_map] at this; simp [← this]
 have sb : scanBound > 200 := by decide
 refine call_set_list (items := its.toArray) (ns := ns) hh ⟨_, g, rfl, n, rfl⟩ (by simpa using ints_vals rv) (by rw [e1]; omega) fun h' tk hS k => ?_
 rw [e1] at hS
 exact ⟨.ref s.heap.objs.size, _, I.laid (a := s.heap.objs.size) (o := .set (fun k => (onceOf ns ns.length).any (· == k)) (onceOf ns ns.length).length) (t' := tk) (fun b o e => k b o (Heap.lt_size e) e) (Nat.le_refl _) hS, rfl, q _ (I.hok.fresh (Nat.le_refl _))⟩
end
end L2
namespace K31
open PySem L2
def top (i:Nat):Stmt:=PySem.Challenge.pw_nolocktree_k35_twins_of_trees.main.body.getD i (.Pass ⟨0,0,0,0⟩)
structure Txt (K:PySem.W.Frag) (mg:Str→Option Value):Prop where
 n_len:mg "len" = none
 n_max:mg "max" = none
 n_min:mg "min" = none
 n_isinstance:mg "isinstance" = none
 n_list:mg "list" = none
 n_tuple:mg "tuple" = none
 n_int:mg "int" = none
 n_bool:mg "bool" = none
 n_enumerate:mg "enumerate" = none
 n_range:mg "range" = none
 n_repr:mg "repr" = none
 n_all:mg "all" = none
 n_set:mg "set" = none
 n_sorted:mg "sorted" = none
 n_dict:mg "dict" = none
 c_lo:∃ t,mg "LEAST_KEY" = some (.int (-999999999) t)
 c_hi:∃ t,mg "GREATEST_KEY" = some (.int 999999999 t)
 c_lm:∃ t,mg "LEAST_MOST" = some (.int 2 t)
 c_gm:∃ t,mg "GREATEST_MOST" = some (.int 5 t)
 c_lv:∃ t,mg "GREATEST_LEVEL" = some (.int 60 t)
 c_cnt:∃ t,mg "GREATEST_COUNT" = some (.int 1000000 t)
 c_most:∃ t,mg "MOST_KEYS" = some (.int 6 t)
structure Cp where
 cL:Addr
 cI:Addr
def Cp.is (c:Cp) (C:Addr):Prop:=C = c.cL∨C = c.cI
structure Cs where
 pg:Cp
 R:Addr
 N:Addr
 T:Addr
structure PgN (K:PySem.W.Frag) (mg:Str→Option Value) (cP fP:Addr) (fdP:FuncData):Prop where
 fn:Fun K "__init__" "Page.__init__" (inClass (top 42) 0) fP fdP
 bi:Binds K fdP ["self","keys","goods"] []
 b:BaseFn K cP "__init__" fP
 m:mg "Page" = some (.ref cP)
structure KdN (K:PySem.W.Frag) (mg:Str→Option Value) (nm q:Str) (st:Stmt) (C f:Addr) (fd:FuncData):Prop where
 mak:Mk K C f
 fn:Fun K "__init__" q st f fd
 bi:Binds K fd ["self","keys","goods"] []
 m:mg nm = some (.ref C)
 ins:InsC K C
 n1:NoAttr K C "key_row"
 n2:NoAttr K C "good_row"
structure RdN (K:PySem.W.Frag) (mg:Str→Option Value) (C f:Addr) (fd:FuncData):Prop where
 mak:Mk K C f
 fn:Fun K "__init__" "Rounds.__init__" (inClass (top 46) 0) f fd
 bi:Binds K fd ["self"] []
 m:mg "Rounds" = some (.ref C)
 cl:Cls K C
 n1:NoAttr K C "in_use"
 n2:NoAttr K C "kept_laps"
 n3:NoAttr K C "free_ones"
 n4:NoAttr K C "call_laps"
 n5:NoAttr K C "lap_now"
structure NdN (K:PySem.W.Frag) (mg:Str→Option Value) (C f:Addr) (fd:FuncData):Prop where
 mak:Mk K C f
 fn:Fun K "__init__" "Node.__init__" (inClass (top 52) 0) f fd
 bi:Binds K fd ["self","level","bears","high","right"] []
 m:mg "Node" = some (.ref C)
 cl:Cls K C
 n1:NoAttr K C "level"
 n2:NoAttr K C "bears"
 n3:NoAttr K C "high"
 n4:NoAttr K C "right"
 n5:NoAttr K C "holder"
 n6:NoAttr K C "written"
structure TrN (K:PySem.W.Frag) (mg:Str→Option Value) (C f:Addr) (fd:FuncData):Prop where
 mak:Mk K C f
 fn:Fun K "__init__" "Tree.__init__" (inClass (top 53) 0) f fd
 bi:Binds K fd ["self","most"] []
 m:mg "Tree" = some (.ref C)
 cl:Cls K C
 n1:NoAttr K C "most_keys"
 n2:NoAttr K C "own_rounds"
 n3:NoAttr K C "nodes"
 n4:NoAttr K C "versions"
 n5:NoAttr K C "top_place"
structure KdF (K:PySem.W.Frag) (mg:Str→Option Value) (c:Cp):Prop where
 iL:InsC K c.cL
 iI:InsC K c.cI
 mL:mg "Leaf" = some (.ref c.cL)
 mI:mg "Inner" = some (.ref c.cI)
 LL:PySem.W.kitOne K (.ref c.cL) (.ref c.cL) = some true
 LI:PySem.W.kitOne K (.ref c.cL) (.ref c.cI) = some false
 IL:PySem.W.kitOne K (.ref c.cI) (.ref c.cL) = some false
 II:PySem.W.kitOne K (.ref c.cI) (.ref c.cI) = some true
structure Rst (K:PySem.W.Frag) (mg:Str→Option Value):Prop where
 T:Txt K mg
 nz:mg "zip" = none
 R_given:MM K mg "Rounds" "given" "Rounds.given" (inClass (top 46) 1) ["self"]
 R_went:MM K mg "Rounds" "went" "Rounds.went" (inClass (top 46) 2) ["self","place"]
 R_enter:MM K mg "Rounds" "enter" "Rounds.enter" (inClass (top 46) 3) ["self","number"]
 R_leave:MM K mg "Rounds" "leave" "Rounds.leave" (inClass (top 46) 4) ["self","number"]
 R_release:MM K mg "Rounds" "release" "Rounds.release" (inClass (top 46) 5) ["self"]
 R_is_past:MM K mg "Rounds" "is_past" "Rounds.is_past" (inClass (top 46) 6) ["self","lap"]
 R_is_used:MM K mg "Rounds" "is_used" "Rounds.is_used" (inClass (top 46) 8) ["self","thing"]
 R_is_kept:MM K mg "Rounds" "is_kept" "Rounds.is_kept" (inClass (top 46) 9) ["self","thing"]
 R_many_places:MM K mg "Rounds" "many_places" "Rounds.many_places" (inClass (top 46) 10) ["self"]
 R_lap:MM K mg "Rounds" "lap" "Rounds.lap" (inClass (top 46) 11) ["self"]
 R_used:MM K mg "Rounds" "used" "Rounds.used" (inClass (top 46) 12) ["self"]
 R_kept:MM K mg "Rounds" "kept" "Rounds.kept" (inClass (top 46) 13) ["self"]
 R_free:MM K mg "Rounds" "free" "Rounds.free" (inClass (top 46) 14) ["self"]
 R_going:MM K mg "Rounds" "going" "Rounds.going" (inClass (top 46) 15) ["self"]
 R_twin:MM K mg "Rounds" "twin" "Rounds.twin" (inClass (top 46) 16) ["self"]
 N_held_by:MM K mg "Node" "held_by" "Node.held_by" (inClass (top 52) 1) ["self","number","written"]
 T_most:MM K mg "Tree" "most" "Tree.most" (inClass (top 53) 1) ["self"]
 T_top:MM K mg "Tree" "top" "Tree.top" (inClass (top 53) 2) ["self"]
 T_places:MM K mg "Tree" "places" "Tree.places" (inClass (top 53) 3) ["self"]
 T_rounds:MM K mg "Tree" "rounds" "Tree.rounds" (inClass (top 53) 5) ["self"]
 T_node_in:MM K mg "Tree" "node_in" "Tree.node_in" (inClass (top 53) 7) ["self","place"]
 T_node:MM K mg "Tree" "node" "Tree.node" (inClass (top 53) 8) ["self","place"]
 T_page:MM K mg "Tree" "page" "Tree.page" (inClass (top 53) 9) ["self","place"]
 T_is_gone:MM K mg "Tree" "is_gone" "Tree.is_gone" (inClass (top 53) 14) ["self","place"]
 T_need_used:MM K mg "Tree" "need_used" "Tree.need_used" (inClass (top 53) 16) ["self","place"]
 T_need_edge:MM K mg "Tree" "need_edge" "Tree.need_edge" (inClass (top 53) 17) ["self","high","right"]
 T_held_node:MM K mg "Tree" "held_node" "Tree.held_node" (inClass (top 53) 18) ["self","place","number"]
 T_made:MM K mg "Tree" "made" "Tree.made" (inClass (top 53) 19) ["self","level","page","high","right"]
 T_hold:MM K mg "Tree" "hold" "Tree.hold" (inClass (top 53) 20) ["self","place","number"]
 T_write:MM K mg "Tree" "write" "Tree.write" (inClass (top 53) 21) ["self","place","number","page","high","right"]
 T_free:MM K mg "Tree" "free" "Tree.free" (inClass (top 53) 22) ["self","place","number"]
 T_go:MM K mg "Tree" "go" "Tree.go" (inClass (top 53) 23) ["self","place","number"]
 T_lead:MM K mg "Tree" "lead" "Tree.lead" (inClass (top 53) 24) ["self","old","new"]
 T_enter:MM K mg "Tree" "enter" "Tree.enter" (inClass (top 53) 25) ["self","number"]
 T_leave:MM K mg "Tree" "leave" "Tree.leave" (inClass (top 53) 26) ["self","number"]
 T_twin:MM K mg "Tree" "twin" "Tree.twin" (inClass (top 53) 6) ["self"]
 d_is_number:DD K mg "is_number" (top 21) ["thing"]
 d_is_whole:DD K mg "is_whole" (top 22) ["thing","low","high"]
 d_is_key:DD K mg "is_key" (top 23) ["thing"]
 d_is_good:DD K mg "is_good" (top 24) ["thing"]
 d_is_place:DD K mg "is_place" (top 25) ["thing"]
 d_is_most:DD K mg "is_most" (top 26) ["thing"]
 d_is_level:DD K mg "is_level" (top 27) ["thing"]
 d_is_count:DD K mg "is_count" (top 28) ["thing"]
 d_is_doer:DD K mg "is_doer" (top 29) ["thing"]
 d_is_row:DD K mg "is_row" (top 30) ["thing"]
 d_is_rising:DD K mg "is_rising" (top 31) ["thing"]
 d_are_page_keys:DD K mg "are_page_keys" (top 38) ["thing"]
 d_are_goods:DD K mg "are_goods" (top 39) ["thing","many"]
 d_are_places:DD K mg "are_places" (top 40) ["thing","many"]
 d_need_most:DD K mg "need_most" (top 48) ["thing"]
 d_need_level:DD K mg "need_level" (top 49) ["thing"]
 d_need_page:DD K mg "need_page" (top 50) ["level","thing"]
 d_need_doer:DD K mg "need_doer" (top 51) ["thing"]
 d__law_cell:DD K mg "_law_cell" (top 55) ["_law_script","_law_k"]
 d__law_box:DD K mg "_law_box" (top 56) ["_law_cell_here"]
 d__law_take:DD K mg "_law_take" (top 57) ["_law_box_here","_law_many"]
 d__law_keys:DD K mg "_law_keys" (top 58) ["_law_box_here","_law_many"]
 d__law_content:DD K mg "_law_content" (top 59) ["_law_box_here","_law_level"]
 d__law_state:DD K mg "_law_state" (top 60) ["_law_most"]
 d__law_given:DD K mg "_law_given" (top 61) ["_law_state_here"]
 d__law_let_free:DD K mg "_law_let_free" (top 62) ["_law_state_here"]
 d__law_made:DD K mg "_law_made" (top 63) ["_law_state_here","_law_level","_law_content_here","_law_edge_here"]
 d__law_gone:DD K mg "_law_gone" (top 64) ["_law_state_here","_law_place"]
 d__law_freed:DD K mg "_law_freed" (top 65) ["_law_state_here","_law_place"]
 d__law_written:DD K mg "_law_written" (top 66) ["_law_state_here","_law_place","_law_content_here","_law_edge_here"]
 d__law_left:DD K mg "_law_left" (top 67) ["_law_state_here","_law_number"]
 d__law_stands:DD K mg "_law_stands" (top 68) ["_law_tree","_law_state_here"]
 d__law_edge:DD K mg "_law_edge" (top 69) ["_law_box_here","_law_state_here"]
 d__law_page:DD K mg "_law_page" (top 70) ["_law_level","_law_content_here"]
 d__law_one:DD K mg "_law_one" (top 71) ["_law_box_here","_law_some"]
 d__law_done:DD K mg "_law_done" (top 72) ["_law_box_here","_law_tree","_law_state_here"]
 d__law_called:DD K mg "_law_called" (top 73) ["_law_box_here","_law_tree","_law_state_here","_law_who"]
 d__law_more:DD K mg "_law_more" (top 74) ["_law_box_here","_law_tree","_law_state_here","_law_level","_law_edge_here"]
 d__law_copied:DD K mg "_law_copied" (top 75) ["_law_state_here"]
 d_law:DD K mg "law" (top 76) ["_law_script"]
structure Fx (P:Program) (w:World) (K:PySem.W.Frag) (mg:Str→Option Value) (base:Heap) (c:Cs):Prop where
 r:Rst K mg
 PX:∃ cP fP fdP,PgN K mg cP fP fdP
 LX:∃ f fd,KdN K mg "Leaf" "Leaf.__init__" (inClass (top 43) 0) c.pg.cL f fd
 IX:∃ f fd,KdN K mg "Inner" "Inner.__init__" (inClass (top 44) 0) c.pg.cI f fd
 KF:KdF K mg c.pg
 BK:∃ f fd,(∀ C,c.pg.is C→Cls K C∧Meth K C "all_keys" f)∧Fun K "all_keys" "Page.all_keys" (inClass (top 42) 1) f fd∧Binds K fd ["self"] []
 BG:∃ f fd,(∀ C,c.pg.is C→Cls K C∧Meth K C "goods" f)∧Fun K "goods" "Page.goods" (inClass (top 42) 2) f fd∧Binds K fd ["self"] []
 RX:∃ f fd,RdN K mg c.R f fd
 NX:∃ f fd,NdN K mg c.N f fd
 TX:∃ f fd,TrN K mg c.T f fd
theorem Fx.cR {P:Program} {w:World} {K:PySem.W.Frag} {mg:Str→Option Value} {base:Heap} {c:Cs} (F:Fx P w K mg base c):Cls K c.R:=let ⟨_,_,x⟩:=F.RX; x.cl
theorem Fx.cT {P:Program} {w:World} {K:PySem.W.Frag} {mg:Str→Option Value} {base:Heap} {c:Cs} (F:Fx P w K mg base c):Cls K c.T:=let ⟨_,_,x⟩:=F.TX; x.cl
def Box (H:Hp) (p:Addr) (n:Nat):Prop:=∃ a b c:Int,H p = some (.lst [.int a,.int b,.int c])∧0 ≤ a∧0 ≤ b∧b < 2147483647∧0 ≤ c∧c ≤ n
theorem Box.lst {H:Hp} {p:Addr} {n:Nat} (x:Box H p n):∃ xs,H p = some (.lst xs):=let ⟨_,_,_,h,_⟩:=x; ⟨_,h⟩
theorem Box.mono {H:Hp} {p:Addr} {n m:Nat} (x:Box H p n) (h:n ≤ m):Box H p m:=let ⟨a,b,c,h1,h2,h3,h4,h5,h6⟩:=x; ⟨a,b,c,h1,h2,h3,h4,h5,by omega⟩
theorem Box.same {H H':Hp} {p:Addr} {n:Nat} (x:Box H p n) (s:Same H H'):Box H' p n:=let ⟨a,b,c,h1,r⟩:=x; ⟨a,b,c,s _ _ h1,r⟩
theorem Box.to {H H':Hp} {p:Addr} {n:Nat} (x:Box H p n) (s:∀ o,H p = some o→H' p = some o):Box H' p n:=let ⟨a,b,c,h1,r⟩:=x; ⟨a,b,c,s _ h1,r⟩
theorem Box.ne {H:Hp} {p q:Addr} {n:Nat} (x:Box H p n) (h:H q = none):q ≠ p:=by
 obtain ⟨xs,e⟩:=x.lst
 exact (ne_of_none e h).symm
def spTake:Sp:=fun vs H Q _=>∃ (p:Addr) (m:Int) (n:Nat),vs = [.ref p,.int m]∧Box H p n∧n ≤ 1000000∧0 < m∧m ≤ 1000000000 ∧
 ∀ (r:Int) (H':Hp),0 ≤ r→r < m→Box H' p (n + 1)→KB p H H'→Q (.int r) H'
theorem atI_mem {xs:List V} {r:Int} (h0:0 ≤ r) (h1:r < xs.length):∃ v,v ∈ xs∧atI xs r = some v:=by
 have hj:r.toNat < xs.length:=by omega
 refine ⟨xs[r.toNat],List.getElem_mem hj,?_⟩
 have e:xs[r.toNat]? = some xs[r.toNat]:=by simp [hj]
 have:=atI_nat e
 rwa [show ((r.toNat:Nat):Int) = r by omega] at this
theorem atI_ints {ns:List Int} {r:Int} (h0:0 ≤ r) (h1:r < ns.length):∃ z,z ∈ ns∧atI (ns.map V.int) r = some (.int z):=by
 obtain ⟨v,hv,e⟩:=atI_mem (xs:=ns.map V.int) h0 (by simpa using h1)
 obtain ⟨z,hz,rfl⟩:=List.mem_map.mp hv
 exact ⟨z,hz,e⟩
local macro_rules | `(tactic| walk_at "c") => `(tactic| first | assumption | exact (by decide) | exact Or.inl ⟨by decide, by decide⟩ | exact Or.inr ⟨by decide, by decide⟩ | exact ⟨by decide, by decide +kernel⟩)
local macro_rules | `(tactic| walk_at "s") => `(tactic| exact ⟨rfl, rfl, rfl, by decide +kernel, rfl, by decide +kernel, by decide +kernel⟩)
local macro_rules | `(tactic| walk_at "h") => `(tactic| first | assumption | exact upd_same | exact sg (by assumption) (by assumption) | (refine un_f ?_ ?_ <;> first | assumption | exact upd_same))
local macro_rules | `(tactic| walk_at "r1") => `(tactic| first
 | with_reducible (first | refine s_seq ?_ | refine s_set ?_ | refine s_ret ?_ | refine s_retN ?_ | refine s_drop ?_ | refine s_if ?_ | refine s_next ?_ | refine s_asg ?_ | refine s_fld ?_ | refine s_dput ?_ | refine s_par ?_ | refine k_par ?_ | refine g_name ?_ | refine g_cons ?_ | refine g_nil ?_ | refine g_sub ?_ | refine qb ?_ | refine r_test ?_ | refine r_tB ?_ | refine r_andV ?_ | refine r_orV ?_ | refine r_notV ?_ | refine r_and ?_ | refine r_or ?_ | refine r_not ?_ | refine r_ifx ?_ | refine r_c ?_ | refine r_op ?_ | refine r_un ?_ | refine q_i0 ?_ | refine q_u ?_ | refine r_chain ?_ | refine k_chain ?_ | refine r_fld ?_ | refine r_dget ?_ | refine r_lst ?_ | refine r_tup ?_ | refine r_cons ?_ | refine r_nil ?_ | refine r_call ?_ | refine r_meth ?_ | refine r_methP ?_ | refine r_make ?_ | refine r_cb ?_ | refine r_bm ?_ | refine s_for ?_ | refine r_il ?_ | refine r_rng1 ?_ | refine r_rng2 ?_ | refine r_pcons ?_ | refine r_pnil ?_ | refine r_cbk ?_ | refine iteT ?_ | refine iteF ?_ | refine iteNF ?_ | refine iteNT ?_)
 | ((with_reducible refine' r_var ?e ?q); (case e => rfl))
 | ((with_reducible refine' q_eq ?e ?q); (case e => rfl)) | ((with_reducible refine' q_ne ?e ?q); (case e => rfl))
 | ((with_reducible refine' k_fld ?h ?c ?n ?l ?q); (case h => walk_at "h"); (case c => assumption); (case n => assumption); (case l => rfl))
 | ((with_reducible refine' k_flds ?h ?c ?n ?l ?q); (case h => walk_at "h"); (case c => assumption); (case n => assumption); (case l => exact Nat.le_of_ble_eq_true rfl))
 | ((with_reducible refine' k_meth ?h ?l ?q); (case h => walk_at "h"); (case l => first | rfl | walk_at "tf"))
 | ((with_reducible refine' q_ixL ?h ?e ?q); (case h => walk_at "h"); (case e => rfl))
 | ((with_reducible refine' q_ixT ?h ?e ?q); (case h => walk_at "h"); (case e => rfl))
 | ((with_reducible refine' q_setL ?h ?e ?q); (case h => walk_at "h"); (case e => rfl))
 | ((with_reducible refine' q_i ?c ?q); (case c => walk_at "c"))
 | ((with_reducible refine' k_dgetS ?h ?e ?q); (case h => walk_at "h"); (case e => walk_at "st"))
 | ((with_reducible refine' g_tup ?h ?l ?q); (case h => walk_at "h"); (case l => rfl))
 | ((with_reducible refine' k_bmL ?h ?q); (case h => walk_at "h")) | ((with_reducible refine' k_il ?h ?q); (case h => walk_at "h")))
local macro_rules | `(tactic| walk_at "r") => `(tactic| repeat walk_at "r1")
section
variable {P:Program} {w:World} {K:PySem.W.Frag} {mg:Str→Option Value} {base:Heap} {c:Cs}
abbrev s__law_take:Stmt:=top 57
theorem log_small {m:Int} (h:0 < m) (h2:m ≤ 1000000000):m.natAbs.log2 < 9000:=by
 have e:m.natAbs < 2 ^ 30:=by omega
 have:=(Nat.log2_lt (by omega)).mpr e
 omega
theorem sm1 {x:Int}:(x % 2147483647).natAbs < 2 ^ 64:=by omega
theorem sm2 {x:Int}:0 ≤ x % 2147483629∧x % 2147483629 < 2147483629:=by omega
theorem lo_of {z c:Int} (h:0 ≤ z∧z < 2147483629) (h0:0 ≤ c):-(2 ^ 64:Int) < z + 104729 * (c + 1):=by omega
theorem hi_of {z c:Int} (h:0 ≤ z∧z < 2147483629) (h0:0 ≤ c) (h1:c ≤ 1000000):z + 104729 * (c + 1) < (2 ^ 64:Int):=by omega
theorem ok_take (F:Fx P w K mg base c):OkD P w K mg base "_law_take" s__law_take ["_law_box_here","_law_many"] 1 spTake:=by
 have T:=F.r.T
 refine F.r.d__law_take.ok (N:=["_law_box_here","_law_many","_law_digit","_law_seed","_law_number"]) fun sc H Q hr h=>?_
 obtain ⟨p,m,n,rfl,⟨a,b,c,hb,ha,hb0,hb1,hc0,hc1⟩,hn,hm,hm2,k⟩:=h
 refine ⟨_,(pss_cons (ps_if (pt_cmpR op_gt (pe_ix ix_list (pv 0) pe_int (fun _ _=>rfl)) pe_int (nomark _))
   (pss_cons (ps_v sc 2 (pe_op op_mod (pe_ix ix_list (pv 0) pe_int (fun _ _=>rfl)) (pv 1)))
  (pss_cons (ps_asg (pe_op op_fdivL (pe_ix ix_list (pv 0) pe_int (fun _ _=>rfl)) (pv 1)) (pg_sub (pv 0) pe_int set_list))
  (pss_one (ps_ret (pv 2)))))
   pss_nil)
  (pss_cons (ps_asg (pe_op op_add (pe_ix ix_list (pv 0) pe_int (fun _ _=>rfl)) pe_int) (pg_sub (pv 0) pe_int set_list))
  (pss_cons (ps_v sc 3 (pe_op op_mod (pe_op op_mul (pe_op op_add (pe_ix ix_list (pv 0) pe_int (fun _ _=>rfl)) pe_int) (pe_op op_add (pe_op op_mul pe_int (pe_ix ix_list (pv 0) pe_int (fun _ _=>rfl))) pe_int)) pe_int))
  (pss_cons (ps_v sc 4 (pe_op op_mod (pe_op op_pow (pv 3) pe_int) pe_int))
  (pss_cons (ps_v sc 4 (pe_op op_mod (pe_op op_mul (pe_op op_add (pv 4) (pe_op op_mul pe_int (pe_ix ix_list (pv 0) pe_int (fun _ _=>rfl)))) (pe_op op_add (pv 4) pe_int)) pe_int))
  (pss_one (ps_ret (pe_op op_mod (pe_op op_fdivL (pv 4) pe_int) (pv 1))))))))),?_⟩
 walk_at "r"
 refine ite2 (fun h0=>?_) (fun h0=>?_)
 ·walk_at "r"
  refine q_i ⟨hm,log_small hm hm2⟩ ?_
  walk_at "r"
  exact k _ _ (Int.emod_nonneg _ (by omega)) (Int.emod_lt_of_pos _ hm) ⟨a / m,b,c,upd_same,Int.ediv_nonneg ha (by omega),hb0,hb1,hc0,by omega⟩ (KB.refl.updP)
 ·walk_at "r"
  refine q_i (.inl ⟨by omega,by omega⟩) ?_
  walk_at "r"
  refine q_i ⟨by decide,by decide,sm1⟩ ?_
  walk_at "r"
  refine q_i (.inl ⟨?_,?_⟩) ?_
  ·exact lo_of sm2 hc0
  ·exact hi_of sm2 hc0 (by omega)
  walk_at "r"
  exact k _ _ (Int.emod_nonneg _ (by omega)) (Int.emod_lt_of_pos _ hm) ⟨a,b,c + 1,upd_same,ha,hb0,hb1,by omega,by omega⟩ (KB.refl.updP)
abbrev s__law_cell:Stmt:=top 55
def spCell (K:PySem.W.Frag):Sp:=fun vs H Q _=>∃ (a:Addr) (k:Nat) (ns:List Int),vs = [.ref a,.int k]∧SqL K H a (ns.map V.int)∧∀ i:Int,Q (.int i) H
theorem ok_cell (F:Fx P w K mg base c):OkD P w K mg base "_law_cell" s__law_cell ["_law_script","_law_k"] 1 (spCell K):=by
 have T:=F.r.T
 refine F.r.d__law_cell.ok (N:=["_law_script","_law_k"]) fun sc H Q hr h=>?_
 obtain ⟨a,j,ns,rfl,hS,k⟩:=h
 refine ⟨_,(pss_cons (ps_if (pt_cmpR op_lt (pv 1) (pe_callB call_len_seq rfl T.n_len bt_len (pa_c (pv 0) pa_nil)) (nomark _))
   (pss_one (ps_ret (pe_ix ix_list (pv 0) (pv 1) (fun _ _=>rfl))))
   pss_nil)
  (pss_one (ps_ret (pe_op op_add (pe_op op_mul pe_int (pv 1)) pe_int)))),?_⟩
 refine ⟨_,rfl,_,rfl,_,_,rfl,.inl hS,_,_,rfl,rfl,_,rfl,?_⟩
 refine ite2 (fun h0=>?_) (fun h0=>?_)
 ·have h1:(j:Int) < ((ns.map V.int).length:Nat):=of_decide_eq_true h0
  obtain ⟨z,_,e⟩:=atI_ints (ns:=ns) (r:=(j:Int)) (by omega) (by simpa using h1)
  exact ⟨_,rfl,_,rfl,_,_,_,_,rfl,rfl,hS,e,k z⟩
 ·exact ⟨_,rfl,_,_,rfl,rfl,.inl ⟨by decide,by decide⟩,_,_,rfl,rfl,k _⟩
abbrev s__law_box:Stmt:=top 56
def spBox:Sp:=fun vs H Q _=>∃ (c:Int),vs = [.int c]∧∀ (p:Addr) (H':Hp),H p = none→Box H' p 0→Same H H'→Q (.ref p) H'
theorem ok_box (F:Fx P w K mg base c):OkD P w K mg base "_law_box" s__law_box ["_law_cell_here"] 1 spBox:=by
 have T:=F.r.T
 refine F.r.d__law_box.ok (N:=["_law_cell_here"]) fun sc H Q hr h=>?_
 obtain ⟨c,rfl,k⟩:=h
 refine ⟨_,(pss_one (ps_ret (pe_lst (pa_c (pe_callB (call_max2 rfl) rfl T.n_max bt_max (pa_c pe_int (pa_c (pe_op op_sub (pv 0) (pe_op op_pow pe_int pe_int)) pa_nil))) (pa_c (pe_op op_mod (pv 0) pe_int) (pa_c pe_int pa_nil)))))),?_⟩
 walk_at "r"
 refine ⟨_,_,rfl,?_⟩
 walk_at "r"
 refine ⟨(by show 3 ≤ sizeLine; decide),fun p hp=>?_⟩
 refine k p _ hp ⟨_,_,_,upd_same,?_,Int.emod_nonneg _ (by decide),Int.emod_lt_of_pos _ (by decide),Int.le_refl _,Int.le_refl _⟩ (Same.upd hp)
 generalize c - 10 ^ (18:Int).toNat = z
 by_cases hz:z > 0
 ·rw [if_pos hz]; omega
 ·rw [if_neg hz]; omega
end
def spB (p:Int→Bool):Sp:=fun vs H Q _=>∃ i:Int,vs = [.int i]∧Q (.bl (p i)) H
def inR (lo hi:Int) (i:Int):Bool:=decide (lo ≤ i) && decide (i ≤ hi)
theorem inR_t {lo hi i:Int} (h1:lo ≤ i) (h2:i ≤ hi):inR lo hi i = true:=by unfold inR; rw [decide_eq_true h1,decide_eq_true h2]; rfl
def spW:Sp:=fun vs H Q _=>∃ i lo hi:Int,vs = [.int i,.int lo,.int hi]∧Q (.bl (inR lo hi i)) H
theorem int_int {K:PySem.W.Frag}:PySem.W.kitOne K (.type "int") (.type "int") = some true:=by kernel_rfl
theorem int_bool {K:PySem.W.Frag}:PySem.W.kitOne K (.type "int") (.type "bool") = some false:=by kernel_rfl
section
variable {P:Program} {w:World} {K:PySem.W.Frag} {mg:Str→Option Value} {base:Heap} {c:Cs}
abbrev s_is_number:Stmt:=top 21
theorem ok_isN (F:Fx P w K mg base c):OkD P w K mg base "is_number" s_is_number ["thing"] 1 (spB fun _=>true):=by
 have T:=F.r.T
 refine F.r.d_is_number.ok (N:=["thing"]) fun sc H Q hr h=>?_
 obtain ⟨i,rfl,k⟩:=h
 refine ⟨_,(pss_one (ps_ret (pe_and (pe_callB call_inst rfl T.n_isinstance bt_isinstance (pa_c (pv 0) (pa_c (pe_bltn (v:=.ty "int") rfl T.n_int bt_int rfl) pa_nil))) (pe_one (pe_not (pe_callB call_inst rfl T.n_isinstance bt_isinstance (pa_c (pv 0) (pa_c (pe_bltn (v:=.ty "bool") rfl T.n_bool bt_bool rfl) pa_nil)))))))),?_⟩
 walk_at "r"
 refine ⟨_,_,_,_,rfl,.int i,.inl ⟨"int",rfl,int_int⟩,?_⟩
 walk_at "r"
 refine ⟨_,_,_,_,rfl,.int i,.inl ⟨"bool",rfl,int_bool⟩,?_⟩
 walk_at "r"
 exact k
abbrev s_is_whole:Stmt:=top 22
theorem ok_isW (F:Fx P w K mg base c) :
  OkD P w K mg base "is_whole" s_is_whole ["thing","low","high"] 2 spW:=by
 have T:=F.r.T
 have Eis_number:=ok_isN F
 refine F.r.d_is_whole.ok (N:=["thing","low","high"]) fun sc H Q hr h=>?_
 obtain ⟨i,lo,hi,rfl,k⟩:=h
 refine ⟨_,(pss_one (ps_ret (pe_and (pe_d Eis_number hr (pa_c (pv 0) pa_nil)) (pe_one (pe_chain op_le op_le (pv 1) (pv 0) (pv 2)))))),?_⟩
 walk_at "r"
 refine ⟨i,rfl,?_⟩
 walk_at "r"
 unfold inR at k
 refine ite2 (fun c=>?_) (fun c=>?_)
 ·walk_at "r"
  rw [c,Bool.true_and] at k
  exact k
 ·rw [Bool.eq_false_iff.mpr c,Bool.false_and] at k
  exact k
abbrev s_is_key:Stmt:=top 23
theorem ok_is_key (F:Fx P w K mg base c):OkD P w K mg base "is_key" s_is_key ["thing"] 3 (spB (inR (-999999999) 999999999)):=by
 have T:=F.r.T
 have Eis_whole:=ok_isW F
 obtain ⟨t_LEAST_KEY,c_LEAST_KEY⟩:=T.c_lo
 obtain ⟨t_GREATEST_KEY,c_GREATEST_KEY⟩:=T.c_hi
 refine F.r.d_is_key.ok (N:=["thing"]) fun sc H Q hr h=>?_
 obtain ⟨i,rfl,k⟩:=h
 refine ⟨_,(pss_one (ps_ret (pe_d Eis_whole hr (pa_c (pv 0) (pa_c (pe_glob (v:=.int (-999999999)) rfl c_LEAST_KEY ⟨t_LEAST_KEY,rfl⟩) (pa_c (pe_glob (v:=.int (999999999)) rfl c_GREATEST_KEY ⟨t_GREATEST_KEY,rfl⟩) pa_nil)))))),?_⟩
 exact ⟨_,rfl,i,_,_,rfl,k⟩
abbrev s_is_good:Stmt:=top 24
theorem ok_is_good (F:Fx P w K mg base c):OkD P w K mg base "is_good" s_is_good ["thing"] 3 (spB (inR (-999999999) 999999999)):=by
 have T:=F.r.T
 have Eis_whole:=ok_isW F
 obtain ⟨t_LEAST_KEY,c_LEAST_KEY⟩:=T.c_lo
 obtain ⟨t_GREATEST_KEY,c_GREATEST_KEY⟩:=T.c_hi
 refine F.r.d_is_good.ok (N:=["thing"]) fun sc H Q hr h=>?_
 obtain ⟨i,rfl,k⟩:=h
 refine ⟨_,(pss_one (ps_ret (pe_d Eis_whole hr (pa_c (pv 0) (pa_c (pe_glob (v:=.int (-999999999)) rfl c_LEAST_KEY ⟨t_LEAST_KEY,rfl⟩) (pa_c (pe_glob (v:=.int (999999999)) rfl c_GREATEST_KEY ⟨t_GREATEST_KEY,rfl⟩) pa_nil)))))),?_⟩
 exact ⟨_,rfl,i,_,_,rfl,k⟩
abbrev s_is_most:Stmt:=top 26
theorem ok_is_most (F:Fx P w K mg base c):OkD P w K mg base "is_most" s_is_most ["thing"] 3 (spB (inR 2 5)):=by
 have T:=F.r.T
 have Eis_whole:=ok_isW F
 obtain ⟨t_LEAST_MOST,c_LEAST_MOST⟩:=T.c_lm
 obtain ⟨t_GREATEST_MOST,c_GREATEST_MOST⟩:=T.c_gm
 refine F.r.d_is_most.ok (N:=["thing"]) fun sc H Q hr h=>?_
 obtain ⟨i,rfl,k⟩:=h
 refine ⟨_,(pss_one (ps_ret (pe_d Eis_whole hr (pa_c (pv 0) (pa_c (pe_glob (v:=.int (2)) rfl c_LEAST_MOST ⟨t_LEAST_MOST,rfl⟩) (pa_c (pe_glob (v:=.int (5)) rfl c_GREATEST_MOST ⟨t_GREATEST_MOST,rfl⟩) pa_nil)))))),?_⟩
 exact ⟨_,rfl,i,_,_,rfl,k⟩
abbrev s_is_level:Stmt:=top 27
theorem ok_is_level (F:Fx P w K mg base c):OkD P w K mg base "is_level" s_is_level ["thing"] 3 (spB (inR 0 60)):=by
 have T:=F.r.T
 have Eis_whole:=ok_isW F
 obtain ⟨t_GREATEST_LEVEL,c_GREATEST_LEVEL⟩:=T.c_lv
 refine F.r.d_is_level.ok (N:=["thing"]) fun sc H Q hr h=>?_
 obtain ⟨i,rfl,k⟩:=h
 refine ⟨_,(pss_one (ps_ret (pe_d Eis_whole hr (pa_c (pv 0) (pa_c pe_int (pa_c (pe_glob (v:=.int (60)) rfl c_GREATEST_LEVEL ⟨t_GREATEST_LEVEL,rfl⟩) pa_nil)))))),?_⟩
 exact ⟨_,rfl,i,_,_,rfl,k⟩
abbrev s_is_count:Stmt:=top 28
theorem ok_is_count (F:Fx P w K mg base c):OkD P w K mg base "is_count" s_is_count ["thing"] 3 (spB (inR 0 1000000)):=by
 have T:=F.r.T
 have Eis_whole:=ok_isW F
 obtain ⟨t_GREATEST_COUNT,c_GREATEST_COUNT⟩:=T.c_cnt
 refine F.r.d_is_count.ok (N:=["thing"]) fun sc H Q hr h=>?_
 obtain ⟨i,rfl,k⟩:=h
 refine ⟨_,(pss_one (ps_ret (pe_d Eis_whole hr (pa_c (pv 0) (pa_c pe_int (pa_c (pe_glob (v:=.int (1000000)) rfl c_GREATEST_COUNT ⟨t_GREATEST_COUNT,rfl⟩) pa_nil)))))),?_⟩
 exact ⟨_,rfl,i,_,_,rfl,k⟩
abbrev s_is_doer:Stmt:=top 29
theorem ok_is_doer (F:Fx P w K mg base c):OkD P w K mg base "is_doer" s_is_doer ["thing"] 4 (spB (inR 0 1000000)):=by
 have T:=F.r.T
 have Eis_count:=ok_is_count F
 refine F.r.d_is_doer.ok (N:=["thing"]) fun sc H Q hr h=>?_
 obtain ⟨i,rfl,k⟩:=h
 refine ⟨_,(pss_one (ps_ret (pe_d Eis_count hr (pa_c (pv 0) pa_nil)))),?_⟩
 exact ⟨_,rfl,i,rfl,k⟩
abbrev s_is_place:Stmt:=top 25
theorem ok_is_place (F:Fx P w K mg base c):OkD P w K mg base "is_place" s_is_place ["thing"] 2 (spB (fun i=>decide (0 ≤ i))):=by
 have T:=F.r.T
 have Eis_number:=ok_isN F
 refine F.r.d_is_place.ok (N:=["thing"]) fun sc H Q hr h=>?_
 obtain ⟨i,rfl,k⟩:=h
 refine ⟨_,(pss_one (ps_ret (pe_and (pe_d Eis_number hr (pa_c (pv 0) pa_nil)) (pe_one (pe_cmpR op_ge (pv 0) pe_int (nomark _)))))),?_⟩
 walk_at "r"
 refine ⟨i,rfl,?_⟩
 walk_at "r"
 exact k
end
theorem wi_row {K:PySem.W.Frag} {i:Nat} {σ:St} {H:Hp} {a:Addr} {xs:List V} (e:σ[i]? = some (some (.ref a))) (h:RowAt false H a xs) (R:It→Hp→Prop) (r:R (ItB K false a) H):iSeq K false (tVar i) σ H R:=⟨_,e,a,rfl,⟨xs,h.sq⟩,r⟩
theorem filt_all {α:Type} {xs:List α}:xs.filter (fun _=>true) = xs:=List.filter_eq_self.mpr fun _ _=>rfl
def KeyR (i:Int):Prop:=-999999999 ≤ i∧i ≤ 999999999
structure KeysOk (ks:List Int):Prop where
 r:∀ i ∈ ks,KeyR i
 p:ks.Pairwise (· < ·)
 l:ks.length ≤ 6
theorem key_t {i:Int} (h:KeyR i):inR (-999999999) 999999999 i = true:=inR_t h.1 h.2
theorem list_row {K:PySem.W.Frag}:PySem.W.kitAny K (.type "list") [.type "list",.type "tuple"] = some true:=by kernel_rfl
theorem tys2:∀ c ∈ ([V.ty "list",V.ty "tuple"]:List V),(∃ n,c = .ty n)∨∃ a,c = .ref a:=by
 intro c hc
 simp only [List.mem_cons,List.not_mem_nil,or_false] at hc
 rcases hc with rfl | rfl <;> exact .inl ⟨_,rfl⟩
def spRowT:Sp:=fun vs H Q _=>∃ (a:Addr) (xs:List V),vs = [.ref a]∧RowAt false H a xs∧∀ H',Same H H'→Q (.bl true) H'
def spRise:Sp:=fun vs H Q _=>∃ (a:Addr) (ks:List Int),vs = [.ref a]∧RowAt false H a (ks.map V.int)∧KeysOk ks∧∀ H',Same H H'→Q (.bl true) H'
section
variable {P:Program} {w:World} {K:PySem.W.Frag} {mg:Str→Option Value} {base:Heap} {c:Cs}
abbrev s_is_row:Stmt:=top 30
theorem ok_row (F:Fx P w K mg base c):OkD P w K mg base "is_row" s_is_row ["thing"] 1 spRowT:=by
 have T:=F.r.T
 refine F.r.d_is_row.ok (N:=["thing"]) fun sc H Q hr h=>?_
 obtain ⟨a,xs,rfl,r,k⟩:=h
 refine ⟨_,(pss_one (ps_ret (pe_callB call_inst rfl T.n_isinstance bt_isinstance (pa_c (pv 0) (pa_c (pe_tup (pa_c (pe_bltn (v:=.ty "list") rfl T.n_list bt_list rfl) (pa_c (pe_bltn (v:=.ty "tuple") rfl T.n_tuple bt_tuple rfl) pa_nil))) pa_nil))))),?_⟩
 refine ⟨_,rfl,(by show 2 ≤ sizeLine; decide),fun p hp=>?_⟩
 exact ⟨.ref a,_,_,_,rfl,Thg.keep (.lst r) (Same.upd hp),.inr (.inr ⟨p,_,rfl,upd_same,tys2,list_row⟩),k _ (Same.upd hp)⟩
abbrev s_is_rising:Stmt:=top 31
theorem ok_rise (F:Fx P w K mg base c) :
  OkD P w K mg base "is_rising" s_is_rising ["thing"] 4 spRise:=by
 have T:=F.r.T
 have Eis_row:=ok_row F
 have Eis_key:=ok_is_key F
 refine F.r.d_is_rising.ok (N:=["thing","at","key"]) fun sc H Q hr h=>?_
 obtain ⟨a,ks,rfl,hR,ok,k⟩:=h
 refine ⟨_,(pss_cons (ps_if (pt_not (pt_val (pe_d Eis_row hr (pa_c (pv 0) pa_nil))))
   (pss_one (ps_ret pe_bl))
   pss_nil)
  (pss_cons (ps_for PassesOwn.never rfl (pi_enumL rfl T.n_enumerate bt_enumerate (pa_c (pv 0) pa_nil)) (pg_tup rfl (pgs_cons (pg_v sc 1) (pgs_cons (pg_v sc 2) pgs_nil)))
   (pss_cons (ps_if (pt_not (pt_val (pe_d Eis_key hr (pa_c (pv 2) pa_nil))))
   (pss_one (ps_ret pe_bl))
   pss_nil)
  (pss_one (ps_if (PW.pt (pw_and (pt_cmpR op_gt (pv 1) pe_int (nomark _)) (pw_and1 (pt_cmpR op_le (pv 2) (pe_ix ix_seq (pv 0) (pe_op op_sub (pv 1) pe_int) (fun _ _=>rfl)) (nomark _)))))
   (pss_one (ps_ret pe_bl))
   pss_nil))))
  (pss_one (ps_ret pe_bl)))),?_⟩
 refine ⟨_,rfl,a,_,rfl,hR,fun H1 S1=>⟨_,rfl,iteF ?_⟩⟩
 have hR1:∀ {H2:Hp},Same H H2→RowAt false H2 a (ks.map V.int):=fun S=>S _ _ hR
 refine ⟨_,rfl,a,rfl,⟨_,(hR1 S1).sq⟩,for_enumL (fun i σ H2=>Same H H2∧(∃ o1 o2,σ = [some (.ref a),o1,o2])) ⟨S1,⟨none,none,rfl⟩⟩ (fun i σ H2 _ ⟨S2,_⟩=>(hR1 S2).sq) ?_ ?_⟩
 ·rintro i y t0 σ H2 hi ⟨S2,⟨o1,o2,rfl⟩⟩ ht0
  have S3:Same H (upd H2 t0 (.tup [.int i,y])):=S2.trans (Same.upd ht0)
  rw [List.getElem?_map] at hi
  obtain ⟨z,hz,rfl⟩:=Option.map_eq_some_iff.mp hi
  obtain ⟨hil,ez⟩:=List.getElem?_eq_some_iff.mp hz
  refine ⟨_,_,rfl,SqT.of upd_same,rfl,_,_,rfl,_,_,rfl,rfl,?_⟩
  refine ⟨_,rfl,z,rfl,_,rfl,?_⟩
  rw [key_t (ok.r z (List.mem_of_getElem? hz))]
  refine iteF ?_
  refine ⟨_,rfl,_,_,rfl,rfl,_,rfl,ite2 (fun hp=>?_) (fun hp=>?_)⟩
  ·have hp':(0:Int) < (i:Int):=of_decide_eq_true hp
   have hj:i - 1 < ks.length:=by omega
   have eix:atI (ks.map V.int) ((i:Int) - 1) = some (.int ks[i - 1]):=by
    have:=atI_nat (xs:=ks.map V.int) (j:=i - 1) (v:=V.int ks[i - 1]) (by rw [List.getElem?_map,List.getElem?_eq_getElem hj]; rfl)
    rwa [show ((i - 1:Nat):Int) = (i:Int) - 1 by omega] at this
   have lt:ks[i - 1] < z:=by
    have:=List.pairwise_iff_getElem.mp ok.p (i - 1) i hj hil (by omega)
    rw [ez] at this
    exact this
   refine ⟨_,rfl,_,rfl,_,rfl,_,_,rfl,rfl,row_ix (hR1 S3) eix ⟨_,_,rfl,rfl,_,rfl,?_⟩⟩
   rw [decide_eq_false (by omega)]
   exact iteF ⟨S3,⟨_,_,rfl⟩⟩
  ·exact iteF ⟨S3,⟨_,_,rfl⟩⟩
 ·rintro σ H2 ⟨S2,⟨o1,o2,rfl⟩⟩
  exact k H2 S2
abbrev s_are_page_keys:Stmt:=top 38
theorem ok_APK (F:Fx P w K mg base c) :
  OkD P w K mg base "are_page_keys" s_are_page_keys ["thing"] 5 spRise:=by
 have T:=F.r.T
 have Eis_rising:=ok_rise F
 obtain ⟨t_MOST_KEYS,c_MOST_KEYS⟩:=T.c_most
 refine F.r.d_are_page_keys.ok (N:=["thing"]) fun sc H Q hr h=>?_
 obtain ⟨a,ks,rfl,r,ok,k⟩:=h
 refine ⟨_,(pss_one (ps_ret (pe_and (pe_d Eis_rising hr (pa_c (pv 0) pa_nil)) (pe_one (pe_cmpR op_le (pe_callB call_len_seq rfl T.n_len bt_len (pa_c (pv 0) pa_nil)) (pe_glob (v:=.int (6)) rfl c_MOST_KEYS ⟨t_MOST_KEYS,rfl⟩) (nomark _)))))),?_⟩
 refine ⟨_,rfl,a,ks,rfl,r,ok,fun H1 S1=>⟨_,rfl,?_⟩⟩
 have r1:RowAt false H1 a (ks.map V.int):=S1 _ _ r
 refine iteT ⟨_,rfl,a,_,rfl,row_len r1,_,_,rfl,rfl,?_⟩
 have l:=ok.l
 have e:decide (((ks.map V.int).length:Int) ≤ 6) = true:=decide_eq_true (by rw [List.length_map]; omega)
 show Q (.bl (decide (((ks.map V.int).length:Int) ≤ 6))) H1
 rw [e]
 exact k H1 S1
def spGoods (ok:Int→Prop):Sp:=fun vs H Q _=>∃ (a:Addr) (gs:List Int),vs = [.ref a,.int gs.length]∧RowAt false H a (gs.map V.int)∧(∀ i ∈ gs,ok i)∧gs.length ≤ 100∧gs.Nodup∧∀ H',Same H H'→Q (.bl true) H'
def spGoods':Sp:=fun vs H Q _=>∃ (a:Addr) (gs:List Int),vs = [.ref a,.int gs.length]∧RowAt false H a (gs.map V.int)∧(∀ i ∈ gs,KeyR i)∧gs.length ≤ 100∧∀ H',Same H H'→Q (.bl true) H'
theorem all_tt {α:Type} {f:α→Bool} {xs:List α} (h:∀ x ∈ xs,f x = true):(xs.map f).all id = true:=by
 rw [List.all_eq_true]
 intro b hb
 obtain ⟨x,hx,rfl⟩:=List.mem_map.mp hb
 exact h x hx
abbrev s_are_goods:Stmt:=top 39
theorem ok_AG (F:Fx P w K mg base c) :
  OkD P w K mg base "are_goods" s_are_goods ["thing","many"] 6 spGoods':=by
 have T:=F.r.T
 have Eis_row:=ok_row F
 have Eis_good:=ok_is_good F
 refine F.r.d_are_goods.ok (N:=["thing","many"]) fun sc H Q hr h=>?_
 obtain ⟨a,gs,rfl,ra,ok,hz,k⟩:=h
 refine ⟨_,(pss_one (ps_ret (pe_and (pe_d Eis_row hr (pa_c (pv 0) pa_nil)) (pe_and (pe_cmpR op_eq (pe_callB call_len_seq rfl T.n_len bt_len (pa_c (pv 0) pa_nil)) (pv 1) (nomark _)) (pe_one (pe_callB (call_allB hr.hd) rfl T.n_all bt_all (pa_c (pe_comp (blk_mk [] []) rfl (pi_seq false (pv 0)) (fun _ _ _ _ _=>PTs.nil) (fun _ _ _ _ _=>(pe_d Eis_good hr (pa_c (pv 0) pa_nil)))) pa_nil))))))),?_⟩
 refine ⟨_,rfl,a,_,rfl,ra,fun H1 S1=>⟨_,rfl,iteT ?_⟩⟩
 have ra1:RowAt false H1 a (gs.map V.int):=S1 _ _ ra
 refine ⟨_,rfl,a,_,rfl,row_len ra1,_,rfl,rfl,_,rfl,?_⟩
 rw [List.length_map,decide_eq_true rfl]
 refine iteT ?_
 refine tcb1 (comp_f (gs.map V.int) (fun _=>true) (fun _=>.bl true) (wi_row rfl ra1) (it_row ra1) ?_ ?_ (by rw [List.length_map]; omega) ?_)
 ·exact fun _ _ H2 R _ r=>r H2 (Same.refl _)
 ·intro y hy _ H2 R S2 r
  obtain ⟨z,hz,rfl⟩:=List.mem_map.mp hy
  refine ⟨_,rfl,z,rfl,?_⟩
  rw [key_t (ok z hz)]
  exact r H2 (Same.refl _)
 ·intro dd H2 f2 S2 e2
  refine ⟨dd,gs.map fun _=>true,rfl,by rw [e2,filt_all,List.map_map,List.map_map]; rfl,?_⟩
  rw [all_tt (fun _ _=>rfl)]
  exact k H2 (S1.trans S2)
theorem once_len:∀ (ns:List Int) (k:Nat),k ≤ ns.length→(onceOf ns k).length ≤ k∧((onceOf ns k).length = k ↔ (ns.take k).Nodup)∧∀ z,(onceOf ns k).any (· == z) = true ↔ z ∈ ns.take k
 | ns,0,_=>by
  refine ⟨Nat.le_refl _,?_,?_⟩
  ·simp [onceOf,PyProof.Rows.firstMet]
  ·simp [onceOf,PyProof.Rows.firstMet]
 | ns,k + 1,h=>by
  obtain ⟨h1,h2,h3⟩:=once_len ns k (by omega)
  have tk:ns.take (k + 1) = ns.take k ++ [ns[k]]:=by rw [List.take_add_one]; simp [show k < ns.length by omega]
  have gd:ns.getD k 0 = ns[k]:=by simp [List.getD,show k < ns.length by omega]
  have st:onceOf ns (k + 1) = PyProof.Rows.step_dedup (onceOf ns k) (ns[k]):=by
   show PyProof.Rows.firstMet _ _ = _
   rw [PyProof.Rows.firstMet_succ,gd]
  have sl:=PyProof.Rows.step_length (onceOf ns k) ns[k]
  have sa:=PyProof.Rows.step_any (onceOf ns k) ns[k]
  rw [st,sl,tk]
  have mem:∀ z,(PyProof.Rows.step_dedup (onceOf ns k) ns[k]).any (· == z) = true ↔ z ∈ ns.take k ++ [ns[k]]:=fun z=>by
   rw [sa z,Bool.or_eq_true,h3 z,List.mem_append,List.mem_singleton,decide_eq_true_eq]
  by_cases c:(onceOf ns k).any (· == ns[k]) = true
  ·rw [if_pos c]
   refine ⟨by omega,⟨fun z=>by omega,fun z=>?_⟩,mem⟩
   rw [List.nodup_append] at z
   exact absurd rfl (z.2.2 _ ((h3 _).mp c) _ (by simp))
  ·rw [if_neg c]
   refine ⟨by omega,⟨fun z=>?_,fun z=>?_⟩,mem⟩
   ·rw [List.nodup_append]
    exact ⟨h2.mp (by omega),by simp,fun u hu v hv e=>c ((h3 _).mpr (by rw [← List.mem_singleton.mp hv,← e]; exact hu))⟩
   ·rw [List.nodup_append] at z
    have:=h2.mpr z.1
    omega
abbrev s_are_places:Stmt:=top 40
theorem ok_AP (F:Fx P w K mg base c) :
  OkD P w K mg base "are_places" s_are_places ["thing","many"] 6 (spGoods fun i=>0 ≤ i):=by
 have T:=F.r.T
 have Eis_row:=ok_row F
 have Eis_place:=ok_is_place F
 refine F.r.d_are_places.ok (N:=["thing","many"]) fun sc H Q hr h=>?_
 obtain ⟨a,gs,rfl,ra,ok,hz,nd,k⟩:=h
 refine ⟨_,(pss_cons (ps_if (PW.pt (pw_or (pt_not (pt_val (pe_d Eis_row hr (pa_c (pv 0) pa_nil)))) (pw_or1 (pt_cmpR op_ne (pe_callB call_len_seq rfl T.n_len bt_len (pa_c (pv 0) pa_nil)) (pv 1) (nomark _)))))
   (pss_one (ps_ret pe_bl))
   pss_nil)
  (pss_one (ps_ret (pe_and (pe_callB (call_allB hr.hd) rfl T.n_all bt_all (pa_c (pe_comp (blk_mk [] []) rfl (pi_seq false (pv 0)) (fun _ _ _ _ _=>PTs.nil) (fun _ _ _ _ _=>(pe_d Eis_place hr (pa_c (pv 0) pa_nil)))) pa_nil)) (pe_one (pe_cmpR op_eq (pe_callB call_lenS rfl T.n_len bt_len (pa_c (pe_callTy (call_setL hr.hd) rfl T.n_set bt_set (pa_c (pv 0) pa_nil)) pa_nil)) (pv 1) (nomark _))))))),?_⟩
 refine ⟨_,rfl,a,_,rfl,ra,fun H1 S1=>⟨_,rfl,iteF ?_⟩⟩
 have ra1:RowAt false H1 a (gs.map V.int):=S1 _ _ ra
 refine ⟨_,rfl,a,_,rfl,row_len ra1,_,rfl,rfl,_,rfl,?_⟩
 rw [List.length_map,decide_eq_true rfl]
 refine iteF ?_
 dsimp only [tNext]
 refine tret1 (tand1 (tcb1 (comp_f (gs.map V.int) (fun _=>true) (fun _=>.bl true) (wi_row rfl ra1) (it_row ra1) ?_ ?_ (by rw [List.length_map]; omega) ?_)))
 ·exact fun _ _ H2 R _ r=>r H2 (Same.refl _)
 ·intro y hy _ H2 R S2 r
  obtain ⟨z,hz,rfl⟩:=List.mem_map.mp hy
  refine ⟨_,rfl,z,rfl,?_⟩
  have e0:decide (0 ≤ z) = true:=decide_eq_true (ok z hz)
  show R (.bl (decide (0 ≤ z))) H2
  rw [e0]
  exact r H2 (Same.refl _)
 ·intro dd H2 f2 S2 e2
  have ra2:RowAt false H2 a (gs.map V.int):=S2 _ _ ra1
  refine ⟨dd,gs.map fun _=>true,rfl,by rw [e2,filt_all,List.map_map,List.map_map]; rfl,_,rfl,?_⟩
  rw [all_tt (fun _ _=>rfl)]
  obtain ⟨o1,o2,_⟩:=once_len gs gs.length (Nat.le_refl _)
  rw [List.take_length] at o2
  refine iteT ⟨_,rfl,a,gs,rfl,ra2,by omega,fun l hl=>⟨l,_,_,rfl,upd_same,by omega,_,rfl,rfl,?_⟩⟩
  show Q (.bl (decide (V.int ((onceOf gs gs.length).length:Int) = V.int gs.length))) _
  rw [o2.mpr nd,decide_eq_true rfl]
  exact k _ ((S1.trans S2).trans (Same.upd hl))
end
def But (x:Addr) (H H':Hp):Prop:=∀ b o,H b = some o→b ≠ x→H' b = some o
def PgF (tk tg:Addr):List (Str×V):=[("key_row",.ref tk),("good_row",.ref tg)]
section
variable {P:Program} {w:World} {K:PySem.W.Frag} {mg:Str→Option Value} {base:Heap} {c:Cs}
theorem sc_page:FnScope ["self","keys","goods"] ["self","keys","goods"] (defScope (inClass (top 42) 0)):=by walk_at "s"
def spPage (C:Addr):Sp:=fun vs H Q _=>∃ (x dx a b:Addr) (xs ys:List V),vs = [.ref x,.ref a,.ref b]∧H x = some (.ins C dx [])∧H a = some (.lst xs)∧H b = some (.lst ys) ∧
 ∀ H' tk tg,But x H H'→H tk = none→H tg = none→H' x = some (.ins C dx (PgF tk tg))→H' tk = some (.tup xs)→H' tg = some (.tup ys)→Q .non H'
theorem ok_page {fP C:Addr} {fd:FuncData} (hf:Fun K "__init__" "Page.__init__" (inClass (top 42) 0) fP fd) (T:Txt K mg) (c:Cls K C) (n1:NoAttr K C "key_row") (n2:NoAttr K C "good_row"):FnOk P w K mg base CX0 1 fP fd ["self","keys","goods"] (spPage C):=by
 refine hf.ok sc_page (fun vs H Q E h=>?_) (fun cdv A outer s H vs Q E hr h=>?_)
 ·obtain ⟨_,_,_,_,_,_,rfl,_⟩:=h
  rfl
 ·obtain ⟨x,dx,a,b,xs,ys,rfl,hx,ra,rb,k⟩:=h
  refine ⟨_,(pss_cons (ps_fld (pv 0) (pe_callTy call_tuple_of rfl T.n_tuple bt_tuple (pa_c (pv 1) pa_nil)) rfl)
  (pss_one (ps_fld (pv 0) (pe_callTy call_tuple_of rfl T.n_tuple bt_tuple (pa_c (pv 2) pa_nil)) rfl))),?_⟩
  walk_at "r"
  refine ⟨a,xs,rfl,.inl ⟨SqL.of ra,fun tk hk=>?_⟩⟩
  have nk:tk ≠ x:=(ne_of_none hx hk).symm
  walk_at "r"
  have rb1:upd (upd H tk (.tup xs)) x (.ins C dx (putF "key_row" (.ref tk) [])) b = some (.lst ys):=by
   rw [upd_ne (ne_of rb hx (by intro z; cases z))]
   exact un_f hk rb
  refine ⟨b,ys,rfl,.inl ⟨SqL.of rb1,fun tg hg=>?_⟩⟩
  have ng:tg ≠ x:=(ne_of_none upd_same hg).symm
  have hg1:=hg
  rw [upd_ne ng] at hg1
  have ngk:tg ≠ tk:=(ne_of_none upd_same hg1).symm
  rw [upd_ne ngk] at hg1
  walk_at "r"
  refine k _ tk tg (fun c' o z n=>?_) hk hg1 upd_same ?_ ?_
  ·rw [upd_ne n,upd_ne (ne_of_none z hg1),upd_ne n]
   exact un_f hk z
  ·rw [upd_ne nk,upd_ne (Ne.symm ngk),upd_ne nk,upd_same]
  ·rw [upd_ne ng,upd_same]
def spMake (C:Addr) (okg:Nat→List Int→Prop):Sp:=fun vs H Q _=>∃ (x dx a b:Addr) (ks gs:List Int),vs = [.ref x,.ref a,.ref b]∧H x = some (.ins C dx [])∧H a = some (.lst (ks.map V.int))∧H b = some (.lst (gs.map V.int))∧KeysOk ks∧okg ks.length gs ∧
 ∀ H' tk tg,But x H H'→H tk = none→H tg = none→H' x = some (.ins C dx (PgF tk tg))→H' tk = some (.tup (ks.map V.int))→H' tg = some (.tup (gs.map V.int))→Q .non H'
def okL (n:Nat) (gs:List Int):Prop:=gs.length = n∧∀ i ∈ gs,KeyR i
def okI (n:Nat) (gs:List Int):Prop:=gs.length = n + 1∧(∀ i ∈ gs,0 ≤ i)∧gs.Nodup
theorem sc_leaf:FnScope ["self","keys","goods"] ["self","keys","goods"] (defScope (inClass (top 43) 0)):=by walk_at "s"
theorem sc_inner:FnScope ["self","keys","goods"] ["self","keys","goods"] (defScope (inClass (top 44) 0)):=by walk_at "s"
theorem ok_leaf {C f:Addr} {fd:FuncData} (F:Fx P w K mg base c) (X:KdN K mg "Leaf" "Leaf.__init__" (inClass (top 43) 0) C f fd):FnOk P w K mg base CX0 8 f fd ["self","keys","goods"] (spMake C okL):=by
 obtain ⟨cP,fP,fdP,y⟩:=F.PX
 have T:=F.r.T
 have Eare_page_keys:=ok_APK F
 have Eare_goods:=ok_AG F
 have GP:FnOk P w K mg base CX0 1 fP fdP ["self","keys","goods"] (spPage C):=ok_page y.fn T X.ins.cl X.n1 X.n2
 refine X.fn.ok sc_leaf (fun vs H Q E h=>?_) (fun cdv A outer s H vs Q E hr h=>?_)
 ·obtain ⟨_,_,_,_,_,_,rfl,_⟩:=h
  rfl
 ·obtain ⟨x,dx,a,b,ks,gs,rfl,hx,ha,hb,ok,og,k⟩:=h
  refine ⟨_,(pss_cons (ps_if (pt_not (pt_val (pe_d Eare_page_keys hr (pa_c (pv 1) pa_nil))))
   (pss_one ps_never)
   pss_nil)
  (pss_cons (ps_if (pt_not (pt_val (pe_d Eare_goods hr (pa_c (pv 2) (pa_c (pe_callB call_len_seq rfl T.n_len bt_len (pa_c (pv 1) pa_nil)) pa_nil)))))
   (pss_one ps_never)
   pss_nil)
  (pss_one (ps_expr (pe_base y.b GP (hr.mono (by decide)) rfl y.m y.bi pass0 (pa_c (pv 0) (pa_c (pv 1) (pa_c (pv 2) pa_nil)))))))),?_⟩
  walk_at "r"
  refine ⟨a,ks,rfl,ha,ok,fun H1 S1=>?_⟩
  walk_at "r"
  refine ⟨a,_,rfl,.inl (SqL.of (S1 _ _ ha)),?_⟩
  walk_at "r"
  refine ⟨b,gs,by rw [List.length_map,og.1]; rfl,S1 _ _ hb,og.2,by have:=ok.l; have:=og.1; omega,fun H2 S2=>?_⟩
  have S:=S1.trans S2
  walk_at "r"
  refine ⟨x,dx,a,b,_,_,rfl,S _ _ hx,S _ _ ha,S _ _ hb,fun H3 tk tg B3 f1 f2 e1 e2 e3=>?_⟩
  exact k H3 tk tg (fun c o z n=>B3 c o (S _ _ z) n) (S.free f1) (S.free f2) e1 e2 e3
theorem ok_inner {C f:Addr} {fd:FuncData} (F:Fx P w K mg base c) (X:KdN K mg "Inner" "Inner.__init__" (inClass (top 44) 0) C f fd):FnOk P w K mg base CX0 8 f fd ["self","keys","goods"] (spMake C okI):=by
 obtain ⟨cP,fP,fdP,y⟩:=F.PX
 have T:=F.r.T
 have Eare_page_keys:=ok_APK F
 have Eare_places:=ok_AP F
 have GP:FnOk P w K mg base CX0 1 fP fdP ["self","keys","goods"] (spPage C):=ok_page y.fn T X.ins.cl X.n1 X.n2
 refine X.fn.ok sc_inner (fun vs H Q E h=>?_) (fun cdv A outer s H vs Q E hr h=>?_)
 ·obtain ⟨_,_,_,_,_,_,rfl,_⟩:=h
  rfl
 ·obtain ⟨x,dx,a,b,ks,gs,rfl,hx,ha,hb,ok,og,k⟩:=h
  refine ⟨_,(pss_cons (ps_if (pt_not (pt_val (pe_d Eare_page_keys hr (pa_c (pv 1) pa_nil))))
   (pss_one ps_never)
   pss_nil)
  (pss_cons (ps_if (pt_not (pt_val (pe_d Eare_places hr (pa_c (pv 2) (pa_c (pe_op op_add (pe_callB call_len_seq rfl T.n_len bt_len (pa_c (pv 1) pa_nil)) pe_int) pa_nil)))))
   (pss_one ps_never)
   pss_nil)
  (pss_one (ps_expr (pe_base y.b GP (hr.mono (by decide)) rfl y.m y.bi pass0 (pa_c (pv 0) (pa_c (pv 1) (pa_c (pv 2) pa_nil)))))))),?_⟩
  walk_at "r"
  refine ⟨a,ks,rfl,ha,ok,fun H1 S1=>?_⟩
  walk_at "r"
  refine ⟨a,_,rfl,.inl (SqL.of (S1 _ _ ha)),?_⟩
  walk_at "r"
  refine ⟨b,gs,by rw [List.length_map,og.1]; rfl,S1 _ _ hb,og.2.1,by have:=ok.l; have:=og.1; omega,og.2.2,fun H2 S2=>?_⟩
  have S:=S1.trans S2
  walk_at "r"
  refine ⟨x,dx,a,b,_,_,rfl,S _ _ hx,S _ _ ha,S _ _ hb,fun H3 tk tg B3 f1 f2 e1 e2 e3=>?_⟩
  exact k H3 tk tg (fun c o z n=>B3 c o (S _ _ z) n) (S.free f1) (S.free f2) e1 e2 e3
def Cp.of (c:Cp) (lv:Int):Addr:=if lv = 0 then c.cL else c.cI
theorem Cp.of_is (c:Cp) (lv:Int):c.is (c.of lv):=by
 unfold Cp.of
 by_cases h:lv = 0
 ·rw [if_pos h]; exact .inl rfl
 ·rw [if_neg h]; exact .inr rfl
def Pg (c:Cp) (H:Hp) (x:Addr) (lv:Int) (ks gs:List Int):Prop:=∃ dx tk tg,H x = some (.ins (c.of lv) dx (PgF tk tg))∧H tk = some (.tup (ks.map V.int))∧H tg = some (.tup (gs.map V.int))
theorem Pg.same {c:Cp} {H H':Hp} {x:Addr} {lv:Int} {ks gs:List Int} (h:Pg c H x lv ks gs) (S:Same H H'):Pg c H' x lv ks gs:=let ⟨dx,tk,tg,a,b,d⟩:=h; ⟨dx,tk,tg,S _ _ a,S _ _ b,S _ _ d⟩
def spKs (c:Cp):Sp:=fun vs H Q _=>∃ (x:Addr) (lv:Int) (ks gs:List Int),vs = [.ref x]∧Pg c H x lv ks gs∧∀ l,H l = none→Q (.ref l) (upd H l (.lst (ks.map V.int)))
def spGs (c:Cp):Sp:=fun vs H Q _=>∃ (x:Addr) (lv:Int) (ks gs:List Int),vs = [.ref x]∧Pg c H x lv ks gs∧∀ l,H l = none→Q (.ref l) (upd H l (.lst (gs.map V.int)))
theorem sc_ak:FnScope ["self"] ["self"] (defScope (inClass (top 42) 1)):=by walk_at "s"
theorem sc_gs:FnScope ["self"] ["self"] (defScope (inClass (top 42) 2)):=by walk_at "s"
theorem ok_ak {c:Cp} {fK:Addr} {fd:FuncData} (hf:Fun K "all_keys" "Page.all_keys" (inClass (top 42) 1) fK fd) (T:Txt K mg) (hc:∀ C,c.is C→Cls K C∧NoAttr K C "key_row"):FnOk P w K mg base CX0 1 fK fd ["self"] (spKs c):=by
 refine hf.ok sc_ak (fun vs H Q E h=>?_) (fun cdv A outer s H vs Q E hr h=>?_)
 ·obtain ⟨_,_,_,_,rfl,_⟩:=h
  rfl
 ·obtain ⟨x,lv,ks,gs,rfl,⟨dx,tk,tg,h1,h2,h3⟩,k⟩:=h
  obtain ⟨c1,c2⟩:=hc _ (c.of_is lv)
  refine ⟨_,(pss_one (ps_ret (pe_callTy call_list_of rfl T.n_list bt_list (pa_c (pe_fld (pv 0) rfl) pa_nil)))),?_⟩
  walk_at "r"
  exact ⟨tk,_,rfl,.inr (SqT.of h2),k⟩
theorem ok_gs {c:Cp} {fK:Addr} {fd:FuncData} (hf:Fun K "goods" "Page.goods" (inClass (top 42) 2) fK fd) (T:Txt K mg) (hc:∀ C,c.is C→Cls K C∧NoAttr K C "good_row"):FnOk P w K mg base CX0 1 fK fd ["self"] (spGs c):=by
 refine hf.ok sc_gs (fun vs H Q E h=>?_) (fun cdv A outer s H vs Q E hr h=>?_)
 ·obtain ⟨_,_,_,_,rfl,_⟩:=h
  rfl
 ·obtain ⟨x,lv,ks,gs,rfl,⟨dx,tk,tg,h1,h2,h3⟩,k⟩:=h
  obtain ⟨c1,c2⟩:=hc _ (c.of_is lv)
  refine ⟨_,(pss_one (ps_ret (pe_callTy call_list_of rfl T.n_list bt_list (pa_c (pe_fld (pv 0) rfl) pa_nil)))),?_⟩
  walk_at "r"
  exact ⟨tg,_,rfl,.inr (SqT.of h3),k⟩
theorem bk (F:Fx P w K mg base c):∃ f fd,(∀ C,c.pg.is C→Cls K C∧Meth K C "all_keys" f)∧FnOk P w K mg base CX0 1 f fd ["self"] (spKs c.pg)∧Binds K fd ["self"] []:=by
 obtain ⟨f,fd,m,n,b⟩:=F.BK
 obtain ⟨_,_,XL⟩:=F.LX
 obtain ⟨_,_,XI⟩:=F.IX
 exact ⟨f,fd,m,ok_ak n F.r.T fun C z=>by rcases z with rfl | rfl <;> first | exact ⟨XL.ins.cl,XL.n1⟩ | exact ⟨XI.ins.cl,XI.n1⟩,b⟩
theorem bg (F:Fx P w K mg base c):∃ f fd,(∀ C,c.pg.is C→Cls K C∧Meth K C "goods" f)∧FnOk P w K mg base CX0 1 f fd ["self"] (spGs c.pg)∧Binds K fd ["self"] []:=by
 obtain ⟨f,fd,m,n,b⟩:=F.BG
 obtain ⟨_,_,XL⟩:=F.LX
 obtain ⟨_,_,XI⟩:=F.IX
 exact ⟨f,fd,m,ok_gs n F.r.T fun C z=>by rcases z with rfl | rfl <;> first | exact ⟨XL.ins.cl,XL.n2⟩ | exact ⟨XI.ins.cl,XI.n2⟩,b⟩
theorem sc_Rounds___init__:FnScope ["self"] ["self"] (defScope (inClass (top 46) 0)):=by walk_at "s"
def spInit (C:Addr):Sp:=fun vs H Q _=>∃ x dx,vs = [.ref x]∧H x = some (.ins C dx [])∧∀ du dk df dc H',H du = none→H dk = none→H df = none→H dc = none→IsR C x dx du dk df dc H' ⟨0,[],[],[],[]⟩→Keep [x] H H'→Q .non H'
theorem ok_init {C f:Addr} {fd:FuncData} (R:RdN K mg C f fd) (T:Txt K mg):FnOk P w K mg base CX0 1 f fd ["self"] (spInit C):=by
 refine R.fn.ok sc_Rounds___init__ (fun vs H Q E h=>?_) (fun cdv A outer s H vs Q E hr h=>?_)
 ·obtain ⟨_,_,rfl,_⟩:=h
  rfl
 ·obtain ⟨x,dx,rfl,hx,q⟩:=h
  have sc:=sc_Rounds___init__
  refine ⟨_,(pss_cons (ps_fld (pv 0) pe_dnewK rfl)
  (pss_cons (ps_fld (pv 0) pe_dnewK rfl)
  (pss_cons (ps_fld (pv 0) pe_dnewK rfl)
  (pss_cons (ps_fld (pv 0) pe_dnewK rfl)
  (pss_one (ps_fld (pv 0) pe_int rfl)))))),?_⟩
  have one:∀ {H1:Hp} {d:Addr} {fs fs':List (Str×V)},Keep [x] H H1→H1 x = some (.ins C dx fs)→H1 d = none→H d = none∧d ≠ x∧Keep [x] H (upd (upd H1 d (.dK [])) x (.ins C dx fs'))∧upd (upd H1 d (.dK [])) x (.ins C dx fs') x = some (.ins C dx fs')∧upd (upd H1 d (.dK [])) x (.ins C dx fs') d = some (.dK [])∧(∀ b,b ≠ x→b ≠ d→upd (upd H1 d (.dK [])) x (.ins C dx fs') b = H1 b):=fun {H1 d fs fs'} k hx1 f1=>by
   have n1:d ≠ x:=(ne_of_none hx1 f1).symm
   exact ⟨k.free f1 (by simp [n1]),n1,(k.updN f1).upd (by simp),upd_same,by rw [upd_ne n1,upd_same],fun b h1 h2=>by rw [upd_ne h1,upd_ne h2]⟩
  intro d1 f1
  refine ⟨_,rfl,x,C,dx,_,rfl,(by rw [upd_ne (ne_of_none hx f1)]; exact hx),R.cl,R.n1,by decide,?_⟩
  obtain ⟨z1,n1,k1,x1,e1,o1⟩:=one (fs':=putF "in_use" (.ref d1) []) Keep.refl hx f1
  generalize upd (upd H d1 (.dK [])) x _ = H1 at *
  intro d2 f2
  have m21:d1 ≠ d2:=ne_of_none e1 f2
  refine ⟨_,rfl,x,C,dx,_,rfl,(by rw [upd_ne (ne_of_none x1 f2)]; exact x1),R.cl,R.n2,(by show 1 < 1000; decide),?_⟩
  obtain ⟨z2,n2,k2,x2,e2,o2⟩:=one (fs':=putF "kept_laps" (.ref d2) (putF "in_use" (.ref d1) [])) k1 x1 f2
  generalize upd (upd H1 d2 (.dK [])) x _ = H2 at *
  replace e1:=(o2 d1 n1 m21).trans e1
  intro d3 f3
  have m31:d1 ≠ d3:=ne_of_none e1 f3
  have m32:d2 ≠ d3:=ne_of_none e2 f3
  refine ⟨_,rfl,x,C,dx,_,rfl,(by rw [upd_ne (ne_of_none x2 f3)]; exact x2),R.cl,R.n3,(by show 2 < 1000; decide),?_⟩
  obtain ⟨z3,n3,k3,x3,e3,o3⟩:=one (fs':=putF "free_ones" (.ref d3) (putF "kept_laps" (.ref d2) (putF "in_use" (.ref d1) []))) k2 x2 f3
  generalize upd (upd H2 d3 (.dK [])) x _ = H3 at *
  replace e1:=(o3 d1 n1 m31).trans e1
  replace e2:=(o3 d2 n2 m32).trans e2
  intro d4 f4
  have m41:d1 ≠ d4:=ne_of_none e1 f4
  have m42:d2 ≠ d4:=ne_of_none e2 f4
  have m43:d3 ≠ d4:=ne_of_none e3 f4
  refine ⟨_,rfl,x,C,dx,_,rfl,(by rw [upd_ne (ne_of_none x3 f4)]; exact x3),R.cl,R.n4,(by show 3 < 1000; decide),?_⟩
  obtain ⟨z4,n4,k4,x4,e4,o4⟩:=one (fs':=putF "call_laps" (.ref d4) (putF "free_ones" (.ref d3) (putF "kept_laps" (.ref d2) (putF "in_use" (.ref d1) [])))) k3 x3 f4
  generalize upd (upd H3 d4 (.dK [])) x _ = H4 at *
  replace e1:=(o4 d1 n1 m41).trans e1
  replace e2:=(o4 d2 n2 m42).trans e2
  replace e3:=(o4 d3 n3 m43).trans e3
  refine ⟨_,rfl,x,C,dx,_,rfl,x4,R.cl,R.n5,(by show 4 < 1000; decide),?_⟩
  refine q d1 d2 d3 d4 _ z1 z2 z3 z4 ⟨upd_same,by rw [upd_ne n1]; exact e1,by rw [upd_ne n2]; exact e2,by rw [upd_ne n3]; exact e3,by rw [upd_ne n4]; exact e4,?_⟩ (k4.upd (by simp))
  simp [m21,m31,m32,m41,m42,m43]
def spMany (C:Addr):Sp:=fun vs H Q _=>∃ (x dx du dk df dc:Addr) (S:RS),vs = [.ref x]∧IsR C x dx du dk df dc H S∧Q (.int (S.places.length:Nat)) H
theorem ok_many (F:Fx P w K mg base c):MtOk P w K mg base CX0 c.R "many_places" ["self"] 1 (spMany c.R):=by
 obtain ⟨f,fd,R⟩:=F.RX
 have T:=F.r.T
 refine F.r.R_many_places.ok (N:=["self"]) R.m fun sc H Q hr h=>?_
 obtain ⟨x,dx,du,dk,df,dc,S,rfl,r,q⟩:=h
 refine ⟨_,(pss_one (ps_ret (pe_op op_add (pe_op op_add (pe_callB call_lenD rfl T.n_len bt_len (pa_c (pe_fld (pv 0) rfl) pa_nil)) (pe_callB call_lenD rfl T.n_len bt_len (pa_c (pe_fld (pv 0) rfl) pa_nil))) (pe_callB call_lenD rfl T.n_len bt_len (pa_c (pe_fld (pv 0) rfl) pa_nil))))),?_⟩
 refine ⟨_,rfl,x,c.R,dx,_,_,rfl,r.x,R.cl,R.n1,rfl,du,_,rfl,r.u,_,rfl,x,c.R,dx,_,_,rfl,r.x,R.cl,R.n2,rfl,dk,_,rfl,r.k,_,_,rfl,rfl,_,rfl,x,c.R,dx,_,_,rfl,r.x,R.cl,R.n3,rfl,df,_,rfl,r.f,_,_,rfl,rfl,?_⟩
 rw [kT_len,kL_len,kT_len]
 have e:((S.places.length:Nat):Int) = (S.us.length:Int) + (S.ks.length:Int) + (S.fs.length:Int):=by
  unfold RS.places
  simp only [List.length_append,List.length_map]
  omega
 rw [e] at q
 exact q
def spLap (C:Addr):Sp:=fun vs H Q _=>∃ (x dx du dk df dc:Addr) (S:RS),vs = [.ref x]∧IsR C x dx du dk df dc H S∧Q (.int S.lap) H
theorem ok_lap (F:Fx P w K mg base c):MtOk P w K mg base CX0 c.R "lap" ["self"] 1 (spLap c.R):=by
 obtain ⟨f,fd,R⟩:=F.RX
 have T:=F.r.T
 refine F.r.R_lap.ok (N:=["self"]) R.m fun sc H Q hr h=>?_
 obtain ⟨x,dx,du,dk,df,dc,S,rfl,r,q⟩:=h
 exact ⟨_,(pss_one (ps_ret (pe_fld (pv 0) rfl))),_,rfl,x,c.R,dx,_,_,rfl,r.x,R.cl,R.n5,rfl,q⟩
def spSorted (C:Addr) (fr:Bool):Sp:=fun vs H Q _=>∃ (x dx du dk df dc:Addr) (S:RS),vs = [.ref x]∧IsR C x dx du dk df dc H S∧(if fr then S.fs else S.us).length < 64 ∧
 ∀ ns:List Int,ns.Perm (if fr then S.fs else S.us)→ns.Pairwise (· ≤ ·)→∀ l,H l = none→Q (.ref l) (upd H l (.lst (ns.map V.int)))
theorem ok_used (F:Fx P w K mg base c):MtOk P w K mg base CX0 c.R "used" ["self"] 1 (spSorted c.R false):=by
 obtain ⟨f,fd,R⟩:=F.RX
 have T:=F.r.T
 refine F.r.R_used.ok (N:=["self"]) R.m fun sc H Q hr h=>?_
 obtain ⟨x,dx,du,dk,df,dc,S,rfl,r,hl,q⟩:=h
 exact ⟨_,(pss_one (ps_ret (pe_callB (call_sortD hr.hd) rfl T.n_sorted bt_sorted (pa_c (pe_fld (pv 0) rfl) pa_nil)))),_,rfl,x,c.R,dx,_,_,rfl,r.x,R.cl,R.n1,rfl,du,_,S.us,rfl,.inl r.u,kT_keys _,hl,q⟩
theorem ok_free (F:Fx P w K mg base c):MtOk P w K mg base CX0 c.R "free" ["self"] 1 (spSorted c.R true):=by
 obtain ⟨f,fd,R⟩:=F.RX
 have T:=F.r.T
 refine F.r.R_free.ok (N:=["self"]) R.m fun sc H Q hr h=>?_
 obtain ⟨x,dx,du,dk,df,dc,S,rfl,r,hl,q⟩:=h
 exact ⟨_,(pss_one (ps_ret (pe_callB (call_sortD hr.hd) rfl T.n_sorted bt_sorted (pa_c (pe_fld (pv 0) rfl) pa_nil)))),_,rfl,x,c.R,dx,_,_,rfl,r.x,R.cl,R.n3,rfl,df,_,S.fs,rfl,.inl r.f,kT_keys _,hl,q⟩
def spPairs (C:Addr) (gs:Bool):Sp:=fun vs H Q _=>∃ (x dx du dk df dc:Addr) (S:RS),vs = [.ref x]∧IsR C x dx du dk df dc H S ∧
 ∀ l (ts:List Addr) H',H l = none→Same H H'→H' l = some (.lst (ts.map V.ref))→Tups H' ts (if gs then S.cs else S.ks)→Q (.ref l) H'
theorem tups_of {H H':Hp} {ts:List Addr} {ps:List (Int×Int)} (ln:ts.length = (kL ps).length) (h:∀ (j:Nat) t k x,ts[j]? = some t→(kL ps)[j]? = some (k,x)→H' t = some (.tup [kV k,x])∧H t = none):Tups H' ts ps:=
 ⟨by rw [ln,kL_len],fun j t x a b=>(h j t _ _ a (kL_at b)).1⟩
theorem ok_kept (F:Fx P w K mg base c):MtOk P w K mg base CX0 c.R "kept" ["self"] 1 (spPairs c.R false):=by
 obtain ⟨f,fd,R⟩:=F.RX
 have T:=F.r.T
 refine F.r.R_kept.ok (N:=["self"]) R.m fun sc H Q hr h=>?_
 obtain ⟨x,dx,du,dk,df,dc,S,rfl,r,q⟩:=h
 refine ⟨_,(pss_one (ps_ret (pe_callTy (call_listI hr.hd) rfl T.n_list bt_list (pa_c (pe_items (pe_fld (pv 0) rfl)) pa_nil)))),?_⟩
 refine ⟨_,rfl,x,c.R,dx,_,_,rfl,r.x,R.cl,R.n2,rfl,dk,_,rfl,r.k,fun v fv=>⟨v,dk,_,rfl,upd_same,.inl (by rw [upd_ne (ne_of_none r.k fv)]; exact r.k),fun l ts H' fl S' el ln tt=>?_⟩⟩
 have S1:=Same.upd (o:=ViewI v dk) fv
 exact q l ts H' (S1.free fl) (S1.trans S') el (tups_of ln tt)
theorem ok_going (F:Fx P w K mg base c):MtOk P w K mg base CX0 c.R "going" ["self"] 1 (spPairs c.R true):=by
 obtain ⟨f,fd,R⟩:=F.RX
 have T:=F.r.T
 refine F.r.R_going.ok (N:=["self"]) R.m fun sc H Q hr h=>?_
 obtain ⟨x,dx,du,dk,df,dc,S,rfl,r,q⟩:=h
 refine ⟨_,(pss_one (ps_ret (pe_callTy (call_listI hr.hd) rfl T.n_list bt_list (pa_c (pe_items (pe_fld (pv 0) rfl)) pa_nil)))),?_⟩
 refine ⟨_,rfl,x,c.R,dx,_,_,rfl,r.x,R.cl,R.n4,rfl,dc,_,rfl,r.c,fun v fv=>⟨v,dc,_,rfl,upd_same,.inl (by rw [upd_ne (ne_of_none r.c fv)]; exact r.c),fun l ts H' fl S' el ln tt=>?_⟩⟩
 have S1:=Same.upd (o:=ViewI v dc) fv
 exact q l ts H' (S1.free fl) (S1.trans S') el (tups_of ln tt)
def spIsU (C:Addr):Sp:=fun vs H Q _=>∃ (x dx du dk df dc:Addr) (S:RS) (p:Int),vs = [.ref x,.int p]∧IsR C x dx du dk df dc H S∧S.Ok∧Q (.bl (decide (p ∈ S.us))) H
theorem ok_isU (F:Fx P w K mg base c):MtOk P w K mg base CX0 c.R "is_used" ["self","thing"] 3 (spIsU c.R):=by
 obtain ⟨f,fd,R⟩:=F.RX
 have T:=F.r.T
 have Eis_place:=ok_is_place F
 refine F.r.R_is_used.ok (N:=["self","thing"]) R.m fun sc H Q hr h=>?_
 obtain ⟨x,dx,du,dk,df,dc,S,p,rfl,r,ok,q⟩:=h
 refine ⟨_,(pss_one (ps_ret (pe_and (pe_d Eis_place hr (pa_c (pv 1) pa_nil)) (pe_one (pe_cmpR (op_inD (hu_of hr)) (pv 1) (pe_fld (pv 0) rfl) (by with_unfolding_all rfl)))))),?_⟩
 refine ⟨_,rfl,p,rfl,_,rfl,?_⟩
 show if decide (0 ≤ p) = true then _ else _
 by_cases h0:0 ≤ p
 ·refine iteE (c:=true) (decide_eq_true h0) (iteT ⟨_,rfl,_,rfl,x,c.R,dx,_,_,rfl,r.x,R.cl,R.n1,rfl,du,_,rfl,DGet.k (k:=Sum.inl p) r.u,?_⟩)
  rw [kT_val]
  exact q
 ·refine iteE (c:=false) (decide_eq_false h0) (iteF ?_)
  have n:p ∉ S.us:=fun hm=>h0 (ok.rg p (by unfold RS.places; rw [List.append_assoc]; exact List.mem_append_left _ hm)).1
  rw [decide_eq_false n] at q
  exact q
def spIsK (C:Addr):Sp:=fun vs H Q _=>∃ (x dx du dk df dc:Addr) (S:RS) (p:Int),vs = [.ref x,.int p]∧IsR C x dx du dk df dc H S∧S.Ok∧Q (.bl (decide (p ∈ S.ks.map (·.1)))) H
theorem ok_isKp (F:Fx P w K mg base c):MtOk P w K mg base CX0 c.R "is_kept" ["self","thing"] 3 (spIsK c.R):=by
 obtain ⟨f,fd,R⟩:=F.RX
 have T:=F.r.T
 have Eis_place:=ok_is_place F
 refine F.r.R_is_kept.ok (N:=["self","thing"]) R.m fun sc H Q hr h=>?_
 obtain ⟨x,dx,du,dk,df,dc,S,p,rfl,r,ok,q⟩:=h
 refine ⟨_,(pss_one (ps_ret (pe_and (pe_d Eis_place hr (pa_c (pv 1) pa_nil)) (pe_one (pe_cmpR (op_inD (hu_of hr)) (pv 1) (pe_fld (pv 0) rfl) (by with_unfolding_all rfl)))))),?_⟩
 refine ⟨_,rfl,p,rfl,_,rfl,?_⟩
 show if decide (0 ≤ p) = true then _ else _
 by_cases h0:0 ≤ p
 ·refine iteE (c:=true) (decide_eq_true h0) (iteT ⟨_,rfl,_,rfl,x,c.R,dx,_,_,rfl,r.x,R.cl,R.n2,rfl,dk,_,rfl,DGet.k (k:=Sum.inl p) r.k,?_⟩)
  rw [kL_val]
  exact q
 ·refine iteE (c:=false) (decide_eq_false h0) (iteF ?_)
  have n:p ∉ S.ks.map (·.1):=fun hm=>h0 (ok.rg p (by unfold RS.places; exact List.mem_append_left _ (List.mem_append_right _ hm))).1
  rw [decide_eq_false n] at q
  exact q
def spPast (C:Addr):Sp:=fun vs H Q _=>∃ (x dx du dk df dc:Addr) (lp l:Int) (cs:List (Int×Int)),vs = [.ref x,.int l]∧H x = some (.ins C dx [("in_use",.ref du),("kept_laps",.ref dk),("free_ones",.ref df),("call_laps",.ref dc),("lap_now",.int lp)])∧H dc = some (.dK (kL cs))∧cs.length ≤ 1000 ∧
 ∀ H',Same H H'→Q (.bl (pastL cs l)) H'
theorem ok_past (F:Fx P w K mg base c):MtOk P w K mg base CX0 c.R "is_past" ["self","lap"] 1 (spPast c.R):=by
 obtain ⟨f,fd,R⟩:=F.RX
 have T:=F.r.T
 refine F.r.R_is_past.ok (N:=["self","lap"]) R.m fun sc H Q hr h=>?_
 obtain ⟨x,dx,du,dk,df,dc,lp,l,cs,rfl,hx,hc,few,q⟩:=h
 refine' ⟨_,(pss_one (ps_ret (pe_callB (call_allB hr.hd) rfl T.n_all bt_all (pa_c (pe_thaw (pe_comp (blk_mk ["lap"] [1]) rfl (pi_vals (pe_fld (pv 0) rfl)) (fun _ _ _ _ _=>PTs.nil) (fun _ _ _ _ _=>(pe_cmpR op_gt (pv 0) (pv 1) (nomark _))))) pa_nil)))),?_⟩
 refine tret1 (tcb1 (comp_vals (fun R' r=>⟨_,rfl,x,c.R,dx,_,_,rfl,hx,R.cl,R.n4,rfl,r⟩) hc few (fun z=>.bl (decide (l < z))) (fun c _ H2 R' _ r=>⟨_,rfl,_,rfl,_,_,rfl,rfl,r H2 (Same.refl _)⟩) fun d H2 fl S2 e2=>?_))
 refine ⟨d,cs.map (fun c=>decide (l < c.2)),rfl,by rw [e2,List.map_map]; rfl,?_⟩
 have e:(cs.map fun c=>decide (l < c.2)).all id = pastL cs l:=by unfold pastL; rw [List.all_map]; rfl
 rw [e]
 exact q _ S2
def spRel (C:Addr):Sp:=fun vs H Q _=>∃ (x dx du dk df dc:Addr) (S:RS),vs = [.ref x]∧IsR C x dx du dk df dc H S∧S.Ok∧S.places.length ≤ 500∧S.cs.length ≤ 500 ∧
 ∀ H',IsR C x dx du dk df dc H' S.rel→Keep [dk,df] H H'→Q .non H'
theorem ok_rel (F:Fx P w K mg base c):MtOk P w K mg base CX0 c.R "release" ["self"] 3 (spRel c.R):=by
 obtain ⟨f,fd,R⟩:=F.RX
 have T:=F.r.T
 have E_Rounds_is_past:=ok_past F
 have C_Rounds:=R.cl
 refine F.r.R_release.ok (N:=["self","past","place"]) R.m fun sc H Q hr h=>?_
 obtain ⟨x,dx,du,dk,df,dc,S,rfl,r,ok,few,fewc,q⟩:=h
 have big:=big1000
 have nd:=r.nd
 simp only [List.nodup_cons,List.mem_cons,List.not_mem_nil,or_false,not_or] at nd
 obtain ⟨⟨n1,n2,n3⟩,⟨n4,n5⟩,n6,_⟩:=nd
 have lk:S.ks.length ≤ 500:=by
  unfold RS.places at few
  simp only [List.length_append,List.length_map] at few
  omega
 have lf:S.fs.length + S.ks.length ≤ 500:=by
  unfold RS.places at few
  simp only [List.length_append,List.length_map] at few
  omega
 refine' ⟨_,(pss_cons (ps_thaw (ps_setComp22 (i:=1) (blk_mk2 ["self"] [0]) rfl (pi_items (pe_fld (pv 0) rfl)) (fun _ _ _ _ _=>(PTs.one (pt_val (pe_m (pv 2) C_Rounds E_Rounds_is_past hr (pa_c (pv 1) pa_nil))))) (fun _ _ _ _ _=>(pv 0)) sc.nd rfl rfl))
  (pss_one (ps_for PassesOwn.never rfl (pi_list (pv 1)) (pg_v sc 2)
   (pss_cons (ps_expr (pe_dpop1 (pe_fld (pv 0) rfl) (pv 2) ⟨rfl,rfl,rfl,rfl⟩))
  (pss_one (ps_dput (hu_of hr) (pe_fld (pv 0) rfl) (pv 2) pe_bl rfl)))))),?_⟩
 refine tseq1 (tsth1 (comp_items (fun R' z=>⟨_,rfl,x,c.R,dx,_,_,rfl,r.x,R.cl,R.n2,rfl,z⟩) r.k (by omega) (fun k=>pastL S.cs k.2) (fun k=>.int k.1) ?hc ?he fun D H1 fD S1 eD=>?_))
 case hc=>
  intro k hk H2 R' kb z
  have hx2:=kb _ _ r.x (ne_of r.x r.k (fun z=>nomatch z))
  refine ⟨_,rfl,x,dx,_,rfl,hx2,rfl,_,rfl,?_⟩
  dsimp only [tNil,List.append_nil]
  exact ⟨x,dx,du,dk,df,dc,S.lap,k.2,S.cs,rfl,hx2,kb _ _ r.c (Ne.symm n5),by omega,fun H3 S3=>⟨_,rfl,z H3 S3⟩⟩
 case he=>exact fun k hk _ H2 R' kb z=>⟨_,rfl,z H2 (Same.refl _)⟩
 have eD':H1 D = some (.lst (S.moved.map V.int)):=by rw [eD]; unfold RS.moved; rw [List.map_map]; rfl
 have r1:=r.same S1
 have nDk:D ≠ dk:=(ne_of_none r.k fD).symm
 have nDf:D ≠ df:=(ne_of_none r.f fD).symm
 dsimp only [gName,tNext]
 refine ⟨_,rfl,D,rfl,⟨_,SqL.of eD'⟩,for_list (xs:=S.moved.map V.int) (fun i σ H2=>(∃ o2,σ = [some (.ref x),some (.ref D),o2])∧IsR c.R x dx du dk df dc H2 { S with ks:=S.ks.filter (fun k=>decide (k.1 ∉ S.moved.take i)),fs:=S.fs ++ S.moved.take i }∧Keep [dk,df] H H2∧H2 D = some (.lst (S.moved.map V.int))) ⟨⟨_,rfl⟩,⟨r1.x,r1.u,?_,?_,r1.c,r1.nd⟩,Same.keep S1,eD'⟩ (fun i σ H2 _ ⟨_,_,_,e⟩=>SqL.of e) ?_ ?_⟩
 ·rw [List.take_zero,List.filter_eq_self.mpr (fun k _=>decide_eq_true (by simp))]
  exact r1.k
 ·rw [List.take_zero,List.append_nil]
  exact r1.f
 ·rintro i v σ H2 hi ⟨⟨o2,rfl⟩,r2,k2,e2⟩
  rw [List.getElem?_map] at hi
  obtain ⟨m,hm,rfl⟩:=Option.map_eq_some_iff.mp hi
  have mk:m ∈ S.ks.map (·.1):=S.moved_sub (List.mem_of_getElem? hm)
  have nt:=not_take ok.mvn hm
  have mi:m ∈ (S.ks.filter fun k=>decide (k.1 ∉ S.moved.take i)).map (·.1):=by
   obtain ⟨k,hk,rfl⟩:=List.mem_map.mp mk
   exact List.mem_map.mpr ⟨k,List.mem_filter.mpr ⟨hk,decide_eq_true nt⟩,rfl⟩
  obtain ⟨v,ev⟩:=kL_some mi
  refine ⟨_,rfl,x,c.R,dx,_,_,rfl,r2.x,R.cl,R.n2,rfl,dk,rfl,.inl ⟨_,.inl r2.k⟩,_,rfl,_,Sum.inl m,v,r2.k,rfl,ev,?_⟩
  rw [kL_drop,filter_take hm]
  have nxk:x ≠ dk:=ne_of r2.x r2.k (fun z=>nomatch z)
  have nxf:x ≠ df:=ne_of r2.x r2.f (fun z=>nomatch z)
  have hf3:upd H2 dk (.dK (kL (S.ks.filter fun k=>decide (k.1 ∉ S.moved.take (i + 1))))) df = some (.dK (kT (S.fs ++ S.moved.take i))):=by rw [upd_ne (Ne.symm n4)]; exact r2.f
  have hx3:upd H2 dk (.dK (kL (S.ks.filter fun k=>decide (k.1 ∉ S.moved.take (i + 1))))) x = some (.ins c.R dx [("in_use",.ref du),("kept_laps",.ref dk),("free_ones",.ref df),("call_laps",.ref dc),("lap_now",.int S.lap)]):=by rw [upd_ne nxk]; exact r2.x
  have ml:S.moved.length ≤ S.ks.length:=by unfold RS.moved; rw [List.length_map]; exact List.length_filter_le _ _
  refine ⟨_,rfl,x,c.R,dx,_,_,rfl,hx3,R.cl,R.n3,rfl,_,rfl,df,_,rfl,DPut.k (k:=Sum.inl m) hf3 (by rw [kT_len,List.length_append,List.length_take]; omega),?_⟩
  have nf:m ∉ S.fs ++ S.moved.take i:=fun z=>by
   rcases List.mem_append.mp z with z | z
   ·exact ok.kf mk z
   ·exact nt z
  rw [kT_put nf]
  have ta:S.fs ++ S.moved.take i ++ [m] = S.fs ++ S.moved.take (i + 1):=by rw [List.append_assoc,List.take_add_one,hm]; rfl
  rw [ta]
  refine ⟨⟨_,rfl⟩,⟨by rw [upd_ne nxf]; exact hx3,by rw [upd_ne n2,upd_ne n1]; exact r2.u,by rw [upd_ne n4,upd_same],upd_same,by rw [upd_ne (Ne.symm n6),upd_ne (Ne.symm n5)]; exact r2.c,r2.nd⟩,(k2.upd (by simp)).upd (by simp),by rw [upd_ne nDf,upd_ne nDk]; exact e2⟩
 ·rintro σ H2 ⟨⟨o2,rfl⟩,r2,k2,e2⟩
  refine q H2 ?_ k2
  rw [List.length_map,List.take_length,ok.stay] at r2
  exact r2
def spGiven (C:Addr):Sp:=fun vs H Q _=>∃ (x dx du dk df dc:Addr) (S:RS),vs = [.ref x]∧IsR C x dx du dk df dc H S∧S.Ok∧S.places.length ≤ 500 ∧
 ∀ (p:Int) H',(S.fs = []∧p = (S.places.length:Nat)∨p ∈ S.fs∧∀ n ∈ S.fs,p ≤ n)→IsR C x dx du dk df dc H' (S.take p)→Keep [du,df] H H'→Q (.int p) H'
theorem ok_given (F:Fx P w K mg base c):MtOk P w K mg base CX0 c.R "given" ["self"] 3 (spGiven c.R):=by
 obtain ⟨f,fd,R⟩:=F.RX
 have T:=F.r.T
 have E_Rounds_many_places:=ok_many F
 have C_Rounds:=R.cl
 refine F.r.R_given.ok (N:=["self","place"]) R.m fun sc H Q hr h=>?_
 obtain ⟨x,dx,du,dk,df,dc,S,rfl,r,ok,few,q⟩:=h
 have big:=big1000
 have nd:=r.nd
 simp only [List.nodup_cons,List.mem_cons,List.not_mem_nil,or_false,not_or] at nd
 obtain ⟨⟨n1,n2,n3⟩,⟨n4,n5⟩,n6,_⟩:=nd
 have lu:S.us.length ≤ 500:=by
  unfold RS.places at few
  simp only [List.length_append,List.length_map] at few
  omega
 refine' ⟨_,(pss_cons (ps_v sc 1 (pe_m0 (pv 0) C_Rounds E_Rounds_many_places hr))
  (pss_cons (ps_if (pt_truth (pe_fld (pv 0) rfl) (fun _=>rfl))
   (pss_cons (ps_v sc 1 (pe_callB (call_minD hr.hd) rfl T.n_min bt_min (pa_c (pe_fld (pv 0) rfl) pa_nil)))
  (pss_one (ps_expr (pe_dpop1 (pe_fld (pv 0) rfl) (pv 1) ⟨rfl,rfl,rfl,rfl⟩))))
   pss_nil)
  (pss_cons (ps_dput (hu_of hr) (pe_fld (pv 0) rfl) (pv 1) pe_bl rfl)
  (pss_one (ps_ret (pv 1)))))),?_⟩
 refine ⟨_,rfl,x,dx,_,rfl,r.x,rfl,x,dx,du,dk,df,dc,S,rfl,r,?_⟩
 dsimp only [gName,tNext]
 have nxu:x ≠ du:=ne_of r.x r.u (fun z=>nomatch z)
 have nxf:x ≠ df:=ne_of r.x r.f (fun z=>nomatch z)
 refine seq2 (fun σ H1=>∃ p:Int,σ = [some (.ref x),some (.int p)]∧(S.fs = []∧p = (S.places.length:Nat)∨p ∈ S.fs∧∀ n ∈ S.fs,p ≤ n)∧IsR c.R x dx du dk df dc H1 { S with fs:=S.fs.filter fun n=>decide (n ≠ p) }∧Keep [du,df] H H1) ?s1 ?r1
 case s1=>
  intro N z
  refine ⟨_,rfl,x,c.R,dx,_,_,rfl,r.x,R.cl,R.n3,rfl,_,.inr (.inr ⟨_,r.f,rfl⟩),?_⟩
  by_cases he:S.fs = []
  ·refine iteE (c:=false) (by rw [he]; rfl) (iteF (z _ _ ⟨_,rfl,.inl ⟨he,rfl⟩,?_,Keep.refl⟩))
   have e2:(S.fs.filter fun n=>decide (n ≠ ((S.places.length:Nat):Int))) = S.fs:=by rw [he]; rfl
   rw [e2]
   exact r
  ·refine iteE (c:=true) ?_ (iteT ?_)
   ·cases hc:S.fs with
    | nil=>exact absurd hc he
    | cons a as=>rfl
   refine ⟨_,rfl,x,c.R,dx,_,_,rfl,r.x,R.cl,R.n3,rfl,df,_,S.fs,rfl,.inl r.f,kT_keys _,he,fun m hm mn=>?_⟩
   dsimp only [gName,tNext]
   obtain ⟨v,ev⟩:=kT_some hm
   refine ⟨_,rfl,x,c.R,dx,_,_,rfl,r.x,R.cl,R.n3,rfl,df,rfl,.inl ⟨_,.inl r.f⟩,_,rfl,_,Sum.inl m,v,r.f,rfl,ev,?_⟩
   rw [kT_drop]
   exact z _ _ ⟨m,rfl,.inr ⟨hm,mn⟩,⟨by rw [upd_ne nxf]; exact r.x,by rw [upd_ne n2]; exact r.u,by rw [upd_ne n4]; exact r.k,upd_same,by rw [upd_ne (Ne.symm n6)]; exact r.c,r.nd⟩,Keep.refl.upd (by simp)⟩
 case r1=>
 rintro _ H1 ⟨p,rfl,hp,r1,k1⟩
 have np:p ∉ S.us:=fun hu=>by
  rcases hp with ⟨_,rfl⟩ | ⟨h1,_⟩
  ·have:=(ok.rg _ (by unfold RS.places; rw [List.append_assoc]; exact List.mem_append_left _ hu)).2
   omega
  ·exact ok.uf hu h1
 refine ⟨_,rfl,x,c.R,dx,_,_,rfl,r1.x,R.cl,R.n1,rfl,_,rfl,du,_,rfl,DPut.k (k:=Sum.inl p) r1.u (by rw [kT_len]; show S.us.length < _; omega),?_⟩
 have e3:putK (kT S.us) (Sum.inl p) (V.bl true) = kT (S.us ++ [p]):=kT_put np
 refine ⟨_,rfl,q p _ hp ⟨by rw [upd_ne nxu]; exact r1.x,by rw [upd_same]; exact congrArg (fun z=>some (HO.dK z)) e3,by rw [upd_ne (Ne.symm n1)]; exact r1.k,by rw [upd_ne (Ne.symm n2)]; exact r1.f,by rw [upd_ne (Ne.symm n3)]; exact r1.c,r1.nd⟩ (k1.upd (by simp))⟩
theorem RS.gone_len {S:RS} (o:S.Ok) {p:Int} (h:p ∈ S.us):(S.gone p).places.length = S.places.length:=(RS.gone_perm o h).length_eq
def spWent (C:Addr):Sp:=fun vs H Q E=>∃ (x dx du dk df dc:Addr) (S:RS) (p:Int),vs = [.ref x,.int p]∧IsR C x dx du dk df dc H S∧S.Ok∧S.places.length ≤ 500∧S.cs.length ≤ 500 ∧
 p ∈ S.us∧∀ H',IsR C x dx du dk df dc H' (S.gone p).rel→Keep [x,du,dk,df] H H'→Q .non H'
theorem ok_went (F:Fx P w K mg base c):MtOk P w K mg base CX0 c.R "went" ["self","place"] 5 (spWent c.R):=by
 obtain ⟨f,fd,R⟩:=F.RX
 have T:=F.r.T
 have E_Rounds_is_used:=ok_isU F
 have E_Rounds_release:=ok_rel F
 have C_Rounds:=R.cl
 refine F.r.R_went.ok (N:=["self","place"]) R.m fun sc H Q hr h=>?_
 obtain ⟨x,dx,du,dk,df,dc,S,p,rfl,r,ok,few,fewc,hp,q1⟩:=h
 have big:=big1000
 have nd:=r.nd
 simp only [List.nodup_cons,List.mem_cons,List.not_mem_nil,or_false,not_or] at nd
 obtain ⟨⟨n1,n2,n3⟩,⟨n4,n5⟩,n6,_⟩:=nd
 have lk:S.ks.length ≤ 500:=by
  unfold RS.places at few
  simp only [List.length_append,List.length_map] at few
  omega
 refine' ⟨_,(pss_cons (ps_if (pt_not (pt_val (pe_m (pv 0) C_Rounds E_Rounds_is_used hr (pa_c (pv 1) pa_nil))))
   (pss_one ps_never)
   pss_nil)
  (pss_cons (ps_expr (pe_dpop1 (pe_fld (pv 0) rfl) (pv 1) ⟨rfl,rfl,rfl,rfl⟩))
  (pss_cons (ps_dput (hu_of hr) (pe_fld (pv 0) rfl) (pv 1) (pe_fld (pv 0) rfl) rfl)
  (pss_cons (ps_fldaug (pv 0) pe_int in_add)
  (pss_one (ps_expr (pe_m0 (pv 0) C_Rounds E_Rounds_release hr))))))),?_⟩
 refine ⟨_,rfl,x,dx,_,rfl,r.x,rfl,_,rfl,?_⟩
 dsimp only [tNil,List.append_nil]
 refine ⟨x,dx,du,dk,df,dc,S,p,rfl,r,ok,_,rfl,?_⟩
 ·rw [decide_eq_true hp]
  refine iteF ?_
  obtain ⟨v,ev⟩:=kT_some hp
  refine ⟨_,rfl,x,c.R,dx,_,_,rfl,r.x,R.cl,R.n1,rfl,du,rfl,.inl ⟨_,.inl r.u⟩,_,rfl,_,Sum.inl p,v,r.u,rfl,ev,?_⟩
  rw [kT_drop]
  have nxu:x ≠ du:=ne_of r.x r.u (fun z=>nomatch z)
  have nxk:x ≠ dk:=ne_of r.x r.k (fun z=>nomatch z)
  have hx1:upd H du (.dK (kT (S.us.filter fun n=>decide (n ≠ p)))) x = some (.ins c.R dx [("in_use",.ref du),("kept_laps",.ref dk),("free_ones",.ref df),("call_laps",.ref dc),("lap_now",.int S.lap)]):=by rw [upd_ne nxu]; exact r.x
  have hu1:=upd_same (H:=H) (a:=du) (o:=.dK (kT (S.us.filter fun n=>decide (n ≠ p))))
  have hk1:upd H du (.dK (kT (S.us.filter fun n=>decide (n ≠ p)))) dk = some (.dK (kL S.ks)):=by rw [upd_ne (Ne.symm n1)]; exact r.k
  have hf1:upd H du (.dK (kT (S.us.filter fun n=>decide (n ≠ p)))) df = some (.dK (kT S.fs)):=by rw [upd_ne (Ne.symm n2)]; exact r.f
  have hc1:upd H du (.dK (kT (S.us.filter fun n=>decide (n ≠ p)))) dc = some (.dK (kL S.cs)):=by rw [upd_ne (Ne.symm n3)]; exact r.c
  have k1:Keep [x,du,dk,df] H (upd H du (.dK (kT (S.us.filter fun n=>decide (n ≠ p))))):=Keep.refl.upd (by simp)
  generalize upd H du _ = H1 at *
  refine ⟨_,rfl,x,c.R,dx,_,_,rfl,hx1,R.cl,R.n5,rfl,_,rfl,x,c.R,dx,_,_,rfl,hx1,R.cl,R.n2,rfl,_,rfl,dk,_,rfl,DPut.k (k:=Sum.inl p) hk1 (by rw [kL_len]; omega),?_⟩
  rw [kL_put (ok.uk hp)]
  have hx2:upd H1 dk (.dK (kL (S.ks ++ [(p,S.lap)]))) x = some (.ins c.R dx [("in_use",.ref du),("kept_laps",.ref dk),("free_ones",.ref df),("call_laps",.ref dc),("lap_now",.int S.lap)]):=by rw [upd_ne nxk]; exact hx1
  have hk2:=upd_same (H:=H1) (a:=dk) (o:=.dK (kL (S.ks ++ [(p,S.lap)])))
  have hu2:upd H1 dk (.dK (kL (S.ks ++ [(p,S.lap)]))) du = some (.dK (kT (S.us.filter fun n=>decide (n ≠ p)))):=by rw [upd_ne n1]; exact hu1
  have hf2:upd H1 dk (.dK (kL (S.ks ++ [(p,S.lap)]))) df = some (.dK (kT S.fs)):=by rw [upd_ne (Ne.symm n4)]; exact hf1
  have hc2:upd H1 dk (.dK (kL (S.ks ++ [(p,S.lap)]))) dc = some (.dK (kL S.cs)):=by rw [upd_ne (Ne.symm n5)]; exact hc1
  have k2:Keep [x,du,dk,df] H (upd H1 dk (.dK (kL (S.ks ++ [(p,S.lap)])))):=k1.upd (by simp)
  generalize upd H1 dk _ = H2 at *
  refine ⟨_,rfl,x,c.R,dx,_,_,rfl,hx2,R.cl,R.n5,rfl,_,_,rfl,rfl,dx,_,hx2,(by show 5 < 1000; decide),?_⟩
  have nux:du ≠ x:=Ne.symm nxu
  have nkx:dk ≠ x:=Ne.symm nxk
  have nfx:df ≠ x:=(ne_of hx2 hf2 (fun z=>nomatch z)).symm
  have ncx:dc ≠ x:=(ne_of hx2 hc2 (fun z=>nomatch z)).symm
  have r3:IsR c.R x dx du dk df dc (upd H2 x (.ins c.R dx (putF "lap_now" (.int (S.lap + 1)) [("in_use",.ref du),("kept_laps",.ref dk),("free_ones",.ref df),("call_laps",.ref dc),("lap_now",.int S.lap)]))) (S.gone p):=
   ⟨upd_same,by rw [upd_ne nux]; exact hu2,by rw [upd_ne nkx]; exact hk2,by rw [upd_ne nfx]; exact hf2,by rw [upd_ne ncx]; exact hc2,r.nd⟩
  have k3:Keep [x,du,dk,df] H (upd H2 x (.ins c.R dx (putF "lap_now" (.int (S.lap + 1)) [("in_use",.ref du),("kept_laps",.ref dk),("free_ones",.ref df),("call_laps",.ref dc),("lap_now",.int S.lap)]))):=k2.upd (by simp)
  generalize upd H2 x _ = H3 at *
  refine ⟨_,rfl,x,dx,_,rfl,r3.x,rfl,x,dx,du,dk,df,dc,S.gone p,rfl,r3,ok.gone hp,by rw [RS.gone_len ok hp]; exact few,fewc,fun H4 r4 k4=>?_⟩
  exact q1 H4 r4 (k3.trans (k4.mono (by simp)))
def spEnter (C:Addr):Sp:=fun vs H Q _=>∃ (x dx du dk df dc:Addr) (S:RS) (n:Int),vs = [.ref x,.int n]∧IsR C x dx du dk df dc H S∧S.cs.length ≤ 500∧0 ≤ n∧n ≤ 1000000∧n ∉ S.cs.map (·.1)∧∀ H',IsR C x dx du dk df dc H' (S.come n)→Keep [dc] H H'→Q .non H'
theorem ok_enter (F:Fx P w K mg base c):MtOk P w K mg base CX0 c.R "enter" ["self","number"] 6 (spEnter c.R):=by
 obtain ⟨f,fd,R⟩:=F.RX
 have T:=F.r.T
 have Eis_doer:=ok_is_doer F
 refine F.r.R_enter.ok (N:=["self","number"]) R.m fun sc H Q hr h=>?_
 obtain ⟨x,dx,du,dk,df,dc,S,n,rfl,r,few,b1,b2,hm,q⟩:=h
 have big:=big1000
 have nd:=r.nd
 simp only [List.nodup_cons,List.mem_cons,List.not_mem_nil,or_false,not_or] at nd
 obtain ⟨⟨n1,n2,n3⟩,⟨n4,n5⟩,n6,_⟩:=nd
 refine' ⟨_,(pss_cons (ps_if (pt_not (pt_val (pe_d Eis_doer hr (pa_c (pv 1) pa_nil))))
   (pss_one ps_never)
   pss_nil)
  (pss_cons (ps_if (pt_cmpR (op_inD (hu_of hr)) (pv 1) (pe_fld (pv 0) rfl) (by with_unfolding_all rfl))
   (pss_one ps_never)
   pss_nil)
  (pss_one (ps_dput (hu_of hr) (pe_fld (pv 0) rfl) (pv 1) (pe_fld (pv 0) rfl) rfl)))),?_⟩
 refine ⟨_,rfl,n,rfl,_,rfl,?_⟩
 rw [inR_t b1 b2]
 refine iteF ⟨_,rfl,_,rfl,x,c.R,dx,_,_,rfl,r.x,R.cl,R.n4,rfl,dc,_,rfl,DGet.k (k:=Sum.inl n) r.c,_,rfl,?_⟩
 rw [kL_val,decide_eq_false hm]
 refine iteF ⟨_,rfl,x,c.R,dx,_,_,rfl,r.x,R.cl,R.n5,rfl,_,rfl,x,c.R,dx,_,_,rfl,r.x,R.cl,R.n4,rfl,_,rfl,dc,_,rfl,DPut.k (k:=Sum.inl n) r.c (by rw [kL_len]; omega),?_⟩
 rw [kL_put hm]
 exact q _ ⟨by rw [upd_ne (ne_of r.x r.c (fun z=>nomatch z))]; exact r.x,by rw [upd_ne n3]; exact r.u,by rw [upd_ne n5]; exact r.k,by rw [upd_ne n6]; exact r.f,upd_same,r.nd⟩ (Keep.refl.upd (by simp))
def spLeave (C:Addr):Sp:=fun vs H Q _=>∃ (x dx du dk df dc:Addr) (S:RS) (n:Int),vs = [.ref x,.int n]∧IsR C x dx du dk df dc H S∧S.Ok∧S.places.length ≤ 500∧S.cs.length ≤ 500∧n ∈ S.cs.map (·.1)∧∀ H',IsR C x dx du dk df dc H' (S.left n).rel→Keep [dk,df,dc] H H'→Q .non H'
theorem ok_leave (F:Fx P w K mg base c):MtOk P w K mg base CX0 c.R "leave" ["self","number"] 6 (spLeave c.R):=by
 obtain ⟨f,fd,R⟩:=F.RX
 have T:=F.r.T
 have Eis_doer:=ok_is_doer F
 have E_Rounds_release:=ok_rel F
 have C_Rounds:=R.cl
 refine F.r.R_leave.ok (N:=["self","number"]) R.m fun sc H Q hr h=>?_
 obtain ⟨x,dx,du,dk,df,dc,S,n,rfl,r,ok,few,fewc,hm,q1⟩:=h
 have nd:=r.nd
 simp only [List.nodup_cons,List.mem_cons,List.not_mem_nil,or_false,not_or] at nd
 obtain ⟨⟨n1,n2,n3⟩,⟨n4,n5⟩,n6,_⟩:=nd
 refine' ⟨_,(pss_cons (ps_if (PW.pt (pw_or (pt_not (pt_val (pe_d Eis_doer hr (pa_c (pv 1) pa_nil)))) (pw_or1 (pt_cmpR (op_notInD (hu_of hr)) (pv 1) (pe_fld (pv 0) rfl) (by with_unfolding_all rfl)))))
   (pss_one ps_never)
   pss_nil)
  (pss_cons (ps_expr (pe_dpop1 (pe_fld (pv 0) rfl) (pv 1) ⟨rfl,rfl,rfl,rfl⟩))
  (pss_one (ps_expr (pe_m0 (pv 0) C_Rounds E_Rounds_release hr))))),?_⟩
 refine ⟨_,rfl,n,rfl,_,rfl,?_⟩
 obtain ⟨c0,hc0,e0⟩:=List.mem_map.mp hm
 have hr0:=ok.cr c0 hc0
 rw [e0] at hr0
 rw [inR_t hr0.1 hr0.2]
 refine iteF ⟨_,rfl,_,rfl,x,c.R,dx,_,_,rfl,r.x,R.cl,R.n4,rfl,dc,_,rfl,DGet.k (k:=Sum.inl n) r.c,_,rfl,?_⟩
 rw [kL_val,decide_eq_true hm]
 refine iteF ?_
 obtain ⟨v,ev⟩:=kL_some hm
 refine ⟨_,rfl,x,c.R,dx,_,_,rfl,r.x,R.cl,R.n4,rfl,dc,rfl,.inl ⟨_,.inl r.c⟩,_,rfl,_,Sum.inl n,v,r.c,rfl,ev,?_⟩
 rw [kL_drop]
 have r1:IsR c.R x dx du dk df dc (upd H dc (.dK (kL (S.cs.filter fun x=>decide (x.1 ≠ n))))) (S.left n):=⟨by rw [upd_ne (ne_of r.x r.c (fun z=>nomatch z))]; exact r.x,by rw [upd_ne n3]; exact r.u,by rw [upd_ne n5]; exact r.k,by rw [upd_ne n6]; exact r.f,upd_same,r.nd⟩
 have k1:Keep [dk,df,dc] H (upd H dc (.dK (kL (S.cs.filter fun x=>decide (x.1 ≠ n))))):=Keep.refl.upd (by simp)
 generalize upd H dc _ = H1 at *
 refine ⟨_,rfl,x,dx,_,rfl,r1.x,rfl,x,dx,du,dk,df,dc,S.left n,rfl,r1,ok.left n,few,?_,fun H4 r4 k4=>?_⟩
 ·exact Nat.le_trans (List.length_filter_le _ _) fewc
 ·exact q1 H4 r4 (k1.trans (k4.mono (by simp)))
theorem cp_fld {H H1:Hp} {y l C dy:Addr} {fs fs':List (Str×V)} {o:HO} (k:Keep [y] H H1) (ny:H y = none) (e:H1 y = some (.ins C dy fs)) (f:H1 l = none) :
  H l = none∧l ≠ y∧Keep [y] H (upd (upd H1 l o) y (.ins C dy fs'))∧upd (upd H1 l o) y (.ins C dy fs') y = some (.ins C dy fs')∧upd (upd H1 l o) y (.ins C dy fs') l = some o∧∀ b u,H1 b = some u→b ≠ y→upd (upd H1 l o) y (.ins C dy fs') b = some u:=by
 have n:l ≠ y:=(ne_of_none e f).symm
 exact ⟨k.free f (by simp [n]),n,(k.updN f).upd (by simp),upd_same,by rw [upd_ne n,upd_same],fun b u z nb=>by rw [upd_ne nb]; exact un_f f z⟩
def rF (a b c d:Addr) (l:Int):List (Str×V):=[("in_use",.ref a),("kept_laps",.ref b),("free_ones",.ref c),("call_laps",.ref d),("lap_now",.int l)]
def spTwin (C:Addr):Sp:=fun vs H Q _=>∃ (x dx du dk df dc:Addr) (S:RS),vs = [.ref x]∧IsR C x dx du dk df dc H S ∧
 ∀ (y dy du' dk' df' dc':Addr) H',H y = none→(∀ b ∈ [du',dk',df',dc'],H b = none)→Same H H'→IsR C y dy du' dk' df' dc' H' S→Q (.ref y) H'
theorem ok_rtwin (F:Fx P w K mg base c):MtOk P w K mg base CX0 c.R "twin" ["self"] 3 (spTwin c.R):=by
 obtain ⟨f,fd,XRounds⟩:=F.RX
 have T:=F.r.T
 have GRounds:FnOk P w K mg base CX0 1 f fd ["self"] (spInit c.R):=ok_init XRounds T
 refine F.r.R_twin.ok (N:=["self","other"]) XRounds.m fun sc H Q hr h=>?_
 obtain ⟨x,dx,du,dk,df,dc,S,rfl,r,q⟩:=h
 have cl:=XRounds.cl
 have n1:=XRounds.n1
 have n2:=XRounds.n2
 have n3:=XRounds.n3
 have n4:=XRounds.n4
 have n5:=XRounds.n5
 refine' ⟨_,(pss_cons (ps_v sc 1 (pe_make0 XRounds.mak GRounds (hr.mono (by decide)) rfl XRounds.m XRounds.bi .nil pass0))
  (pss_cons (ps_fld (pv 1) (pe_callTy call_dictD rfl T.n_dict bt_dict (pa_c (pe_fld (pv 0) rfl) pa_nil)) rfl)
  (pss_cons (ps_fld (pv 1) (pe_callTy call_dictD rfl T.n_dict bt_dict (pa_c (pe_fld (pv 0) rfl) pa_nil)) rfl)
  (pss_cons (ps_fld (pv 1) (pe_callTy call_dictD rfl T.n_dict bt_dict (pa_c (pe_fld (pv 0) rfl) pa_nil)) rfl)
  (pss_cons (ps_fld (pv 1) (pe_callTy call_dictD rfl T.n_dict bt_dict (pa_c (pe_fld (pv 0) rfl) pa_nil)) rfl)
  (pss_cons (ps_fld (pv 1) (pe_fld (pv 0) rfl) rfl)
  (pss_one (ps_ret (pv 1))))))))),?_⟩
 walk_at "r"
 intro y dy fy fdy nd
 refine ⟨y,dy,rfl,upd_same,fun a1 a2 a3 a4 H1 z1 z2 z3 z4 r1 k1=>⟨rfl,?_⟩⟩
 have k0:Keep [y] H H1:=fun b o e n=>k1 b o (new_ins fy fdy e) n
 have ny:∀ {b:Addr} {o:HO},H b = some o→b ≠ y:=fun e=>ne_of_none e fy
 have ey:H1 y = some (.ins c.R dy (rF a1 a2 a3 a4 0)):=r1.x
 clear r1 k1 z1 z2 z3 z4
 have hx:=r.x
 have old:∀ {H2:Hp} {b:Addr} {o:HO},Keep [y] H H2→H b = some o→H2 b = some o:=fun k e=>k _ _ e (by simp [ny e])
 have hx1:=old k0 hx
 walk_at "r"
 refine ⟨du,_,rfl,.inl (old k0 r.u),fun l1 f1=>?_⟩
 walk_at "r"
 obtain ⟨g1,m1,k2,ey2,e1,o2⟩:=cp_fld (o:=.dK (kT S.us)) (fs':=putF "in_use" (.ref l1) (rF a1 a2 a3 a4 0)) k0 fy ey f1
 generalize upd (upd H1 l1 _) y _ = H2 at *
 replace ey2:H2 y = some (.ins c.R dy (rF l1 a2 a3 a4 0)):=ey2
 have hx2:=old k2 hx
 walk_at "r"
 refine ⟨dk,_,rfl,.inl (old k2 r.k),fun l2 f2=>?_⟩
 walk_at "r"
 obtain ⟨g2,m2,k3,ey3,e2,o3⟩:=cp_fld (o:=.dK (kL S.ks)) (fs':=putF "kept_laps" (.ref l2) (rF l1 a2 a3 a4 0)) k2 fy ey2 f2
 have d21:l1 ≠ l2:=ne_of_none e1 f2
 replace e1:=o3 _ _ e1 m1
 generalize upd (upd H2 l2 _) y _ = H3 at *
 replace ey3:H3 y = some (.ins c.R dy (rF l1 l2 a3 a4 0)):=ey3
 have hx3:=old k3 hx
 walk_at "r"
 refine ⟨df,_,rfl,.inl (old k3 r.f),fun l3 f3=>?_⟩
 walk_at "r"
 obtain ⟨g3,m3,k4,ey4,e3,o4⟩:=cp_fld (o:=.dK (kT S.fs)) (fs':=putF "free_ones" (.ref l3) (rF l1 l2 a3 a4 0)) k3 fy ey3 f3
 have d31:l1 ≠ l3:=ne_of_none e1 f3
 have d32:l2 ≠ l3:=ne_of_none e2 f3
 replace e1:=o4 _ _ e1 m1
 replace e2:=o4 _ _ e2 m2
 generalize upd (upd H3 l3 _) y _ = H4 at *
 replace ey4:H4 y = some (.ins c.R dy (rF l1 l2 l3 a4 0)):=ey4
 have hx4:=old k4 hx
 walk_at "r"
 refine ⟨dc,_,rfl,.inl (old k4 r.c),fun l4 f4=>?_⟩
 walk_at "r"
 obtain ⟨g4,m4,k5,ey5,e4,o5⟩:=cp_fld (o:=.dK (kL S.cs)) (fs':=putF "call_laps" (.ref l4) (rF l1 l2 l3 a4 0)) k4 fy ey4 f4
 have d41:l1 ≠ l4:=ne_of_none e1 f4
 have d42:l2 ≠ l4:=ne_of_none e2 f4
 have d43:l3 ≠ l4:=ne_of_none e3 f4
 replace e1:=o5 _ _ e1 m1
 replace e2:=o5 _ _ e2 m2
 replace e3:=o5 _ _ e3 m3
 generalize upd (upd H4 l4 _) y _ = H5 at *
 replace ey5:H5 y = some (.ins c.R dy (rF l1 l2 l3 l4 0)):=ey5
 have hx5:=old k5 hx
 walk_at "r"
 refine q y dy l1 l2 l3 l4 _ fy ?_ (fun b o e=>?_) ⟨upd_same,?_,?_,?_,?_,?_⟩
 ·intro b hb
  simp only [List.mem_cons,List.not_mem_nil,or_false] at hb
  rcases hb with rfl | rfl | rfl | rfl <;> assumption
 ·rw [upd_ne (ny e)]
  exact old k5 e
 ·rw [upd_ne m1]; exact e1
 ·rw [upd_ne m2]; exact e2
 ·rw [upd_ne m3]; exact e3
 ·rw [upd_ne m4]; exact e4
 ·simp [d21,d31,d32,d41,d42,d43]
end
structure ND where
 lv:Int
 ks:List Int
 gs:List Int
 hi:Option Int
 rt:Option Int
 ver:Int
 ho:Option Int
 gone:Bool
 wr:Bool
structure MS where
 most:Int
 top:Option Int
 ns:List ND
 R:RS
def nF (lv:Int) (pg:Addr) (hi rt ho:Option Int) (wr:Bool):List (Str×V):=[("level",.int lv),("bears",.ref pg),("high",oV hi),("right",oV rt),("holder",oV ho),("written",.bl wr)]
def tF (most:Int) (r dn dv:Addr) (top:Option Int):List (Str×V):=("most_keys",.int most) :: ("own_rounds",.ref r) :: ("nodes",.ref dn) :: ("versions",.ref dv) :: (match top with | some p=>[("top_place",.int p)] | none=>[])
theorem tF_no {most:Int} {r dn dv:Addr} {top:Option Int} {m:Str} (h:(["most_keys","own_rounds","nodes","versions","top_place"]:List Str).contains m = false):(tF most r dn dv top).lookup m = none:=by
 simp only [List.contains_cons,List.contains_nil,Bool.or_false,Bool.or_eq_false_iff] at h
 obtain ⟨h1,h2,h3,h4,h5⟩:=h
 cases top <;> simp [tF,List.lookup,h1,h2,h3,h4,h5]
structure TA where
 dx:Addr
 r:Addr
 dr:Addr
 du:Addr
 dk:Addr
 df:Addr
 dc:Addr
 dn:Addr
 dv:Addr
 nd:List Addr
def IsN (c:Cs) (h:Hp) (p:Addr) (n:ND):Prop:=∃ dp pg,h p = some (.ins c.N dp (nF n.lv pg n.hi n.rt n.ho n.wr))∧Pg c.pg h pg n.lv n.ks n.gs
structure IsT (c:Cs) (a:TA) (h:Hp) (z:Addr) (M:MS):Prop where
 x:h z = some (.ins c.T a.dx (tF M.most a.r a.dn a.dv M.top))
 r:IsR c.R a.r a.dr a.du a.dk a.df a.dc h M.R
 n:h a.dn = some (.dK (pK a.nd V.ref))
 v:h a.dv = some (.dK (pK M.ns fun n=>V.int n.ver))
 l:a.nd.length = M.ns.length
 e:∀ (j:Nat) p n,a.nd[j]? = some p→M.ns[j]? = some n→IsN c h p n
 d:a.dn ∉ [a.du,a.dk,a.df,a.dc]∧a.dv ∉ [a.du,a.dk,a.df,a.dc]∧a.dn ≠ a.dv
 xr:z ≠ a.r
section
variable {c:Cs} {a:TA} {h h' H:Hp} {x:Addr} {M:MS}
theorem IsN.same {p:Addr} {n:ND} (i:IsN c h p n) (S:Same h h'):IsN c h' p n:=let ⟨dp,pg,e,g⟩:=i; ⟨dp,pg,S _ _ e,g.same S⟩
theorem IsT.same (t:IsT c a h x M) (S:Same h h'):IsT c a h' x M:=⟨S _ _ t.x,t.r.same S,S _ _ t.n,S _ _ t.v,t.l,fun j p n e1 e2=>(t.e j p n e1 e2).same S,t.d,t.xr⟩
theorem IsN.dict {p d:Addr} {n:ND} {k k':List (Key×V)} (i:IsN c h p n) (e:h d = some (.dK k)):IsN c (upd h d (.dK k')) p n:=by
 obtain ⟨dp,pg,e1,dg,tk,tg,e2,e3,e4⟩:=i
 exact ⟨dp,pg,by rw [upd_ne (ne_of e1 e (fun z=>nomatch z))]; exact e1,dg,tk,tg,by rw [upd_ne (ne_of e2 e (fun z=>nomatch z))]; exact e2,by rw [upd_ne (ne_of e3 e (fun z=>nomatch z))]; exact e3,by rw [upd_ne (ne_of e4 e (fun z=>nomatch z))]; exact e4⟩
theorem IsT.rn (t:IsT c a h x M):a.dn ∉ [a.r,a.du,a.dk,a.df,a.dc]:=fun z=>by
 rcases List.mem_cons.mp z with e | e
 ·exact ne_of t.n t.r.x (fun z=>nomatch z) e
 ·exact t.d.1 e
theorem IsT.rv (t:IsT c a h x M):a.dv ∉ [a.r,a.du,a.dk,a.df,a.dc]:=fun z=>by
 rcases List.mem_cons.mp z with e | e
 ·exact ne_of t.v t.r.x (fun z=>nomatch z) e
 ·exact t.d.2.1 e
theorem IsT.setN (t:IsT c a h x M) {y:Addr} {o:HO} {j:Nat} {n n':ND} (hj:M.ns[j]? = some n) (f:h y = none) (i:IsN c (upd h y o) y n') (ev:n'.ver = n.ver) :
  IsT c { a with nd:=a.nd.set j y } (upd (upd h y o) a.dn (.dK (pK (a.nd.set j y) V.ref))) x { M with ns:=M.ns.set j n' }:=by
 have S:Same h (upd h y o):=Same.upd f
 have t1:=t.same S
 have jl:j < M.ns.length:=(List.getElem?_eq_some_iff.mp hj).1
 refine ⟨?_,t1.r.out t.rn,upd_same,?_,by rw [List.length_set,List.length_set]; exact t.l,fun i' p m e1 e2=>?_,t.d,t.xr⟩
 ·rw [upd_ne (ne_of t.x t.n (fun z=>nomatch z))]; exact t1.x
 ·rw [upd_ne (Ne.symm t.d.2.2)]
  refine t1.v.trans (congrArg (fun z=>some (HO.dK z)) (pK_congr fun k=>?_))
  rw [List.getElem?_set]
  by_cases c0:j = k
  ·subst c0
   rw [if_pos rfl,if_pos jl,hj]
   show some (V.int n.ver) = some (V.int n'.ver)
   rw [ev]
  ·rw [if_neg c0]
 ·rw [List.getElem?_set] at e1 e2
  by_cases c0:j = i'
  ·subst c0
   rw [if_pos rfl,if_pos (by rw [t.l]; exact jl)] at e1
   rw [if_pos rfl,if_pos jl] at e2
   cases Option.some.inj e1
   cases Option.some.inj e2
   exact i.dict t1.n
  ·rw [if_neg c0] at e1 e2
   exact (t1.e i' p m e1 e2).dict t1.n
theorem IsT.setV (t:IsT c a h x M) {j:Nat} {n:ND} (hj:M.ns[j]? = some n) (v:Int) :
  IsT c a (upd h a.dv (.dK (pK (M.ns.set j { n with ver:=v }) fun n=>V.int n.ver))) x { M with ns:=M.ns.set j { n with ver:=v } }:=by
 have jl:j < M.ns.length:=(List.getElem?_eq_some_iff.mp hj).1
 refine ⟨?_,t.r.out t.rv,?_,upd_same,by rw [List.length_set]; exact t.l,fun i' p m e1 e2=>?_,t.d,t.xr⟩
 ·rw [upd_ne (ne_of t.x t.v (fun z=>nomatch z))]; exact t.x
 ·rw [upd_ne t.d.2.2]; exact t.n
 ·rw [List.getElem?_set] at e2
  by_cases c0:j = i'
  ·subst c0
   rw [if_pos rfl,if_pos jl] at e2
   cases Option.some.inj e2
   have:=t.e j p n e1 hj
   obtain ⟨dp,pg,q1,q2⟩:=this.dict (k':=pK (M.ns.set j { n with ver:=v }) fun n=>V.int n.ver) t.v
   exact ⟨dp,pg,q1,q2⟩
  ·rw [if_neg c0] at e2
   exact (t.e i' p m e1 e2).dict t.v
theorem IsT.setTop (t:IsT c a h x M) (p:Int):IsT c a (upd h x (.ins c.T a.dx (tF M.most a.r a.dn a.dv (some p)))) x { M with top:=some p }:=by
 have nx:∀ {b:Addr} {o:HO},h b = some o→(∀ C d f,o ≠ .ins C d f)→b ≠ x:=fun e n z=>by rw [z,t.x] at e; cases e; exact n _ _ _ rfl
 refine ⟨upd_same,t.r.out ?_,?_,?_,t.l,fun j p' n e1 e2=>?_,t.d,t.xr⟩
 ·intro z
  simp only [List.mem_cons,List.not_mem_nil,or_false] at z
  rcases z with e | e | e | e | e
  ·exact t.xr e
  ·exact nx t.r.u (fun _ _ _ z=>nomatch z) e.symm
  ·exact nx t.r.k (fun _ _ _ z=>nomatch z) e.symm
  ·exact nx t.r.f (fun _ _ _ z=>nomatch z) e.symm
  ·exact nx t.r.c (fun _ _ _ z=>nomatch z) e.symm
 ·rw [upd_ne (nx t.n (fun _ _ _ z=>nomatch z))]; exact t.n
 ·rw [upd_ne (nx t.v (fun _ _ _ z=>nomatch z))]; exact t.v
 ·obtain ⟨dp,pg,q1,dg,tk,tg,q2,q3,q4⟩:=t.e j p' n e1 e2
  have n1:p' ≠ x:=fun z=>by
   rw [z,t.x] at q1
   have:=(HO.ins.inj (Option.some.inj q1)).2.2
   simp [nF,tF] at this
   exact absurd this.1.1 (by decide)
  have n2:pg ≠ x:=fun z=>by
   rw [z,t.x] at q2
   have:=(HO.ins.inj (Option.some.inj q2)).2.2
   simp [PgF,tF] at this
  exact ⟨dp,pg,by rw [upd_ne n1]; exact q1,dg,tk,tg,by rw [upd_ne n2]; exact q2,by rw [upd_ne (nx q3 (fun _ _ _ z=>nomatch z))]; exact q3,by rw [upd_ne (nx q4 (fun _ _ _ z=>nomatch z))]; exact q4⟩
theorem IsT.setR (t:IsT c a h x M) (s:Same h H) {H':Hp} {S':RS} {l:List Addr} (k:Keep l H H') (hl:∀ b ∈ l,b ∈ [a.r,a.du,a.dk,a.df,a.dc]) (r':IsR c.R a.r a.dr a.du a.dk a.df a.dc H' S') :
  IsT c a (rsH h H') x { M with R:=S' }∧Chg h (rsH h H') H H':=by
 have dom:∀ b ∈ [a.r,a.du,a.dk,a.df,a.dc],h b ≠ none:=fun b hb=>by
  simp only [List.mem_cons,List.not_mem_nil,or_false] at hb
  rcases hb with rfl | rfl | rfl | rfl | rfl
  ·rw [t.r.x]; exact fun z=>nomatch z
  ·rw [t.r.u]; exact fun z=>nomatch z
  ·rw [t.r.k]; exact fun z=>nomatch z
  ·rw [t.r.f]; exact fun z=>nomatch z
  ·rw [t.r.c]; exact fun z=>nomatch z
 have cg:Chg h (rsH h H') H H':=Chg.rs (fr_keep k fun b hb=>dom b (hl b hb)) fun b o e f=>k b o e fun z=>by
  have z:=hl b z
  simp only [List.mem_cons,List.not_mem_nil,or_false] at z
  rcases z with rfl | rfl | rfl | rfl | rfl
  ·rw [s _ _ t.r.x] at e; cases e; exact absurd f (by show ¬ (("in_use" : Str) == "level" || ("in_use" : Str) == "key_row") = true; decide)
  ·rw [s _ _ t.r.u] at e; cases e; cases f
  ·rw [s _ _ t.r.k] at e; cases e; cases f
  ·rw [s _ _ t.r.f] at e; cases e; cases f
  ·rw [s _ _ t.r.c] at e; cases e; cases f
 have old:∀ {b:Addr} {o:HO},h b = some o→b ∉ [a.r,a.du,a.dk,a.df,a.dc]→rsH h H' b = some o:=fun {b o} e n=>(rs_at e).trans (k b o (s _ _ e) fun z=>n (hl b z))
 have nin:∀ {b:Addr} {o:HO},h b = some o→(∀ C d f,o ≠ .ins C d f)→(∀ q,o ≠ .dK q)→b ∉ [a.r,a.du,a.dk,a.df,a.dc]:=fun {b o} e n1 n2 hb=>by
  simp only [List.mem_cons,List.not_mem_nil,or_false] at hb
  rcases hb with rfl | rfl | rfl | rfl | rfl
  ·rw [t.r.x] at e; cases e; exact n1 _ _ _ rfl
  ·rw [t.r.u] at e; cases e; exact n2 _ rfl
  ·rw [t.r.k] at e; cases e; exact n2 _ rfl
  ·rw [t.r.f] at e; cases e; exact n2 _ rfl
  ·rw [t.r.c] at e; cases e; exact n2 _ rfl
 have nins:∀ {b C d:Addr} {f:List (Str×V)},h b = some (.ins C d f)→b ≠ a.r→b ∉ [a.r,a.du,a.dk,a.df,a.dc]:=fun {b C d f} e n hb=>by
  simp only [List.mem_cons,List.not_mem_nil,or_false] at hb
  rcases hb with rfl | rfl | rfl | rfl | rfl
  ·exact n rfl
  ·rw [t.r.u] at e; cases e
  ·rw [t.r.k] at e; cases e
  ·rw [t.r.f] at e; cases e
  ·rw [t.r.c] at e; cases e
 refine ⟨⟨old t.x (nins t.x t.xr),⟨(rs_at t.r.x).trans r'.x,(rs_at t.r.u).trans r'.u,(rs_at t.r.k).trans r'.k,(rs_at t.r.f).trans r'.f,(rs_at t.r.c).trans r'.c,r'.nd⟩,old t.n t.rn,old t.v t.rv,t.l,fun j p n e1 e2=>?_,t.d,t.xr⟩,cg⟩
 obtain ⟨dp,pg,q1,dg,tk,tg,q2,q3,q4⟩:=t.e j p n e1 e2
 have n1:p ≠ a.r:=fun z=>by
  rw [z,t.r.x] at q1
  have:=(HO.ins.inj (Option.some.inj q1)).2.2
  simp [nF] at this
 have n2:pg ≠ a.r:=fun z=>by
  rw [z,t.r.x] at q2
  have:=(HO.ins.inj (Option.some.inj q2)).2.2
  simp [PgF] at this
 exact ⟨dp,pg,old q1 (nins q1 n1),dg,tk,tg,old q2 (nins q2 n2),old q3 (nin q3 (fun _ _ _ z=>nomatch z) (fun _ z=>nomatch z)),old q4 (nin q4 (fun _ _ _ z=>nomatch z) (fun _ z=>nomatch z))⟩
theorem IsT.addN (t:IsT c a h x M) {y:Addr} {o:HO} {n:ND} (f:h y = none) (i:IsN c (upd h y o) y n) :
  IsT c { a with nd:=a.nd ++ [y] } (upd (upd (upd h y o) a.dn (.dK (pK (a.nd ++ [y]) V.ref))) a.dv (.dK (pK (M.ns ++ [n]) fun n=>V.int n.ver))) x { M with ns:=M.ns ++ [n] }:=by
 have S:Same h (upd h y o):=Same.upd f
 have t1:=t.same S
 have ev:upd (upd h y o) a.dn (.dK (pK (a.nd ++ [y]) V.ref)) a.dv = some (.dK (pK M.ns fun n=>V.int n.ver)):=by rw [upd_ne (Ne.symm t.d.2.2)]; exact t1.v
 refine ⟨?_,(t1.r.out t.rn).out t.rv,?_,upd_same,by rw [List.length_append,List.length_append,t.l]; rfl,fun j p m e1 e2=>?_,t.d,t.xr⟩
 ·rw [upd_ne (ne_of t.x t.v (fun z=>nomatch z)),upd_ne (ne_of t.x t.n (fun z=>nomatch z))]; exact t1.x
 ·rw [upd_ne t.d.2.2,upd_same]
 ·by_cases c0:j < a.nd.length
  ·rw [List.getElem?_append_left c0] at e1
   rw [List.getElem?_append_left (by rw [← t.l]; exact c0)] at e2
   exact ((t1.e j p m e1 e2).dict t1.n).dict ev
  ·rw [List.getElem?_append_right (by omega)] at e1
   rw [List.getElem?_append_right (by rw [← t.l]; omega),← t.l] at e2
   cases c1:j - a.nd.length with
   | zero=>
    rw [c1] at e1 e2
    cases Option.some.inj e1
    cases Option.some.inj e2
    exact (i.dict t1.n).dict ev
   | succ k=>rw [c1] at e1; cases e1
theorem IsT.put (t:IsT c a h x M) (s:Same h H) {H1:Hp} {y:Addr} {o:HO} {j:Nat} {n n':ND} (hj:M.ns[j]? = some n) (S1:Same H H1) (f:H y = none) (e:H1 y = some o) (i:IsN c (upd h y o) y n') (ev:n'.ver = n.ver) :
  IsT c { a with nd:=a.nd.set j y } (upd (upd h y o) a.dn (.dK (pK (a.nd.set j y) V.ref))) x { M with ns:=M.ns.set j n' }∧Chg h (upd (upd h y o) a.dn (.dK (pK (a.nd.set j y) V.ref))) H (upd H1 a.dn (.dK (putK (pK a.nd V.ref) (Sum.inl (j:Int)) (.ref y)))):=by
 have jl:j < a.nd.length:=by rw [t.l]; exact (List.getElem?_eq_some_iff.mp hj).1
 have c1:Chg h (upd h y o) H H1:=.addS s S1 f e
 rw [pK_set (f:=V.ref) jl]
 exact ⟨t.setN hj (s.free f) i ev,c1.trans (.mut c1.sm (un_f (s.free f) t.n))⟩
theorem IsT.putV (t:IsT c a h x M) (s:Same h H) {j:Nat} {n:ND} (hj:M.ns[j]? = some n) (v:Int) :
  IsT c a (upd h a.dv (.dK (pK (M.ns.set j { n with ver:=v }) fun n=>V.int n.ver))) x { M with ns:=M.ns.set j { n with ver:=v } }∧Chg h (upd h a.dv (.dK (pK (M.ns.set j { n with ver:=v }) fun n=>V.int n.ver))) H (upd H a.dv (.dK (putK (pK M.ns fun n=>V.int n.ver) (Sum.inl (j:Int)) (.int v)))):=by
 have jl:j < M.ns.length:=(List.getElem?_eq_some_iff.mp hj).1
 have e:putK (pK M.ns fun n=>V.int n.ver) (Sum.inl (j:Int)) (.int v) = pK (M.ns.set j { n with ver:=v }) fun n=>V.int n.ver:=pK_set (f:=fun n:ND=>V.int n.ver) (x:={ n with ver:=v }) jl
 rw [e]
 exact ⟨t.setV hj v,.mut s t.v⟩
theorem Pg.rs {cp:Cp} {pg:Addr} {lv:Int} {ks gs:List Int} {l:List Addr} {H':Hp} (i:Pg cp h pg lv ks gs) (s:Same h H) (k:Keep l H H') (hl:∀ b ∈ l,∃ q,h b = some (.dK q)):Pg cp (rsH h H') pg lv ks gs:=by
 obtain ⟨dx,tk,tg,e1,e2,e3⟩:=i
 have old:∀ {b:Addr} {o:HO},h b = some o→(∀ q,o ≠ .dK q)→rsH h H' b = some o:=fun {b o} e n=>(rs_at e).trans (k b o (s _ _ e) fun z=>by
  obtain ⟨q,hq⟩:=hl b z
  rw [hq] at e
  cases e
  exact n _ rfl)
 exact ⟨dx,tk,tg,old e1 (fun _ z=>nomatch z),old e2 (fun _ z=>nomatch z),old e3 (fun _ z=>nomatch z)⟩
theorem Pg.add {cp:Cp} {h1 H':Hp} {pg dx tk tg:Addr} {lv:Int} {ks gs:List Int} (cg:Chg h h1 H H') (f1:H pg = none) (f2:H tk = none) (f3:H tg = none) (e1:H' pg = some (.ins (cp.of lv) dx (PgF tk tg))) (e2:H' tk = some (.tup (ks.map V.int))) (e3:H' tg = some (.tup (gs.map V.int))) :
  ∃ h2,Chg h h2 H H'∧Pg cp h2 pg lv ks gs∧∀ b o,h1 b = some o→h2 b = some o:=by
 refine ⟨_,((cg.ext f1 e1).ext f2 e2).ext f3 e3,⟨dx,tk,tg,?_,?_,upd_same⟩,fun b o z=>?_⟩
 ·rw [upd_ne (ne_of e1 e3 (fun z=>nomatch z)),upd_ne (ne_of e1 e2 (fun z=>nomatch z)),upd_same]
 ·by_cases q:tk = tg
  ·rw [q,upd_same]; rw [q,e3] at e2; exact e2
  ·rw [upd_ne q,upd_same]
 ·have z':=cg.sm _ _ z
  have go:∀ {g:Hp} {y:Addr} {u:HO},g b = some o→H' y = some u→upd g y u b = some o:=fun {g y u} q1 q2=>by
   by_cases d:b = y
   ·rw [d,upd_same]; rw [d,q2] at z'; exact z'
   ·rw [upd_ne d]; exact q1
  exact go (go (go z e1) e2) e3
end
local macro_rules | `(tactic| walk_at "tf") => `(tactic| exact tF_no rfl)
section
variable {P:Program} {w:World} {K:PySem.W.Frag} {mg:Str→Option Value} {base:Heap} {c:Cs}
theorem sc_Node___init__:FnScope ["self","level","bears","high","right"] ["self","level","bears","high","right"] (defScope (inClass (top 52) 0)):=by walk_at "s"
def spNode (C:Addr):Sp:=fun vs H Q _=>∃ (x dx pg:Addr) (lv:Int) (hi rt:Option Int),vs = [.ref x,.int lv,.ref pg,oV hi,oV rt]∧H x = some (.ins C dx []) ∧
 ∀ H',H' x = some (.ins C dx (nF lv pg hi rt none false))→But x H H'→Q .non H'
theorem ok_node {C f:Addr} {fd:FuncData} (R:NdN K mg C f fd) (T:Txt K mg):FnOk P w K mg base CX0 1 f fd ["self","level","bears","high","right"] (spNode C):=by
 refine R.fn.ok sc_Node___init__ (fun vs H Q E h=>?_) (fun cdv A outer s H vs Q E hr h=>?_)
 ·obtain ⟨_,_,_,_,_,_,rfl,_⟩:=h
  rfl
 ·obtain ⟨x,dx,pg,lv,hi,rt,rfl,hx,q⟩:=h
  have sc:=sc_Node___init__
  obtain ⟨_,_,_,_,cl,n1,n2,n3,n4,n5,n6⟩:=R
  refine' ⟨_,(pss_cons (ps_fld (pv 0) (pv 1) rfl)
  (pss_cons (ps_fld (pv 0) (pv 2) rfl)
  (pss_cons (ps_fld (pv 0) (pv 3) rfl)
  (pss_cons (ps_fld (pv 0) (pv 4) rfl)
  (pss_cons (ps_fld (pv 0) pe_non rfl)
  (pss_one (ps_fld (pv 0) pe_bl rfl))))))),?_⟩
  walk_at "r"
  refine q _ upd_same (fun b o z n=>?_)
  rw [upd_ne n,upd_ne n,upd_ne n,upd_ne n,upd_ne n,upd_ne n]
  exact z
def spHeld (C:Addr):Sp:=fun vs H Q _=>∃ (x dx pg:Addr) (lv:Int) (hi rt ho ho':Option Int) (wr wr':Bool),vs = [.ref x,oV ho',.bl wr']∧H x = some (.ins C dx (nF lv pg hi rt ho wr)) ∧
 ∀ y dy H',H y = none→Same H H'→H' y = some (.ins C dy (nF lv pg hi rt ho' wr'))→Q (.ref y) H'
theorem ok_held (F:Fx P w K mg base c):MtOk P w K mg base CX0 c.N "held_by" ["self","number","written"] 3 (spHeld c.N):=by
 obtain ⟨f,fd,XNode⟩:=F.NX
 have T:=F.r.T
 have GNode:FnOk P w K mg base CX0 1 f fd ["self","level","bears","high","right"] (spNode c.N):=ok_node XNode T
 refine F.r.N_held_by.ok (N:=["self","number","written","other"]) XNode.m fun sc H Q hr h=>?_
 obtain ⟨x,dx,pg,lv,hi,rt,ho,ho',wr,wr',rfl,hx,q⟩:=h
 have X:=XNode
 obtain ⟨_,_,_,_,cl,n1,n2,n3,n4,n5,n6⟩:=X
 refine' ⟨_,(pss_cons (ps_v sc 3 (pe_make XNode.mak GNode (hr.mono (by decide)) rfl XNode.m XNode.bi .nil pass0 (pa_c (pe_fld (pv 0) rfl) (pa_c (pe_fld (pv 0) rfl) (pa_c (pe_fld (pv 0) rfl) (pa_c (pe_fld (pv 0) rfl) pa_nil))))))
  (pss_cons (ps_fld (pv 3) (pv 1) rfl)
  (pss_cons (ps_fld (pv 3) (pv 2) rfl)
  (pss_one (ps_ret (pv 3)))))),?_⟩
 walk_at "r"
 intro y dy fy fdy nd
 refine ⟨y,dy,pg,lv,hi,rt,rfl,upd_same,fun H1 e1 k1=>⟨rfl,?_⟩⟩
 walk_at "r"
 refine q y dy _ fy (fun b o z=>?_) upd_same
 have ny:b ≠ y:=ne_of_none z fy
 rw [upd_ne ny,upd_ne ny]
 exact k1 b o (new_ins fy fdy z) ny
abbrev s_need_most:Stmt:=top 48
theorem ok_need_most (F:Fx P w K mg base c):OkD P w K mg base "need_most" s_need_most ["thing"] 4 (fun vs H Q _=>∃ i:Int,vs = [.int i]∧(inR 2 5) i = true∧Q .non H):=by
 have T:=F.r.T
 have Eis_most:=ok_is_most F
 refine F.r.d_need_most.ok (N:=["thing"]) fun sc H Q hr h=>?_
 obtain ⟨i,rfl,hi,k⟩:=h
 refine ⟨_,(pss_one (ps_if (pt_not (pt_val (pe_d Eis_most hr (pa_c (pv 0) pa_nil))))
   (pss_one ps_never)
   pss_nil)),?_⟩
 walk_at "r"
 refine ⟨i,rfl,?_⟩
 rw [hi]
 walk_at "r"
 exact k
abbrev s_need_level:Stmt:=top 49
theorem ok_need_level (F:Fx P w K mg base c):OkD P w K mg base "need_level" s_need_level ["thing"] 4 (fun vs H Q _=>∃ i:Int,vs = [.int i]∧(inR 0 60) i = true∧Q .non H):=by
 have T:=F.r.T
 have Eis_level:=ok_is_level F
 refine F.r.d_need_level.ok (N:=["thing"]) fun sc H Q hr h=>?_
 obtain ⟨i,rfl,hi,k⟩:=h
 refine ⟨_,(pss_one (ps_if (pt_not (pt_val (pe_d Eis_level hr (pa_c (pv 0) pa_nil))))
   (pss_one ps_never)
   pss_nil)),?_⟩
 walk_at "r"
 refine ⟨i,rfl,?_⟩
 rw [hi]
 walk_at "r"
 exact k
abbrev s_need_doer:Stmt:=top 51
theorem ok_need_doer (F:Fx P w K mg base c):OkD P w K mg base "need_doer" s_need_doer ["thing"] 5 (fun vs H Q _=>∃ i:Int,vs = [.int i]∧(inR 0 1000000) i = true∧Q .non H):=by
 have T:=F.r.T
 have Eis_doer:=ok_is_doer F
 refine F.r.d_need_doer.ok (N:=["thing"]) fun sc H Q hr h=>?_
 obtain ⟨i,rfl,hi,k⟩:=h
 refine ⟨_,(pss_one (ps_if (pt_not (pt_val (pe_d Eis_doer hr (pa_c (pv 0) pa_nil))))
   (pss_one ps_never)
   pss_nil)),?_⟩
 walk_at "r"
 refine ⟨i,rfl,?_⟩
 rw [hi]
 walk_at "r"
 exact k
abbrev s_need_page:Stmt:=top 50
def spNP (c:Cs):Sp:=fun vs H Q _=>∃ (lv:Int) (pg:Addr) (ks gs:List Int),vs = [.int lv,.ref pg]∧Pg c.pg H pg lv ks gs∧Q .non H
theorem ok_need_page (F:Fx P w K mg base c):OkD P w K mg base "need_page" s_need_page ["level","thing"] 1 (spNP c):=by
 have T:=F.r.T
 have KF:=F.KF
 have MLeaf:=KF.mL
 have MInner:=KF.mI
 refine F.r.d_need_page.ok (N:=["level","thing","fitting"]) fun sc H Q hr h=>?_
 obtain ⟨lv,pg,ks,gs,rfl,⟨dx,tk,tg,h1,h2,h3⟩,k⟩:=h
 refine ⟨_,(pss_cons (ps_v sc 2 (pe_ifExp (pt_cmpR op_eq (pv 0) pe_int (nomark _)) (pe_callB call_instO rfl T.n_isinstance bt_isinstance (pa_c (pv 1) (pa_c (pe_glob (v:=.ref c.pg.cL) rfl MLeaf rfl) pa_nil))) (pe_callB call_instO rfl T.n_isinstance bt_isinstance (pa_c (pv 1) (pa_c (pe_glob (v:=.ref c.pg.cI) rfl MInner rfl) pa_nil)))))
  (pss_one (ps_if (pt_not (pt_val (pv 2)))
   (pss_one ps_never)
   pss_nil))),?_⟩
 refine seq2 (fun σ H1=>σ = [some (.int lv),some (.ref pg),some (.bl true)]∧H = H1) ?s1 ?r1
 case s1=>
  intro N z
  refine s_set ?_
  walk_at "r"
  by_cases c0:lv = 0
  ·subst c0
   rw [decide_eq_true rfl]
   walk_at "r"
   exact ⟨pg,c.pg.cL,c.pg.cL,dx,_,true,rfl,h1,KF.iL,KF.LL,z _ _ ⟨rfl,rfl⟩⟩
  ·rw [decide_eq_false (fun z=>c0 (V.int.inj z))]
   walk_at "r"
   have h1':H pg = some (.ins c.pg.cI dx (PgF tk tg)):=by rw [h1]; unfold Cp.of; rw [if_neg c0]
   exact ⟨pg,c.pg.cI,c.pg.cI,dx,_,true,rfl,h1',KF.iI,KF.II,z _ _ ⟨rfl,rfl⟩⟩
 case r1=>
  rintro σ H1 ⟨rfl,rfl⟩
  walk_at "r"
  exact k
def spMost (c:Cs):Sp:=fun vs H Q _=>∃ (a:TA) (h:Hp) (x:Addr) (M:MS),vs = [.ref x]∧IsT c a h x M∧Same h H∧Q (.int M.most) H
theorem ok_T_most (F:Fx P w K mg base c):MtOk P w K mg base CX0 c.T "most" ["self"] 1 (spMost c):=by
 obtain ⟨f,fd,X⟩:=F.TX
 have C_Rounds:=F.cR
 have T:=F.r.T
 have C_Tree:=X.cl
 refine F.r.T_most.ok (N:=["self"]) X.m fun sc H Q hr h=>?_
 obtain ⟨a,h,x,M,rfl,t,s,k⟩:=h
 obtain ⟨_,_,_,_,cl,n1,n2,n3,n4,n5⟩:=X
 have hx:=s _ _ t.x
 have hR:=t.r.same s
 have hr0:=hR.x
 refine' ⟨_,(pss_one (ps_ret (pe_fld (pv 0) rfl))),?_⟩
 walk_at "r"
 exact k
def spTop (c:Cs):Sp:=fun vs H Q _=>∃ (a:TA) (h:Hp) (x:Addr) (M:MS),vs = [.ref x]∧IsT c a h x M∧Same h H∧∃ p:Int,M.top = some p∧Q (.int p) H
theorem ok_T_top (F:Fx P w K mg base c):MtOk P w K mg base CX0 c.T "top" ["self"] 1 (spTop c):=by
 obtain ⟨f,fd,X⟩:=F.TX
 have C_Rounds:=F.cR
 have T:=F.r.T
 have C_Tree:=X.cl
 refine F.r.T_top.ok (N:=["self"]) X.m fun sc H Q hr h=>?_
 obtain ⟨a,h,x,M,rfl,t,s,p,tp,k⟩:=h
 obtain ⟨_,_,_,_,cl,n1,n2,n3,n4,n5⟩:=X
 have hx:=s _ _ t.x
 have hR:=t.r.same s
 have hr0:=hR.x
 refine' ⟨_,(pss_one (ps_ret (pe_fld (pv 0) rfl))),?_⟩
 rw [tp] at hx
 walk_at "r"
 exact k
def spPlaces (c:Cs):Sp:=fun vs H Q _=>∃ (a:TA) (h:Hp) (x:Addr) (M:MS),vs = [.ref x]∧IsT c a h x M∧Same h H∧M.R.us.length < 64∧∀ ns:List Int,ns.Perm M.R.us→ns.Pairwise (· ≤ ·)→∀ l,H l = none→Q (.ref l) (upd H l (.lst (ns.map V.int)))
theorem ok_T_places (F:Fx P w K mg base c):MtOk P w K mg base CX0 c.T "places" ["self"] 2 (spPlaces c):=by
 obtain ⟨f,fd,X⟩:=F.TX
 have C_Rounds:=F.cR
 have T:=F.r.T
 have E_Rounds_used:=ok_used F
 have C_Tree:=X.cl
 refine F.r.T_places.ok (N:=["self"]) X.m fun sc H Q hr h=>?_
 obtain ⟨a,h,x,M,rfl,t,s,few,k⟩:=h
 obtain ⟨_,_,_,_,cl,n1,n2,n3,n4,n5⟩:=X
 have hx:=s _ _ t.x
 have hR:=t.r.same s
 have hr0:=hR.x
 refine' ⟨_,(pss_one (ps_ret (pe_m0 (pe_fld (pv 0) rfl) C_Rounds E_Rounds_used hr))),?_⟩
 walk_at "r"
 exact ⟨a.r,a.dr,a.du,a.dk,a.df,a.dc,M.R,rfl,hR,few,k⟩
def spRounds (c:Cs):Sp:=fun vs H Q _=>∃ (a:TA) (h:Hp) (x:Addr) (M:MS),vs = [.ref x]∧IsT c a h x M∧Same h H∧∀ (y dy du' dk' df' dc':Addr) H',H y = none→(∀ b ∈ [du',dk',df',dc'],H b = none)→Same H H'→IsR c.R y dy du' dk' df' dc' H' M.R→Q (.ref y) H'
theorem ok_T_rounds (F:Fx P w K mg base c):MtOk P w K mg base CX0 c.T "rounds" ["self"] 4 (spRounds c):=by
 obtain ⟨f,fd,X⟩:=F.TX
 have C_Rounds:=F.cR
 have T:=F.r.T
 have E_Rounds_twin:=ok_rtwin F
 have C_Tree:=X.cl
 refine F.r.T_rounds.ok (N:=["self"]) X.m fun sc H Q hr h=>?_
 obtain ⟨a,h,x,M,rfl,t,s,k⟩:=h
 obtain ⟨_,_,_,_,cl,n1,n2,n3,n4,n5⟩:=X
 have hx:=s _ _ t.x
 have hR:=t.r.same s
 have hr0:=hR.x
 refine' ⟨_,(pss_one (ps_ret (pe_m0 (pe_fld (pv 0) rfl) C_Rounds E_Rounds_twin hr))),?_⟩
 walk_at "r"
 exact ⟨a.r,a.dr,a.du,a.dk,a.df,a.dc,M.R,rfl,hR,k⟩
def spGone (c:Cs):Sp:=fun vs H Q _=>∃ (a:TA) (h:Hp) (x:Addr) (M:MS) (p:Int),vs = [.ref x,.int p]∧IsT c a h x M∧Same h H∧M.R.Ok∧Q (.bl (decide (p ∈ M.R.ks.map (·.1)))) H
theorem ok_T_is_gone (F:Fx P w K mg base c):MtOk P w K mg base CX0 c.T "is_gone" ["self","place"] 4 (spGone c):=by
 obtain ⟨f,fd,X⟩:=F.TX
 have C_Rounds:=F.cR
 have T:=F.r.T
 have E_Rounds_is_kept:=ok_isKp F
 have C_Tree:=X.cl
 refine F.r.T_is_gone.ok (N:=["self","place"]) X.m fun sc H Q hr h=>?_
 obtain ⟨a,h,x,M,p,rfl,t,s,ok,k⟩:=h
 obtain ⟨_,_,_,_,cl,n1,n2,n3,n4,n5⟩:=X
 have hx:=s _ _ t.x
 have hR:=t.r.same s
 have hr0:=hR.x
 refine' ⟨_,(pss_one (ps_ret (pe_m (pe_fld (pv 0) rfl) C_Rounds E_Rounds_is_kept hr (pa_c (pv 1) pa_nil)))),?_⟩
 walk_at "r"
 exact ⟨a.r,a.dr,a.du,a.dk,a.df,a.dc,M.R,p,rfl,hR,ok,k⟩
def spNU (c:Cs):Sp:=fun vs H Q _=>∃ (a:TA) (h:Hp) (x:Addr) (M:MS) (p:Int),vs = [.ref x,.int p]∧IsT c a h x M∧Same h H∧M.R.Ok∧p ∈ M.R.us∧Q .non H
theorem ok_T_need_used (F:Fx P w K mg base c):MtOk P w K mg base CX0 c.T "need_used" ["self","place"] 4 (spNU c):=by
 obtain ⟨f,fd,X⟩:=F.TX
 have C_Rounds:=F.cR
 have T:=F.r.T
 have E_Rounds_is_used:=ok_isU F
 have C_Tree:=X.cl
 refine F.r.T_need_used.ok (N:=["self","place"]) X.m fun sc H Q hr h=>?_
 obtain ⟨a,h,x,M,p,rfl,t,s,ok,hp,k⟩:=h
 obtain ⟨_,_,_,_,cl,n1,n2,n3,n4,n5⟩:=X
 have hx:=s _ _ t.x
 have hR:=t.r.same s
 have hr0:=hR.x
 refine' ⟨_,(pss_one (ps_if (pt_not (pt_val (pe_m (pe_fld (pv 0) rfl) C_Rounds E_Rounds_is_used hr (pa_c (pv 1) pa_nil))))
   (pss_one ps_never)
   pss_nil)),?_⟩
 walk_at "r"
 refine ⟨a.r,a.dr,a.du,a.dk,a.df,a.dc,M.R,p,rfl,hR,ok,?_⟩
 rw [decide_eq_true hp]
 walk_at "r"
 exact k
def spNodeIn (c:Cs):Sp:=fun vs H Q _=>∃ (a:TA) (h:Hp) (x:Addr) (M:MS) (j:Nat) (y:Addr),vs = [.ref x,.int j]∧IsT c a h x M∧Same h H∧M.R.Ok∧((j:Int) ∈ M.R.us∨(j:Int) ∈ M.R.ks.map (·.1))∧a.nd[j]? = some y∧Q (.ref y) H
theorem ok_T_node_in (F:Fx P w K mg base c):MtOk P w K mg base CX0 c.T "node_in" ["self","place"] 4 (spNodeIn c):=by
 obtain ⟨f,fd,X⟩:=F.TX
 have C_Rounds:=F.cR
 have T:=F.r.T
 have E_Rounds_is_used:=ok_isU F
 have E_Rounds_is_kept:=ok_isKp F
 have C_Tree:=X.cl
 refine F.r.T_node_in.ok (N:=["self","place"]) X.m fun sc H Q hr h=>?_
 obtain ⟨a,h,x,M,j,y,rfl,t,s,ok,hp,hy,k⟩:=h
 obtain ⟨_,_,_,_,cl,n1,n2,n3,n4,n5⟩:=X
 have hx:=s _ _ t.x
 have hR:=t.r.same s
 have hr0:=hR.x
 refine' ⟨_,(pss_cons (ps_if (PW.pt (pw_and (pt_not (pt_val (pe_m (pe_fld (pv 0) rfl) C_Rounds E_Rounds_is_used hr (pa_c (pv 1) pa_nil)))) (pw_and1 (pt_not (pt_val (pe_m (pe_fld (pv 0) rfl) C_Rounds E_Rounds_is_kept hr (pa_c (pv 1) pa_nil)))))))
   (pss_one ps_never)
   pss_nil)
  (pss_one (ps_ret (pe_dget (hu_of hr) (pe_fld (pv 0) rfl) (pv 1) (fun _ _=>rfl))))),?_⟩
 walk_at "r"
 refine ⟨a.r,a.dr,a.du,a.dk,a.df,a.dc,M.R,_,rfl,hR,ok,?_⟩
 by_cases hu:(j:Int) ∈ M.R.us
 ·rw [decide_eq_true hu]
  walk_at "r"
  exact k_dgetK (k:=Sum.inl (j:Int)) (s _ _ t.n) (pK_val hy) k
 ·rw [decide_eq_false hu]
  walk_at "r"
  refine ⟨a.r,a.dr,a.du,a.dk,a.df,a.dc,M.R,_,rfl,hR,ok,?_⟩
  rw [decide_eq_true (hp.resolve_left hu)]
  walk_at "r"
  exact k_dgetK (k:=Sum.inl (j:Int)) (s _ _ t.n) (pK_val hy) k
def spTPage (c:Cs):Sp:=fun vs H Q _=>∃ (a:TA) (h:Hp) (x:Addr) (M:MS) (j:Nat) (n:ND),vs = [.ref x,.int j]∧IsT c a h x M∧Same h H∧M.R.Ok∧((j:Int) ∈ M.R.us∨(j:Int) ∈ M.R.ks.map (·.1))∧M.ns[j]? = some n∧∀ pg,Pg c.pg H pg n.lv n.ks n.gs→Q (.ref pg) H
theorem ok_T_page (F:Fx P w K mg base c):MtOk P w K mg base CX0 c.T "page" ["self","place"] 5 (spTPage c):=by
 obtain ⟨fN,fdN,XN⟩:=F.NX
 obtain ⟨f,fd,X⟩:=F.TX
 have C_Rounds:=F.cR
 have T:=F.r.T
 have E_Tree_node_in:=ok_T_node_in F
 obtain ⟨_,_,_,_,clN,m1,m2,m3,m4,m5,m6⟩:=XN
 have C_Tree:=X.cl
 refine F.r.T_page.ok (N:=["self","place"]) X.m fun sc H Q hr h=>?_
 obtain ⟨a,h,x,M,j,n,rfl,t,s,ok,hp,hn,k⟩:=h
 obtain ⟨_,_,_,_,cl,n1,n2,n3,n4,n5⟩:=X
 have hx:=s _ _ t.x
 have hR:=t.r.same s
 have hr0:=hR.x
 refine' ⟨_,(pss_one (ps_ret (pe_fld (pe_m (pv 0) C_Tree E_Tree_node_in hr (pa_c (pv 1) pa_nil)) rfl))),?_⟩
 obtain ⟨y,hy⟩:∃ y,a.nd[j]? = some y:=⟨_,List.getElem?_eq_getElem (by rw [t.l]; exact (List.getElem?_eq_some_iff.mp hn).1)⟩
 obtain ⟨dp,pg,e1,hpg⟩:=(t.e j y n hy hn).same s
 walk_at "r"
 refine ⟨a,h,x,M,j,y,rfl,t,s,ok,hp,hy,?_⟩
 walk_at "r"
 exact k pg hpg
def spTNode (c:Cs):Sp:=fun vs H Q _=>∃ (a:TA) (h:Hp) (x:Addr) (M:MS) (j:Nat) (n:ND),vs = [.ref x,.int j]∧IsT c a h x M∧Same h H∧M.R.Ok∧((j:Int) ∈ M.R.us∨(j:Int) ∈ M.R.ks.map (·.1))∧M.ns[j]? = some n∧∀ l1 l2 tt H',H l1 = none→H l2 = none→l1 ≠ l2→Same H H'→H' l1 = some (.lst (n.ks.map V.int))→H' l2 = some (.lst (n.gs.map V.int))→H' tt = some (.tup [.int n.lv,.ref l1,.ref l2,oV n.hi,oV n.rt,.int n.ver,oV n.ho,.bl (decide ((j:Int) ∈ M.R.ks.map (·.1)))])→Q (.ref tt) H'
theorem ok_T_node (F:Fx P w K mg base c):MtOk P w K mg base CX0 c.T "node" ["self","place"] 5 (spTNode c):=by
 obtain ⟨fN,fdN,XN⟩:=F.NX
 obtain ⟨f,fd,X⟩:=F.TX
 have C_Rounds:=F.cR
 have T:=F.r.T
 obtain ⟨fK,fdK,MP_all_keys,GP_all_keys,BP_all_keys⟩:=bk F
 obtain ⟨fG,fdG,MP_goods,GP_goods,BP_goods⟩:=bg F
 have E_Tree_node_in:=ok_T_node_in F
 have E_Tree_is_gone:=ok_T_is_gone F
 obtain ⟨_,_,_,_,clN,m1,m2,m3,m4,m5,m6⟩:=XN
 have C_Tree:=X.cl
 refine F.r.T_node.ok (N:=["self","place","node","keys","goods","gone"]) X.m fun sc H Q hr h=>?_
 obtain ⟨a,h,x,M,j,n,rfl,t,s,ok,hp,hn,k⟩:=h
 obtain ⟨_,_,_,_,cl,n1,n2,n3,n4,n5⟩:=X
 have hx:=s _ _ t.x
 have hR:=t.r.same s
 have hr0:=hR.x
 refine' ⟨_,(pss_cons (ps_v sc 2 (pe_m (pv 0) C_Tree E_Tree_node_in hr (pa_c (pv 1) pa_nil)))
  (pss_cons (ps_v sc 3 (pe_methP0 (pe_fld (pv 2) rfl) MP_all_keys GP_all_keys (hr.mono (by decide)) BP_all_keys .nil pass0))
  (pss_cons (ps_v sc 4 (pe_methP0 (pe_fld (pv 2) rfl) MP_goods GP_goods (hr.mono (by decide)) BP_goods .nil pass0))
  (pss_cons (ps_v sc 5 (pe_m (pv 0) C_Tree E_Tree_is_gone hr (pa_c (pv 1) pa_nil)))
  (pss_one (ps_ret (pe_tup (pa_c (pe_fld (pv 2) rfl) (pa_c (pv 3) (pa_c (pv 4) (pa_c (pe_fld (pv 2) rfl) (pa_c (pe_fld (pv 2) rfl) (pa_c (pe_dget (hu_of hr) (pe_fld (pv 0) rfl) (pv 1) (fun _ _=>rfl)) (pa_c (pe_fld (pv 2) rfl) (pa_c (pv 5) pa_nil))))))))))))))),?_⟩
 obtain ⟨y,hy⟩:∃ y,a.nd[j]? = some y:=⟨_,List.getElem?_eq_getElem (by rw [t.l]; exact (List.getElem?_eq_some_iff.mp hn).1)⟩
 obtain ⟨dp,pg,e1,hpg⟩:=(t.e j y n hy hn).same s
 walk_at "r"
 refine ⟨a,h,x,M,j,y,rfl,t,s,ok,hp,hy,?_⟩
 have pg1:=hpg
 obtain ⟨dg,tk,tg,e2,e3,e4⟩:=hpg
 walk_at "r"
 refine k_methP e2 (c.pg.of_is _) rfl ⟨pg,n.lv,n.ks,n.gs,rfl,pg1,fun l1 f1=>?_⟩
 have S1:Same H (upd H l1 (.lst (n.ks.map V.int))):=Same.upd f1
 have q1:upd H l1 (.lst (n.ks.map V.int)) l1 = some (.lst (n.ks.map V.int)):=upd_same
 generalize upd H l1 _ = H1 at *
 walk_at "r"
 refine k_methP (S1 _ _ e2) (c.pg.of_is _) rfl ⟨pg,n.lv,n.ks,n.gs,rfl,pg1.same S1,fun l2 f2=>?_⟩
 have S2:Same H1 (upd H1 l2 (.lst (n.gs.map V.int))):=Same.upd f2
 have q2:upd H1 l2 (.lst (n.gs.map V.int)) l2 = some (.lst (n.gs.map V.int)):=upd_same
 have q1':=S2 _ _ q1
 have n12:=ne_of_none q1 f2
 have S:=S1.trans S2
 generalize upd H1 l2 _ = H2 at *
 have e1':=S _ _ e1
 have hx':=S _ _ hx
 walk_at "r"
 refine ⟨a,h,x,M,_,rfl,t,s.trans S,ok,?_⟩
 walk_at "r"
 refine k_dgetK (k:=Sum.inl (j:Int)) (S _ _ (s _ _ t.v)) (pK_val hn) ?_
 walk_at "r"
 refine ⟨(by show 8 ≤ sizeLine; decide),fun tt ft=>?_⟩
 exact k l1 l2 tt _ f1 (S1.free f2) n12 (S.trans (Same.upd ft)) (Same.upd ft _ _ q1') (Same.upd ft _ _ q2) upd_same
def EdgeOk (M:MS) (hi rt:Option Int):Prop:=(hi = none∧rt = none)∨∃ k p:Int,hi = some k∧rt = some p∧KeyR k∧p ∈ M.R.us
theorem big500 {n:Nat} (h:n ≤ 500):n < sizeLine:=by have:=big1000; omega
def spNE (c:Cs):Sp:=fun vs H Q _=>∃ (a:TA) (h:Hp) (x:Addr) (M:MS) (hi rt:Option Int),vs = [.ref x,oV hi,oV rt]∧IsT c a h x M∧Same h H∧M.R.Ok∧EdgeOk M hi rt∧Q .non H
theorem ok_T_need_edge (F:Fx P w K mg base c):MtOk P w K mg base CX0 c.T "need_edge" ["self","high","right"] 5 (spNE c):=by
 obtain ⟨f,fd,X⟩:=F.TX
 have C_Rounds:=F.cR
 have T:=F.r.T
 have E_Rounds_is_used:=ok_isU F
 have Eis_key:=ok_is_key F
 have C_Tree:=X.cl
 refine F.r.T_need_edge.ok (N:=["self","high","right"]) X.m fun sc H Q hr h=>?_
 obtain ⟨a,h,x,M,hi,rt,rfl,t,s,ok,ed,k⟩:=h
 obtain ⟨_,_,_,_,cl,n1,n2,n3,n4,n5⟩:=X
 have hx:=s _ _ t.x
 have hR:=t.r.same s
 have hr0:=hR.x
 refine' ⟨_,(pss_cons (ps_if (PW.pt (pw_and (pt_cmpR op_isN (pv 1) pe_non (nomark _)) (pw_and1 (pt_cmpR op_isN (pv 2) pe_non (nomark _)))))
   (pss_one ps_retN)
   pss_nil)
  (pss_one (ps_if (PW.pt (pw_or (pt_not (pt_val (pe_d Eis_key hr (pa_c (pv 1) pa_nil)))) (pw_or1 (pt_not (pt_val (pe_m (pe_fld (pv 0) rfl) C_Rounds E_Rounds_is_used hr (pa_c (pv 2) pa_nil)))))))
   (pss_one ps_never)
   pss_nil))),?_⟩
 rcases ed with ⟨rfl,rfl⟩ | ⟨k0,p0,rfl,rfl,hk,hp⟩
 ·walk_at "r"
  refine ⟨rfl,?_⟩
  walk_at "r"
  refine iteD rfl ?_
  walk_at "r"
  refine ⟨rfl,?_⟩
  walk_at "r"
  refine iteD rfl ?_
  walk_at "r"
  exact k
 ·walk_at "r"
  refine ⟨rfl,?_⟩
  walk_at "r"
  refine iteX (fun z=>nomatch z) ?_
  walk_at "r"
  refine ⟨k0,rfl,?_⟩
  rw [key_t hk]
  walk_at "r"
  refine ⟨a.r,a.dr,a.du,a.dk,a.df,a.dc,M.R,p0,rfl,hR,ok,?_⟩
  rw [decide_eq_true hp]
  walk_at "r"
  exact k
def spHN (c:Cs):Sp:=fun vs H Q _=>∃ (a:TA) (h:Hp) (x:Addr) (M:MS) (j:Nat) (n:ND) (w0:Int),vs = [.ref x,.int j,.int w0]∧IsT c a h x M∧Same h H∧M.R.Ok∧M.ns[j]? = some n∧(j:Int) ∈ M.R.us∧M.ns.length ≤ 500∧0 ≤ w0∧w0 ≤ 1000000∧n.ho = some w0∧∀ y,a.nd[j]? = some y→Q (.ref y) H
theorem ok_T_held_node (F:Fx P w K mg base c):MtOk P w K mg base CX0 c.T "held_node" ["self","place","number"] 6 (spHN c):=by
 obtain ⟨fN,fdN,XN⟩:=F.NX
 obtain ⟨f,fd,X⟩:=F.TX
 have C_Rounds:=F.cR
 have T:=F.r.T
 have Eneed_doer:=ok_need_doer F
 have C_Node:=XN.cl
 obtain ⟨_,_,_,_,clN,m1,m2,m3,m4,m5,m6⟩:=XN
 have C_Tree:=X.cl
 refine F.r.T_held_node.ok (N:=["self","place","number","node"]) X.m fun sc H Q hr h=>?_
 obtain ⟨a,h,x,M,j,n,w0,rfl,t,s,ok,hn,hu,few,b0,b1,ho,k⟩:=h
 obtain ⟨_,_,_,_,cl,n1,n2,n3,n4,n5⟩:=X
 have hx:=s _ _ t.x
 have hR:=t.r.same s
 have hr0:=hR.x
 refine' ⟨_,(pss_cons (ps_expr (pe_d Eneed_doer hr (pa_c (pv 2) pa_nil)))
  (pss_cons (ps_v sc 3 (pe_dget (hu_of hr) (pe_fld (pv 0) rfl) (pv 1) (fun _ _=>rfl)))
  (pss_cons (ps_if (pt_cmpR op_ne (pe_fld (pv 3) rfl) (pv 2) (nomark _))
   (pss_one ps_never)
   pss_nil)
  (pss_one (ps_ret (pv 3)))))),?_⟩
 obtain ⟨y,hy⟩:∃ y,a.nd[j]? = some y:=⟨_,List.getElem?_eq_getElem (by rw [t.l]; exact (List.getElem?_eq_some_iff.mp hn).1)⟩
 obtain ⟨dp,pg,e0,hpg⟩:=t.e j y n hy hn
 have e1:=s _ _ e0
 have few1:(pK a.nd V.ref).length < sizeLine:=by rw [pK_len,t.l]; exact big500 few
 rw [ho] at e1
 walk_at "r"
 refine ⟨w0,rfl,inR_t b0 b1,?_⟩
 walk_at "r"
 refine k_dgetK (k:=Sum.inl (j:Int)) (s _ _ t.n) (pK_val hy) ?_
 walk_at "r"
 refine iteNS rfl ?_
 walk_at "r"
 exact k y hy
def spHold (c:Cs):Sp:=fun vs H Q _=>∃ (a:TA) (h:Hp) (x:Addr) (M:MS) (j:Nat) (n:ND) (w0:Int),vs = [.ref x,.int j,.int w0]∧IsT c a h x M∧Same h H∧M.R.Ok∧M.ns[j]? = some n∧(j:Int) ∈ M.R.us∧M.ns.length ≤ 500∧0 ≤ w0∧w0 ≤ 1000000∧n.ho = none∧∀ a' h' H',IsT c a' h' x { M with ns:=M.ns.set j { n with ho:=some w0,wr:=false } }→Chg h h' H H'→Q .non H'
theorem ok_T_hold (F:Fx P w K mg base c):MtOk P w K mg base CX0 c.T "hold" ["self","place","number"] 7 (spHold c):=by
 obtain ⟨fN,fdN,XN⟩:=F.NX
 obtain ⟨f,fd,X⟩:=F.TX
 have C_Rounds:=F.cR
 have T:=F.r.T
 have Eneed_doer:=ok_need_doer F
 have E_Tree_need_used:=ok_T_need_used F
 have E_Node_held_by:=ok_held F
 have C_Node:=XN.cl
 obtain ⟨_,_,_,_,clN,m1,m2,m3,m4,m5,m6⟩:=XN
 have C_Tree:=X.cl
 refine F.r.T_hold.ok (N:=["self","place","number","node"]) X.m fun sc H Q hr h=>?_
 obtain ⟨a,h,x,M,j,n,w0,rfl,t,s,ok,hn,hu,few,b0,b1,ho,k⟩:=h
 obtain ⟨_,_,_,_,cl,n1,n2,n3,n4,n5⟩:=X
 have hx:=s _ _ t.x
 have hR:=t.r.same s
 have hr0:=hR.x
 refine' ⟨_,(pss_cons (ps_expr (pe_m (pv 0) C_Tree E_Tree_need_used hr (pa_c (pv 1) pa_nil)))
  (pss_cons (ps_expr (pe_d Eneed_doer hr (pa_c (pv 2) pa_nil)))
  (pss_cons (ps_v sc 3 (pe_dget (hu_of hr) (pe_fld (pv 0) rfl) (pv 1) (fun _ _=>rfl)))
  (pss_cons (ps_if (pt_cmpR op_notN (pe_fld (pv 3) rfl) pe_non (nomark _))
   (pss_one ps_never)
   pss_nil)
  (pss_one (ps_dput (hu_of hr) (pe_fld (pv 0) rfl) (pv 1) (pe_m (pv 3) C_Node E_Node_held_by hr (pa_c (pv 2) (pa_c pe_bl pa_nil))) rfl)))))),?_⟩
 obtain ⟨y,hy⟩:∃ y,a.nd[j]? = some y:=⟨_,List.getElem?_eq_getElem (by rw [t.l]; exact (List.getElem?_eq_some_iff.mp hn).1)⟩
 obtain ⟨dp,pg,e0,hpg⟩:=t.e j y n hy hn
 have e1:=s _ _ e0
 have few1:(pK a.nd V.ref).length < sizeLine:=by rw [pK_len,t.l]; exact big500 few
 rw [ho] at e1
 walk_at "r"
 refine ⟨a,h,x,M,_,rfl,t,s,ok,hu,?_⟩
 walk_at "r"
 refine ⟨w0,rfl,inR_t b0 b1,?_⟩
 walk_at "r"
 refine k_dgetK (k:=Sum.inl (j:Int)) (s _ _ t.n) (pK_val hy) ?_
 walk_at "r"
 refine ⟨rfl,?_⟩
 walk_at "r"
 refine iteNS rfl ?_
 walk_at "r"
 refine ⟨y,dp,pg,n.lv,n.hi,n.rt,none,some w0,n.wr,false,rfl,e1,fun y2 dy2 H1 f1 S1 q1=>?_⟩
 walk_at "r"
 refine k_dputK (k:=Sum.inl (j:Int)) (S1 _ _ (s _ _ t.n)) few1 ?_
 obtain ⟨t2,c2⟩:=t.put s (n':={ n with ho:=some w0,wr:=false }) hn S1 f1 q1 ⟨dy2,pg,upd_same,hpg.same (Same.upd (s.free f1))⟩ rfl
 exact k _ _ _ t2 c2
def spWrite (c:Cs):Sp:=fun vs H Q _=>∃ (a:TA) (h:Hp) (x:Addr) (M:MS) (j:Nat) (n:ND) (w0:Int) (pg:Addr) (ks gs:List Int) (hi rt:Option Int),vs = [.ref x,.int j,.int w0,.ref pg,oV hi,oV rt]∧IsT c a h x M∧Same h H∧M.R.Ok∧M.ns[j]? = some n∧(j:Int) ∈ M.R.us∧M.ns.length ≤ 500∧0 ≤ w0∧w0 ≤ 1000000∧n.ho = some w0∧Pg c.pg h pg n.lv ks gs∧EdgeOk M hi rt∧∀ a' h' H',IsT c a' h' x { M with ns:=M.ns.set j { n with ks:=ks,gs:=gs,hi:=hi,rt:=rt,wr:=true } }→Chg h h' H H'→Q .non H'
theorem ok_T_write (F:Fx P w K mg base c):MtOk P w K mg base CX0 c.T "write" ["self","place","number","page","high","right"] 8 (spWrite c):=by
 obtain ⟨fN,fdN,XNode⟩:=F.NX
 obtain ⟨f,fd,X⟩:=F.TX
 have C_Rounds:=F.cR
 have T:=F.r.T
 have E_Tree_need_used:=ok_T_need_used F
 have E_Tree_held_node:=ok_T_held_node F
 have Eneed_page:=ok_need_page F
 have E_Tree_need_edge:=ok_T_need_edge F
 have E_Node_held_by:=ok_held F
 have GNode:FnOk P w K mg base CX0 1 fN fdN ["self","level","bears","high","right"] (spNode c.N):=ok_node XNode T
 have C_Node:=XNode.cl
 have XN:=XNode
 obtain ⟨_,_,_,_,clN,m1,m2,m3,m4,m5,m6⟩:=XN
 have C_Tree:=X.cl
 refine F.r.T_write.ok (N:=["self","place","number","page","high","right","node"]) X.m fun sc H Q hr h=>?_
 obtain ⟨a,h,x,M,j,n,w0,pgn,ks,gs,hi,rt,rfl,t,s,ok,hn,hu,few,b0,b1,ho,hpn,ed,k⟩:=h
 obtain ⟨_,_,_,_,cl,n1,n2,n3,n4,n5⟩:=X
 have hx:=s _ _ t.x
 have hR:=t.r.same s
 have hr0:=hR.x
 refine' ⟨_,(pss_cons (ps_expr (pe_m (pv 0) C_Tree E_Tree_need_used hr (pa_c (pv 1) pa_nil)))
  (pss_cons (ps_v sc 6 (pe_m (pv 0) C_Tree E_Tree_held_node hr (pa_c (pv 1) (pa_c (pv 2) pa_nil))))
  (pss_cons (ps_expr (pe_d Eneed_page hr (pa_c (pe_fld (pv 6) rfl) (pa_c (pv 3) pa_nil))))
  (pss_cons (ps_expr (pe_m (pv 0) C_Tree E_Tree_need_edge hr (pa_c (pv 4) (pa_c (pv 5) pa_nil))))
  (pss_one (ps_dput (hu_of hr) (pe_fld (pv 0) rfl) (pv 1) (pe_m (pe_make XNode.mak GNode (hr.mono (by decide)) rfl XNode.m XNode.bi .nil pass0 (pa_c (pe_fld (pv 6) rfl) (pa_c (pv 3) (pa_c (pv 4) (pa_c (pv 5) pa_nil))))) C_Node E_Node_held_by hr (pa_c (pv 2) (pa_c pe_bl pa_nil))) rfl)))))),?_⟩
 obtain ⟨y,hy⟩:∃ y,a.nd[j]? = some y:=⟨_,List.getElem?_eq_getElem (by rw [t.l]; exact (List.getElem?_eq_some_iff.mp hn).1)⟩
 obtain ⟨dp,pg,e0,hpg⟩:=t.e j y n hy hn
 have e1:=s _ _ e0
 have few1:(pK a.nd V.ref).length < sizeLine:=by rw [pK_len,t.l]; exact big500 few
 walk_at "r"
 refine ⟨a,h,x,M,_,rfl,t,s,ok,hu,?_⟩
 walk_at "r"
 refine ⟨a,h,x,M,j,n,w0,rfl,t,s,ok,hn,hu,few,b0,b1,ho,fun y' hy'=>?_⟩
 rw [hy] at hy'
 cases Option.some.inj hy'
 walk_at "r"
 refine ⟨n.lv,pgn,ks,gs,rfl,hpn.same s,?_⟩
 walk_at "r"
 refine ⟨a,h,x,M,hi,rt,rfl,t,s,ok,ed,?_⟩
 walk_at "r"
 intro y1 dy1 fy fdy nd1
 refine ⟨y1,dy1,pgn,n.lv,hi,rt,rfl,upd_same,fun H1 q0 k1=>⟨rfl,?_⟩⟩
 have S01:Same H H1:=fun b o z=>k1 b o (new_ins fy fdy z) (ne_of_none z fy)
 walk_at "r"
 refine ⟨y1,dy1,pgn,n.lv,hi,rt,none,some w0,false,true,rfl,q0,fun y2 dy2 H2 f2 S2 q2=>?_⟩
 have S02:=S01.trans S2
 have f2':=S01.free f2
 clear S2 S01
 walk_at "r"
 refine k_dputK (k:=Sum.inl (j:Int)) (S02 _ _ (s _ _ t.n)) few1 ?_
 obtain ⟨t2,c2⟩:=t.put s (n':={ n with ks:=ks,gs:=gs,hi:=hi,rt:=rt,wr:=true }) hn S02 f2' q2 ⟨dy2,pgn,by rw [ho]; exact upd_same,hpn.same (Same.upd (s.free f2'))⟩ rfl
 exact k _ _ _ t2 c2
def spFree (c:Cs):Sp:=fun vs H Q _=>∃ (a:TA) (h:Hp) (x:Addr) (M:MS) (j:Nat) (n:ND) (w0:Int),vs = [.ref x,.int j,.int w0]∧IsT c a h x M∧Same h H∧M.R.Ok∧M.ns[j]? = some n∧(j:Int) ∈ M.R.us∧M.ns.length ≤ 500∧0 ≤ w0∧w0 ≤ 1000000∧n.ho = some w0∧∀ a' h' H',IsT c a' h' x { M with ns:=M.ns.set j { n with ver:=n.ver + (if n.wr then 1 else 0),ho:=none,wr:=false } }→Chg h h' H H'→Q .non H'
theorem ok_T_free (F:Fx P w K mg base c):MtOk P w K mg base CX0 c.T "free" ["self","place","number"] 8 (spFree c):=by
 obtain ⟨fN,fdN,XN⟩:=F.NX
 obtain ⟨f,fd,X⟩:=F.TX
 have C_Rounds:=F.cR
 have T:=F.r.T
 have E_Tree_need_used:=ok_T_need_used F
 have E_Tree_held_node:=ok_T_held_node F
 have E_Node_held_by:=ok_held F
 have C_Node:=XN.cl
 obtain ⟨_,_,_,_,clN,m1,m2,m3,m4,m5,m6⟩:=XN
 have C_Tree:=X.cl
 refine F.r.T_free.ok (N:=["self","place","number","node"]) X.m fun sc H Q hr h=>?_
 obtain ⟨a,h,x,M,j,n,w0,rfl,t,s,ok,hn,hu,few,b0,b1,ho,k⟩:=h
 obtain ⟨_,_,_,_,cl,n1,n2,n3,n4,n5⟩:=X
 have hx:=s _ _ t.x
 have hR:=t.r.same s
 have hr0:=hR.x
 refine' ⟨_,(pss_cons (ps_expr (pe_m (pv 0) C_Tree E_Tree_need_used hr (pa_c (pv 1) pa_nil)))
  (pss_cons (ps_v sc 3 (pe_m (pv 0) C_Tree E_Tree_held_node hr (pa_c (pv 1) (pa_c (pv 2) pa_nil))))
  (pss_cons (ps_if (pt_val (pe_fld (pv 3) rfl))
   (pss_one (ps_daug (hu_of hr) (pe_fld (pv 0) rfl) (pv 1) pe_int in_add (fun _ _ _=>rfl)))
   pss_nil)
  (pss_one (ps_dput (hu_of hr) (pe_fld (pv 0) rfl) (pv 1) (pe_m (pv 3) C_Node E_Node_held_by hr (pa_c pe_non (pa_c pe_bl pa_nil))) rfl))))),?_⟩
 obtain ⟨y,hy⟩:∃ y,a.nd[j]? = some y:=⟨_,List.getElem?_eq_getElem (by rw [t.l]; exact (List.getElem?_eq_some_iff.mp hn).1)⟩
 obtain ⟨dp,pg,e0,hpg⟩:=t.e j y n hy hn
 have e1:=s _ _ e0
 have few1:(pK a.nd V.ref).length < sizeLine:=by rw [pK_len,t.l]; exact big500 few
 have jl:j < M.ns.length:=(List.getElem?_eq_some_iff.mp hn).1
 walk_at "r"
 refine ⟨a,h,x,M,_,rfl,t,s,ok,hu,?_⟩
 walk_at "r"
 refine ⟨a,h,x,M,j,n,w0,rfl,t,s,ok,hn,hu,few,b0,b1,ho,fun y' hy'=>?_⟩
 rw [hy] at hy'
 cases Option.some.inj hy'
 walk_at "r"
 cases hw:n.wr with
 | false=>
  rw [hw] at k
  walk_at "r"
  refine ⟨y,dp,pg,n.lv,n.hi,n.rt,n.ho,none,n.wr,false,rfl,e1,fun y2 dy2 H1 f1 S1 q1=>?_⟩
  walk_at "r"
  refine k_dputK (k:=Sum.inl (j:Int)) (S1 _ _ (s _ _ t.n)) few1 ?_
  obtain ⟨t2,c2⟩:=t.put s (n':={ n with ver:=n.ver + (if false = true then 1 else 0),ho:=none,wr:=false }) hn S1 f1 q1 ⟨dy2,pg,upd_same,hpg.same (Same.upd (s.free f1))⟩ (Int.add_zero _)
  exact k _ _ _ t2 c2
 | true=>
  rw [hw] at k
  walk_at "r"
  refine s_daug ?_
  walk_at "r"
  refine k_daug (k:=Sum.inl (j:Int)) (s _ _ t.v) (pK_val hn) (by rw [pK_len]; exact big500 few) ?_
  obtain ⟨t1,c1⟩:=t.putV s hn (n.ver + 1)
  have hn1:(M.ns.set j { n with ver:=n.ver + 1 })[j]? = some { n with ver:=n.ver + 1 }:=by rw [List.getElem?_set,if_pos rfl,if_pos jl]
  obtain ⟨dp1,pg1,e01,hpg1⟩:=t1.e j y _ hy hn1
  have s1:=c1.sm
  have e11:=s1 _ _ e01
  have hx1:=s1 _ _ t1.x
  generalize upd H a.dv _ = H0 at *
  walk_at "r"
  refine ⟨y,dp1,pg1,n.lv,n.hi,n.rt,n.ho,none,n.wr,false,rfl,e11,fun y2 dy2 H1 f1 S1 q1=>?_⟩
  walk_at "r"
  refine k_dputK (k:=Sum.inl (j:Int)) (S1 _ _ (s1 _ _ t1.n)) few1 ?_
  obtain ⟨t2,c2⟩:=t1.put s1 (n':={ n with ver:=n.ver + (if true = true then 1 else 0),ho:=none,wr:=false }) hn1 S1 f1 q1 ⟨dy2,pg1,upd_same,hpg1.same (Same.upd (s1.free f1))⟩ rfl
  dsimp only at t2
  rw [List.set_set] at t2
  exact k _ _ _ t2 (c1.trans c2)
def spGo (c:Cs):Sp:=fun vs H Q _=>∃ (a:TA) (h:Hp) (x:Addr) (M:MS) (j:Nat) (n:ND) (w0:Int),vs = [.ref x,.int j,.int w0]∧IsT c a h x M∧Same h H∧M.R.Ok∧M.ns[j]? = some n∧(j:Int) ∈ M.R.us∧M.ns.length ≤ 500∧0 ≤ w0∧w0 ≤ 1000000∧n.ho = some w0∧M.R.cs.length ≤ 500∧M.R.places.length ≤ 500∧(∃ p:Int,M.top = some p∧(j:Int) ≠ p)∧∀ a' h' H',IsT c a' h' x { M with ns:=M.ns.set j { n with ver:=n.ver + 1,ho:=none,gone:=true,wr:=false },R:=(M.R.gone j).rel }→Chg h h' H H'→Q .non H'
theorem ok_T_go (F:Fx P w K mg base c):MtOk P w K mg base CX0 c.T "go" ["self","place","number"] 8 (spGo c):=by
 obtain ⟨fN,fdN,XN⟩:=F.NX
 obtain ⟨f,fd,X⟩:=F.TX
 have C_Rounds:=F.cR
 have T:=F.r.T
 have E_Tree_need_used:=ok_T_need_used F
 have E_Tree_held_node:=ok_T_held_node F
 have E_Node_held_by:=ok_held F
 have E_Rounds_went:=ok_went F
 have C_Node:=XN.cl
 obtain ⟨_,_,_,_,clN,m1,m2,m3,m4,m5,m6⟩:=XN
 have C_Tree:=X.cl
 refine F.r.T_go.ok (N:=["self","place","number","node"]) X.m fun sc H Q hr h=>?_
 obtain ⟨a,h,x,M,j,n,w0,rfl,t,s,ok,hn,hu,few,b0,b1,ho,fewc,fewp,⟨tp,htp,ntp⟩,k⟩:=h
 obtain ⟨_,_,_,_,cl,n1,n2,n3,n4,n5⟩:=X
 have hx:=s _ _ t.x
 have hR:=t.r.same s
 have hr0:=hR.x
 refine' ⟨_,(pss_cons (ps_expr (pe_m (pv 0) C_Tree E_Tree_need_used hr (pa_c (pv 1) pa_nil)))
  (pss_cons (ps_if (pt_cmpR op_eq (pv 1) (pe_fld (pv 0) rfl) (nomark _))
   (pss_one ps_never)
   pss_nil)
  (pss_cons (ps_v sc 3 (pe_m (pv 0) C_Tree E_Tree_held_node hr (pa_c (pv 1) (pa_c (pv 2) pa_nil))))
  (pss_cons (ps_dput (hu_of hr) (pe_fld (pv 0) rfl) (pv 1) (pe_m (pv 3) C_Node E_Node_held_by hr (pa_c pe_non (pa_c pe_bl pa_nil))) rfl)
  (pss_cons (ps_daug (hu_of hr) (pe_fld (pv 0) rfl) (pv 1) pe_int in_add (fun _ _ _=>rfl))
  (pss_one (ps_expr (pe_m (pe_fld (pv 0) rfl) C_Rounds E_Rounds_went hr (pa_c (pv 1) pa_nil))))))))),?_⟩
 obtain ⟨y,hy⟩:∃ y,a.nd[j]? = some y:=⟨_,List.getElem?_eq_getElem (by rw [t.l]; exact (List.getElem?_eq_some_iff.mp hn).1)⟩
 obtain ⟨dp,pg,e0,hpg⟩:=t.e j y n hy hn
 have e1:=s _ _ e0
 have few1:(pK a.nd V.ref).length < sizeLine:=by rw [pK_len,t.l]; exact big500 few
 have jl:j < M.ns.length:=(List.getElem?_eq_some_iff.mp hn).1
 walk_at "r"
 refine ⟨a,h,x,M,_,rfl,t,s,ok,hu,?_⟩
 have hx0:=hx
 rw [htp] at hx0
 clear hx
 walk_at "r"
 refine iteX (fun z=>ntp (V.int.inj z)) ?_
 walk_at "r"
 refine ⟨a,h,x,M,j,n,w0,rfl,t,s,ok,hn,hu,few,b0,b1,ho,fun y' hy'=>?_⟩
 rw [hy] at hy'
 cases Option.some.inj hy'
 walk_at "r"
 refine ⟨y,dp,pg,n.lv,n.hi,n.rt,n.ho,none,n.wr,false,rfl,e1,fun y2 dy2 H1 f1 S1 q1=>?_⟩
 walk_at "r"
 refine k_dputK (k:=Sum.inl (j:Int)) (S1 _ _ (s _ _ t.n)) few1 ?_
 obtain ⟨t2,c2⟩:=t.put s (n':={ n with ho:=none,gone:=true,wr:=false }) hn S1 f1 q1 ⟨dy2,pg,upd_same,hpg.same (Same.upd (s.free f1))⟩ rfl
 have s2:=c2.sm
 have hx2:=s2 _ _ t2.x
 clear hx0
 generalize upd H1 a.dn _ = H2 at *
 generalize upd (upd h y2 _) a.dn _ = h2 at *
 have hn2:(M.ns.set j { n with ho:=none,gone:=true,wr:=false })[j]? = some { n with ho:=none,gone:=true,wr:=false }:=by rw [List.getElem?_set,if_pos rfl,if_pos jl]
 walk_at "r"
 refine s_daug ?_
 walk_at "r"
 refine k_daug (k:=Sum.inl (j:Int)) (s2 _ _ t2.v) (pK_val hn2) (by rw [pK_len,List.length_set]; exact big500 few) ?_
 obtain ⟨t3,c3⟩:=t2.putV s2 hn2 (n.ver + 1)
 have s3:=c3.sm
 have hx3:=s3 _ _ t3.x
 have hR3:=t3.r.same s3
 have hr3:=hR3.x
 dsimp only at t3 c3 s3
 rw [List.set_set] at t3 c3 s3
 clear hx2
 generalize upd H2 a.dv _ = H3 at *
 generalize upd h2 a.dv _ = h3 at *
 walk_at "r"
 refine ⟨a.r,a.dr,a.du,a.dk,a.df,a.dc,M.R,_,rfl,hR3,ok,fewp,fewc,hu,fun H4 r4 k4=>?_⟩
 obtain ⟨t4,c4⟩:=t3.setR s3 k4 (by simp) r4
 exact k _ _ _ t4 ((c2.trans c3).trans c4)
def spLead (c:Cs):Sp:=fun vs H Q _=>∃ (a:TA) (h:Hp) (x:Addr) (M:MS) (o0 p0 tp:Int),vs = [.ref x,.int o0,.int p0]∧IsT c a h x M∧Same h H∧M.R.Ok∧o0 ∈ M.R.us∧p0 ∈ M.R.us∧M.top = some tp∧(o0 ≠ tp→Q (.bl false) H)∧(o0 = tp→∀ h' H',IsT c a h' x { M with top:=some p0 }→Chg h h' H H'→Q (.bl true) H')
theorem ok_T_lead (F:Fx P w K mg base c):MtOk P w K mg base CX0 c.T "lead" ["self","old","new"] 5 (spLead c):=by
 obtain ⟨f,fd,X⟩:=F.TX
 have C_Rounds:=F.cR
 have T:=F.r.T
 have E_Tree_need_used:=ok_T_need_used F
 have C_Tree:=X.cl
 refine F.r.T_lead.ok (N:=["self","old","new"]) X.m fun sc H Q hr h=>?_
 obtain ⟨a,h,x,M,o0,p0,tp,rfl,t,s,ok,ho,hp,htp,k1,k2⟩:=h
 obtain ⟨_,_,_,_,cl,n1,n2,n3,n4,n5⟩:=X
 have hx:=s _ _ t.x
 have hR:=t.r.same s
 have hr0:=hR.x
 refine' ⟨_,(pss_cons (ps_expr (pe_m (pv 0) C_Tree E_Tree_need_used hr (pa_c (pv 1) pa_nil)))
  (pss_cons (ps_expr (pe_m (pv 0) C_Tree E_Tree_need_used hr (pa_c (pv 2) pa_nil)))
  (pss_cons (ps_if (pt_cmpR op_ne (pv 1) (pe_fld (pv 0) rfl) (nomark _))
   (pss_one (ps_ret pe_bl))
   pss_nil)
  (pss_cons (ps_fld (pv 0) (pv 2) rfl)
  (pss_one (ps_ret pe_bl)))))),?_⟩
 walk_at "r"
 refine ⟨a,h,x,M,_,rfl,t,s,ok,ho,?_⟩
 walk_at "r"
 refine ⟨a,h,x,M,_,rfl,t,s,ok,hp,?_⟩
 rw [htp] at hx
 walk_at "r"
 by_cases e:o0 = tp
 ·refine iteNS (congrArg V.int e) ?_
  walk_at "r"
  exact k2 e _ _ (t.setTop p0) (Chg.mut s t.x)
 ·refine iteNX (fun z=>e (V.int.inj z)) ?_
  walk_at "r"
  exact k1 e
def spTEnter (c:Cs):Sp:=fun vs H Q _=>∃ (a:TA) (h:Hp) (x:Addr) (M:MS) (w0:Int),vs = [.ref x,.int w0]∧IsT c a h x M∧Same h H∧M.R.cs.length ≤ 500∧0 ≤ w0∧w0 ≤ 1000000∧w0 ∉ M.R.cs.map (·.1)∧∀ h' H',IsT c a h' x { M with R:=M.R.come w0 }→Chg h h' H H'→Q .non H'
theorem ok_T_enter (F:Fx P w K mg base c):MtOk P w K mg base CX0 c.T "enter" ["self","number"] 7 (spTEnter c):=by
 obtain ⟨f,fd,X⟩:=F.TX
 have C_Rounds:=F.cR
 have T:=F.r.T
 have E_Rounds_enter:=ok_enter F
 have C_Tree:=X.cl
 refine F.r.T_enter.ok (N:=["self","number"]) X.m fun sc H Q hr h=>?_
 obtain ⟨a,h,x,M,w0,rfl,t,s,few,b0,b1,hm,k⟩:=h
 obtain ⟨_,_,_,_,cl,n1,n2,n3,n4,n5⟩:=X
 have hx:=s _ _ t.x
 have hR:=t.r.same s
 have hr0:=hR.x
 refine' ⟨_,(pss_one (ps_expr (pe_m (pe_fld (pv 0) rfl) C_Rounds E_Rounds_enter hr (pa_c (pv 1) pa_nil)))),?_⟩
 walk_at "r"
 refine ⟨a.r,a.dr,a.du,a.dk,a.df,a.dc,M.R,_,rfl,hR,few,b0,b1,hm,fun H4 r4 k4=>?_⟩
 obtain ⟨t4,c4⟩:=t.setR s k4 (by simp) r4
 exact k _ _ t4 c4
def spTLeave (c:Cs):Sp:=fun vs H Q _=>∃ (a:TA) (h:Hp) (x:Addr) (M:MS) (w0:Int),vs = [.ref x,.int w0]∧IsT c a h x M∧Same h H∧M.R.Ok∧M.R.places.length ≤ 500∧M.R.cs.length ≤ 500∧w0 ∈ M.R.cs.map (·.1)∧∀ h' H',IsT c a h' x { M with R:=(M.R.left w0).rel }→Chg h h' H H'→Q .non H'
theorem ok_T_leave (F:Fx P w K mg base c):MtOk P w K mg base CX0 c.T "leave" ["self","number"] 7 (spTLeave c):=by
 obtain ⟨f,fd,X⟩:=F.TX
 have C_Rounds:=F.cR
 have T:=F.r.T
 have E_Rounds_leave:=ok_leave F
 have C_Tree:=X.cl
 refine F.r.T_leave.ok (N:=["self","number"]) X.m fun sc H Q hr h=>?_
 obtain ⟨a,h,x,M,w0,rfl,t,s,ok,few,fewc,hm,k⟩:=h
 obtain ⟨_,_,_,_,cl,n1,n2,n3,n4,n5⟩:=X
 have hx:=s _ _ t.x
 have hR:=t.r.same s
 have hr0:=hR.x
 refine' ⟨_,(pss_one (ps_expr (pe_m (pe_fld (pv 0) rfl) C_Rounds E_Rounds_leave hr (pa_c (pv 1) pa_nil)))),?_⟩
 walk_at "r"
 refine ⟨a.r,a.dr,a.du,a.dk,a.df,a.dc,M.R,_,rfl,hR,ok,few,fewc,hm,fun H4 r4 k4=>?_⟩
 obtain ⟨t4,c4⟩:=t.setR s k4 (by simp) r4
 exact k _ _ t4 c4
def MS.made (M:MS) (j:Nat) (lv:Int) (ks gs:List Int) (hi rt:Option Int):MS:={ M with R:=M.R.take j,ns:=if j < M.ns.length then M.ns.set j ⟨lv,ks,gs,hi,rt,(M.ns[j]?.map (·.ver)).getD 0,none,false,false⟩ else M.ns ++ [⟨lv,ks,gs,hi,rt,0,none,false,false⟩] }
def Given (M:MS) (j:Nat):Prop:=M.R.fs = []∧j = M.ns.length∨(j:Int) ∈ M.R.fs∧∀ n ∈ M.R.fs,(j:Int) ≤ n
def spMade (c:Cs):Sp:=fun vs H Q _=>∃ (a:TA) (h:Hp) (x:Addr) (M:MS) (lv:Int) (pg:Addr) (ks gs:List Int) (hi rt:Option Int),vs = [.ref x,.int lv,.ref pg,oV hi,oV rt]∧IsT c a h x M∧Same h H∧M.R.Ok∧M.R.places.length = M.ns.length∧M.ns.length ≤ 400∧0 ≤ lv∧lv ≤ 60∧Pg c.pg h pg lv ks gs∧EdgeOk M hi rt∧∀ j a' h' H',Given M j→IsT c a' h' x (M.made j lv ks gs hi rt)→Chg h h' H H'→Q (.int j) H'
theorem ok_T_made (F:Fx P w K mg base c):MtOk P w K mg base CX0 c.T "made" ["self","level","page","high","right"] 8 (spMade c):=by
 obtain ⟨fN,fdN,XNode⟩:=F.NX
 obtain ⟨f,fd,X⟩:=F.TX
 have C_Rounds:=F.cR
 have T:=F.r.T
 have Eneed_level:=ok_need_level F
 have Eneed_page:=ok_need_page F
 have E_Tree_need_edge:=ok_T_need_edge F
 have E_Rounds_given:=ok_given F
 have GNode:FnOk P w K mg base CX0 1 fN fdN ["self","level","bears","high","right"] (spNode c.N):=ok_node XNode T
 have C_Tree:=X.cl
 refine F.r.T_made.ok (N:=["self","level","page","high","right","place"]) X.m fun sc H Q hr h=>?_
 obtain ⟨a,h,x,M,lv,pg,ks,gs,hi,rt,rfl,t,s,ok,ln,few,b0,b1,hpg,ed,k⟩:=h
 obtain ⟨_,_,_,_,cl,n1,n2,n3,n4,n5⟩:=X
 have hx:=s _ _ t.x
 have hR:=t.r.same s
 have hr0:=hR.x
 refine' ⟨_,(pss_cons (ps_expr (pe_d Eneed_level hr (pa_c (pv 1) pa_nil)))
  (pss_cons (ps_expr (pe_d Eneed_page hr (pa_c (pv 1) (pa_c (pv 2) pa_nil))))
  (pss_cons (ps_expr (pe_m (pv 0) C_Tree E_Tree_need_edge hr (pa_c (pv 3) (pa_c (pv 4) pa_nil))))
  (pss_cons (ps_v sc 5 (pe_m0 (pe_fld (pv 0) rfl) C_Rounds E_Rounds_given hr))
  (pss_cons (ps_dput (hu_of hr) (pe_fld (pv 0) rfl) (pv 5) (pe_make XNode.mak GNode (hr.mono (by decide)) rfl XNode.m XNode.bi .nil pass0 (pa_c (pv 1) (pa_c (pv 2) (pa_c (pv 3) (pa_c (pv 4) pa_nil))))) rfl)
  (pss_cons (ps_expr (pe_dset (pe_fld (pv 0) rfl) (pv 5) pe_int ⟨rfl,rfl,rfl,rfl⟩))
  (pss_one (ps_ret (pv 5))))))))),?_⟩
 walk_at "r"
 refine ⟨lv,rfl,inR_t b0 b1,?_⟩
 walk_at "r"
 refine ⟨lv,pg,ks,gs,rfl,hpg.same s,?_⟩
 walk_at "r"
 refine ⟨a,h,x,M,hi,rt,rfl,t,s,ok,ed,?_⟩
 walk_at "r"
 refine ⟨a.r,a.dr,a.du,a.dk,a.df,a.dc,M.R,rfl,hR,ok,by omega,fun p H1 hp r1 k1=>?_⟩
 obtain ⟨t1,c1⟩:=t.setR s k1 (by simp) r1
 have hpg1:Pg c.pg (rsH h H1) pg lv ks gs:=hpg.rs s k1 (fun b hb=>by
  simp only [List.mem_cons,List.not_mem_nil,or_false] at hb
  rcases hb with rfl | rfl
  ·exact ⟨_,t.r.u⟩
  ·exact ⟨_,t.r.f⟩)
 have s1:=c1.sm
 have hx1:=s1 _ _ t1.x
 generalize rsH h H1 = h1 at *
 clear hx
 have fewn:(pK a.nd V.ref).length < sizeLine:=by rw [pK_len,t.l]; exact big500 (by omega)
 have fewv:(pK M.ns fun n=>V.int n.ver).length < sizeLine:=by rw [pK_len]; exact big500 (by omega)
 walk_at "r"
 intro y dy fy fdy nd
 refine ⟨y,dy,pg,lv,hi,rt,rfl,upd_same,fun H2 q2 k2=>⟨rfl,?_⟩⟩
 have S12:Same H1 H2:=fun b o z=>k2 b o (new_ins fy fdy z) (ne_of_none z fy)
 have isn:∀ v:Int,IsN c (upd h1 y (.ins c.N dy (nF lv pg hi rt none false))) y ⟨lv,ks,gs,hi,rt,v,none,false,false⟩:=fun v=>⟨dy,pg,upd_same,hpg1.same (Same.upd (s1.free fy))⟩
 walk_at "r"
 refine k_dputK (k:=Sum.inl p) (S12 _ _ (s1 _ _ t1.n)) fewn ?_
 rcases hp with ⟨hf,rfl⟩ | ⟨hm,hmin⟩
 ·have hv:upd H2 a.dn (.dK (putK (pK a.nd V.ref) (Sum.inl ((M.R.places.length:Nat):Int)) (.ref y))) a.dv = some (.dK (pK M.ns fun n=>V.int n.ver)):=by
   rw [upd_ne (Ne.symm t1.d.2.2)]; exact S12 _ _ (s1 _ _ t1.v)
  have hx3:upd H2 a.dn (.dK (putK (pK a.nd V.ref) (Sum.inl ((M.R.places.length:Nat):Int)) (.ref y))) x = some (.ins c.T a.dx (tF M.most a.r a.dn a.dv M.top)):=by
   rw [upd_ne (ne_of t1.x t1.n (fun z=>nomatch z))]; exact S12 _ _ hx1
  have tA:=t1.addN (s1.free fy) (isn 0)
  have cA:Chg h1 (upd (upd (upd h1 y (.ins c.N dy (nF lv pg hi rt none false))) a.dn (.dK (pK (a.nd ++ [y]) V.ref))) a.dv (.dK (pK (M.ns ++ [⟨lv,ks,gs,hi,rt,0,none,false,false⟩]) fun n=>V.int n.ver))) H1 (upd (upd H2 a.dn (.dK (putK (pK a.nd V.ref) (Sum.inl ((M.R.places.length:Nat):Int)) (.ref y)))) a.dv (.dK (putK (pK M.ns fun n=>V.int n.ver) (Sum.inl ((M.R.places.length:Nat):Int)) (.int 0)))):=by
   have g1:putK (pK a.nd V.ref) (Sum.inl ((M.R.places.length:Nat):Int)) (.ref y) = pK (a.nd ++ [y]) V.ref:=by rw [ln,← t.l]; exact pK_new
   have g2:putK (pK M.ns fun n=>V.int n.ver) (Sum.inl ((M.R.places.length:Nat):Int)) (.int 0) = pK (M.ns ++ [⟨lv,ks,gs,hi,rt,0,none,false,false⟩]) fun n=>V.int n.ver:=by rw [ln]; exact pK_new (f:=fun n:ND=>V.int n.ver) (x:=⟨lv,ks,gs,hi,rt,0,none,false,false⟩)
   rw [g1,g2]
   have d1:Chg h1 (upd h1 y (.ins c.N dy (nF lv pg hi rt none false))) H1 H2:=.addS s1 S12 fy q2
   have d2:=d1.trans (.mut (o:=.dK (pK (a.nd ++ [y]) V.ref)) d1.sm (un_f (s1.free fy) t1.n))
   exact d2.trans (.mut d2.sm (by rw [upd_ne (Ne.symm t1.d.2.2)]; exact un_f (s1.free fy) t1.v))
  generalize upd H2 a.dn _ = H3 at *
  walk_at "r"
  refine r_dset ?_
  walk_at "r"
  refine k_ds hv ?_
  walk_at "r"
  refine k_dset (k:=Sum.inl ((M.R.places.length:Nat):Int)) hv fewv (fun v e=>?_) fun _=>?_
  ·rw [ln,pK_no (Nat.le_refl _)] at e; cases e
  ·walk_at "r"
   have eM:M.made M.R.places.length lv ks gs hi rt = { M with R:=M.R.take ((M.R.places.length:Nat):Int),ns:=M.ns ++ [⟨lv,ks,gs,hi,rt,0,none,false,false⟩] }:=by unfold MS.made; rw [if_neg (by omega)]
   exact k _ _ _ _ (.inl ⟨hf,ln⟩) ((congrArg (IsT c _ _ x) eM).mpr tA) (c1.trans cA)
 ·have rg:=ok.rg p (by unfold RS.places; exact List.mem_append_right _ hm)
  obtain ⟨j,rfl⟩:∃ j:Nat,p = j:=⟨p.toNat,by omega⟩
  have jl:j < M.ns.length:=by omega
  have hn:M.ns[j]? = some M.ns[j]:=List.getElem?_eq_getElem jl
  obtain ⟨t2,c2⟩:=t1.put s1 (n':=⟨lv,ks,gs,hi,rt,M.ns[j].ver,none,false,false⟩) hn S12 fy q2 (isn _) rfl
  have s2:=c2.sm
  have hx3:=s2 _ _ t2.x
  have hv:upd H2 a.dn (.dK (putK (pK a.nd V.ref) (Sum.inl (j:Int)) (.ref y))) a.dv = some (.dK (pK M.ns fun n=>V.int n.ver)):=by
   rw [upd_ne (Ne.symm t1.d.2.2)]; exact S12 _ _ (s1 _ _ t1.v)
  generalize upd H2 a.dn _ = H3 at *
  walk_at "r"
  refine r_dset ?_
  walk_at "r"
  refine k_ds hv ?_
  walk_at "r"
  refine k_dset (k:=Sum.inl (j:Int)) hv fewv (fun v e=>?_) fun e=>?_
  ·walk_at "r"
   have eM:M.made j lv ks gs hi rt = { M with R:=M.R.take j,ns:=M.ns.set j ⟨lv,ks,gs,hi,rt,M.ns[j].ver,none,false,false⟩ }:=by unfold MS.made; rw [if_pos jl,hn]; rfl
   exact k j _ _ _ (.inr ⟨hm,hmin⟩) ((congrArg (IsT c _ _ x) eM).mpr t2) (c1.trans c2)
  ·rw [pK_val hn] at e; cases e
end
theorem mk_page {C:Addr} {okg:Nat→List Int→Prop} {Q:VK} {H:Hp} {la lb:Addr} {ks gs:List Int} (h1:H la = some (.lst (ks.map V.int))) (h2:H lb = some (.lst (gs.map V.int))) (ok:KeysOk ks) (og:okg ks.length gs)
  (q:∀ x dx tk tg H',H x = none→H tk = none→H tg = none→Same H H'→H' x = some (.ins C dx (PgF tk tg))→H' tk = some (.tup (ks.map V.int))→H' tg = some (.tup (gs.map V.int))→Q (.ref x) H'):KMake C (spMake C okg) [] E0 Q [.ref la,.ref lb] H:=by
 intro x dx fx fdx nd
 refine ⟨x,dx,la,lb,ks,gs,rfl,upd_same,new_ins fx fdx h1,new_ins fx fdx h2,ok,og,fun H' tk tg B f1 f2 e1 e2 e3=>⟨rfl,?_⟩⟩
 have out:∀ {b:Addr},upd (upd H dx (.own x)) x (.ins C dx []) b = none→H b = none:=fun {b} z=>by
  cases q0:H b with
  | none=>rfl
  | some o=>rw [new_ins fx fdx q0] at z; cases z
 exact q x dx tk tg H' fx (out f1) (out f2) (fun b o z=>B b o (new_ins fx fdx z) (ne_of_none z fx)) e1 e2 e3
def MS.init (most:Int):MS:=⟨most,some 0,[⟨0,[],[],none,none,0,none,false,false⟩],⟨0,[0],[],[],[]⟩⟩
section
variable {P:Program} {w:World} {K:PySem.W.Frag} {mg:Str→Option Value} {base:Heap} {c:Cs}
theorem sc_Tree___init__:FnScope ["self","most"] ["self","most"] (defScope (inClass (top 53) 0)):=by walk_at "s"
def spTInit (c:Cs):Sp:=fun vs H Q _=>∃ (x dx:Addr) (most:Int),vs = [.ref x,.int most]∧H x = some (.ins c.T dx [])∧2 ≤ most∧most ≤ 5 ∧
 ∀ a h' H',IsT c a h' x (MS.init most)→Same h' H'→(∀ b,h' b = none∨b = x∨H b = none)→But x H H'→Q .non H'
theorem ok_T_init {f:Addr} {fd:FuncData} (F:Fx P w K mg base c) (X:TrN K mg c.T f fd):FnOk P w K mg base CX0 11 f fd ["self","most"] (spTInit c):=by
 obtain ⟨fL,fdL,XLeaf⟩:=F.LX
 obtain ⟨fR,fdR,XRounds⟩:=F.RX
 have T:=F.r.T
 have GLeaf:=ok_leaf F XLeaf
 have Eneed_most:=ok_need_most F
 have E_Tree_made:=ok_T_made F
 have GRounds:FnOk P w K mg base CX0 1 fR fdR ["self"] (spInit c.R):=ok_init XRounds T
 have C_Tree:=X.cl
 have XX:=X
 refine XX.fn.ok sc_Tree___init__ (fun vs H Q E h=>?_) (fun cdv A outer s0 H vs Q E hr h=>?_)
 ·obtain ⟨_,_,_,rfl,_⟩:=h
  rfl
 ·obtain ⟨x,dx,most,rfl,hx,b0,b1,k⟩:=h
  have sc:=sc_Tree___init__
  obtain ⟨_,_,_,_,cl,n1,n2,n3,n4,n5⟩:=X
  refine' ⟨_,(pss_cons (ps_expr (pe_d Eneed_most hr (pa_c (pv 1) pa_nil)))
  (pss_cons (ps_fld (pv 0) (pv 1) rfl)
  (pss_cons (ps_fld (pv 0) (pe_make0 XRounds.mak GRounds (hr.mono (by decide)) rfl XRounds.m XRounds.bi .nil pass0) rfl)
  (pss_cons (ps_fld (pv 0) pe_dnewK rfl)
  (pss_cons (ps_fld (pv 0) pe_dnewK rfl)
  (pss_one (ps_fld (pv 0) (pe_m (pv 0) C_Tree E_Tree_made hr (pa_c pe_int (pa_c (pe_make XLeaf.mak GLeaf (hr.mono (by decide)) rfl XLeaf.m XLeaf.bi .nil pass0 (pa_c (pe_lst pa_nil) (pa_c (pe_lst pa_nil) pa_nil))) (pa_c pe_non (pa_c pe_non pa_nil))))) rfl))))))),?_⟩
  walk_at "r"
  refine ⟨most,rfl,inR_t b0 b1,?_⟩
  walk_at "r"
  have e0:upd H x (.ins c.T dx (putF "most_keys" (.int most) [])) x = some (.ins c.T dx [("most_keys",.int most)]):=upd_same
  have B0:But x H (upd H x (.ins c.T dx (putF "most_keys" (.int most) []))):=fun b o z n=>by rw [upd_ne n]; exact z
  generalize upd H x _ = H1 at *
  intro r dr fr fdr nd
  refine ⟨r,dr,rfl,upd_same,fun du dk df dc H2 z1 z2 z3 z4 r2 k2=>⟨rfl,?_⟩⟩
  have S12:Same H1 H2:=fun b o z=>k2 b o (new_ins fr fdr z) (by simp [ne_of_none z fr])
  have out:∀ {b:Addr},upd (upd H1 dr (.own r)) r (.ins c.R dr []) b = none→H1 b = none:=fun {b} z=>by
   cases q0:H1 b with
   | none=>rfl
   | some o=>rw [new_ins fr fdr q0] at z; cases z
  replace z1:=out z1
  replace z2:=out z2
  replace z3:=out z3
  replace z4:=out z4
  clear out k2
  have e2:=S12 _ _ e0
  walk_at "r"
  have nx:∀ {b:Addr},H1 b = none→x ≠ b:=fun z=>ne_of_none e0 z
  have xn:x ∉ [r,du,dk,df,dc]:=by simp [nx fr,nx z1,nx z2,nx z3,nx z4]
  have r3:=r2.out (d:=x) (o:=.ins c.T dx (putF "own_rounds" (.ref r) [("most_keys",.int most)])) xn
  have e3:upd H2 x (.ins c.T dx (putF "own_rounds" (.ref r) [("most_keys",.int most)])) x = some (.ins c.T dx [("most_keys",.int most),("own_rounds",.ref r)]):=upd_same
  have B3:But x H1 (upd H2 x (.ins c.T dx (putF "own_rounds" (.ref r) [("most_keys",.int most)]))):=fun b o z n=>by rw [upd_ne n]; exact S12 _ _ z
  generalize upd H2 x _ = H3 at *
  intro dn fn
  walk_at "r"
  have nn:dn ≠ x:=(ne_of_none e3 fn).symm
  have r4:=(r3.same (Same.upd (o:=.dK []) fn)).out (d:=x) (o:=.ins c.T dx (putF "nodes" (.ref dn) [("most_keys",.int most),("own_rounds",.ref r)])) xn
  have e4:upd (upd H3 dn (.dK [])) x (.ins c.T dx (putF "nodes" (.ref dn) [("most_keys",.int most),("own_rounds",.ref r)])) x = some (.ins c.T dx [("most_keys",.int most),("own_rounds",.ref r),("nodes",.ref dn)]):=upd_same
  have d4:upd (upd H3 dn (.dK [])) x (.ins c.T dx (putF "nodes" (.ref dn) [("most_keys",.int most),("own_rounds",.ref r)])) dn = some (.dK []):=by rw [upd_ne nn,upd_same]
  have B4:But x H3 (upd (upd H3 dn (.dK [])) x (.ins c.T dx (putF "nodes" (.ref dn) [("most_keys",.int most),("own_rounds",.ref r)]))):=fun b o z n=>by rw [upd_ne n]; exact un_f fn z
  have dnR:dn ∉ [du,dk,df,dc]:=by simp [(ne_of_none r3.u fn).symm,(ne_of_none r3.k fn).symm,(ne_of_none r3.f fn).symm,(ne_of_none r3.c fn).symm]
  generalize upd (upd H3 dn (.dK [])) x _ = H4 at *
  intro dv fv
  walk_at "r"
  have nv:dv ≠ x:=(ne_of_none e4 fv).symm
  have r5:=(r4.same (Same.upd (o:=.dK []) fv)).out (d:=x) (o:=.ins c.T dx (putF "versions" (.ref dv) [("most_keys",.int most),("own_rounds",.ref r),("nodes",.ref dn)])) xn
  have e5:upd (upd H4 dv (.dK [])) x (.ins c.T dx (putF "versions" (.ref dv) [("most_keys",.int most),("own_rounds",.ref r),("nodes",.ref dn)])) x = some (.ins c.T dx (tF most r dn dv none)):=upd_same
  have d5:upd (upd H4 dv (.dK [])) x (.ins c.T dx (putF "versions" (.ref dv) [("most_keys",.int most),("own_rounds",.ref r),("nodes",.ref dn)])) dn = some (.dK []):=by rw [upd_ne nn]; exact un_f fv d4
  have v5:upd (upd H4 dv (.dK [])) x (.ins c.T dx (putF "versions" (.ref dv) [("most_keys",.int most),("own_rounds",.ref r),("nodes",.ref dn)])) dv = some (.dK []):=by rw [upd_ne nv,upd_same]
  have B5:But x H4 (upd (upd H4 dv (.dK [])) x (.ins c.T dx (putF "versions" (.ref dv) [("most_keys",.int most),("own_rounds",.ref r),("nodes",.ref dn)]))):=fun b o z n=>by rw [upd_ne n]; exact un_f fv z
  have dvR:dv ∉ [du,dk,df,dc]:=by simp [(ne_of_none r4.u fv).symm,(ne_of_none r4.k fv).symm,(ne_of_none r4.f fv).symm,(ne_of_none r4.c fv).symm]
  have nvn:dn ≠ dv:=ne_of_none d4 fv
  generalize upd (upd H4 dv (.dK [])) x _ = H5 at *
  have B:But x H H5:=fun b o z n=>B5 b o (B4 b o (B3 b o (B0 b o z n) n) n) n
  have back:∀ {b:Addr},b ≠ x→H5 b = none→H b = none:=fun {b} n z=>by
   cases q0:H b with
   | none=>rfl
   | some o=>rw [B b o q0 n] at z; cases z
  have bk1:∀ {b:Addr},H1 b = none→H b = none:=fun {b} z=>by
   cases q0:H b with
   | none=>rfl
   | some o=>rw [B0 b o q0 (Ne.symm (nx z))] at z; cases z
  have bk3:H dn = none:=by
   cases q0:H dn with
   | none=>rfl
   | some o=>rw [B3 dn o (B0 dn o q0 nn) nn] at fn; cases fn
  have bk4:H dv = none:=by
   cases q0:H dv with
   | none=>rfl
   | some o=>rw [B4 dv o (B3 dv o (B0 dv o q0 nv) nv) nv] at fv; cases fv
  walk_at "r"
  refine ⟨(by show 0 ≤ sizeLine; decide),fun la fa=>?_⟩
  have S6:=Same.upd (o:=.lst []) fa
  have ea:upd H5 la (.lst []) la = some (.lst (([]:List Int).map V.int)):=upd_same
  generalize upd H5 la _ = H6 at *
  walk_at "r"
  refine ⟨(by show 0 ≤ sizeLine; decide),fun lb fb=>?_⟩
  have S7:=Same.upd (o:=.lst []) fb
  have eb:upd H6 lb (.lst []) lb = some (.lst (([]:List Int).map V.int)):=upd_same
  generalize upd H6 lb _ = H7 at *
  walk_at "r"
  refine mk_page (S7 _ _ ea) eb ⟨fun _ z=>(nomatch z),.nil,by decide⟩ ⟨rfl,fun _ z=>nomatch z⟩ fun pg dg tk tg H8 p1 p2 p3 S8 q1 q2 q3=>?_
  have S57:=S6.trans S7
  have S58:=S57.trans S8
  have t0:IsT c ⟨dx,r,dr,du,dk,df,dc,dn,dv,[]⟩ (rsL [x,r,du,dk,df,dc,dn,dv] H5) x ⟨most,none,[],⟨0,[],[],[],[]⟩⟩:=by
   refine ⟨?_,⟨?_,?_,?_,?_,?_,r5.nd⟩,?_,?_,rfl,fun j p n z=>(by cases z),⟨dnR,dvR,nvn⟩,nx fr⟩
   ·rw [rsL_at (by simp)]; exact e5
   ·rw [rsL_at (by simp)]; exact r5.x
   ·rw [rsL_at (by simp)]; exact r5.u
   ·rw [rsL_at (by simp)]; exact r5.k
   ·rw [rsL_at (by simp)]; exact r5.f
   ·rw [rsL_at (by simp)]; exact r5.c
   ·rw [rsL_at (by simp)]; exact d5
   ·rw [rsL_at (by simp)]; exact v5
  obtain ⟨h2,cg2,hpg,up⟩:=Pg.add (cp:=c.pg) (lv:=0) (ks:=[]) (gs:=[]) (Chg.same rsL_same S58) (S57.free p1) (S57.free p2) (S57.free p3) q1 q2 q3
  have t2:=t0.same up
  walk_at "r"
  refine ⟨_,h2,x,_,0,pg,[],[],none,none,rfl,t2,cg2.sm,⟨.nil,(fun _ z=>by cases z),.nil,(fun _ z=>by cases z)⟩,rfl,(by show 0 ≤ 400; decide),by decide,by decide,hpg,.inl ⟨rfl,rfl⟩,fun j a' h' H' gv t' c'=>?_⟩
  have j0:j = 0:=by
   rcases gv with ⟨_,e⟩ | ⟨e,_⟩
   ·exact e
   ·cases e
  subst j0
  have hx':=c'.sm _ _ t'.x
  walk_at "r"
  have ce:=(cg2.trans c').trans (Chg.mut (o:=.ins c.T a'.dx (tF most a'.r a'.dn a'.dv (some 0))) c'.sm t'.x)
  have li:∀ {b:Addr},b ∈ [x,r,du,dk,df,dc,dn,dv]→b = x∨H b = none:=fun {b} hb=>by
   simp only [List.mem_cons,List.not_mem_nil,or_false] at hb
   rcases hb with rfl | rfl | rfl | rfl | rfl | rfl | rfl | rfl
   ·exact .inl rfl
   ·exact .inr (bk1 fr)
   ·exact .inr (bk1 z1)
   ·exact .inr (bk1 z2)
   ·exact .inr (bk1 z3)
   ·exact .inr (bk1 z4)
   ·exact .inr bk3
   ·exact .inr bk4
  refine k a' _ _ (t'.setTop 0) ce.sm (fun b=>?_) fun b o z n=>?_
  ·rcases ce.nw b with q | q | q
   ·exact .inl q
   ·exact .inr (li (rsL_in q))
   ·by_cases e:b = x
    ·exact .inr (.inl e)
    ·exact .inr (.inr (back e q))
  ·refine ce.fr b o (B b o z n) ?_
   cases q:rsL [x,r,du,dk,df,dc,dn,dv] H5 b with
   | none=>rfl
   | some o'=>
    rcases li (rsL_in (by rw [q]; exact fun z=>nomatch z)) with e | e
    ·exact absurd e n
    ·rw [z] at e; cases e
end
def stK (most top:Int) (dn lu lk lf lc:Addr) (lap:Int):List (Key×V):=[(Sum.inr "most",.int most),(Sum.inr "top",.int top),(Sum.inr "nodes",.ref dn),(Sum.inr "used",.ref lu),(Sum.inr "kept",.ref lk),(Sum.inr "free",.ref lf),(Sum.inr "going",.ref lc),(Sum.inr "lap",.int lap)]
section
variable {most top lap:Int} {dn lu lk lf lc:Addr}
theorem st_nd:((stK most top dn lu lk lf lc lap).map (·.1)).Nodup:=by
 show ([Sum.inr "most",Sum.inr "top",Sum.inr "nodes",Sum.inr "used",Sum.inr "kept",Sum.inr "free",Sum.inr "going",Sum.inr "lap"]:List Key).Nodup
 decide +kernel
theorem st_most:valV (stK most top dn lu lk lf lc lap) (Sum.inr "most") = some (.int most):=valV_get (j:=0) st_nd rfl
theorem st_top:valV (stK most top dn lu lk lf lc lap) (Sum.inr "top") = some (.int top):=valV_get (j:=1) st_nd rfl
theorem st_nodes:valV (stK most top dn lu lk lf lc lap) (Sum.inr "nodes") = some (.ref dn):=valV_get (j:=2) st_nd rfl
theorem st_used:valV (stK most top dn lu lk lf lc lap) (Sum.inr "used") = some (.ref lu):=valV_get (j:=3) st_nd rfl
theorem st_kept:valV (stK most top dn lu lk lf lc lap) (Sum.inr "kept") = some (.ref lk):=valV_get (j:=4) st_nd rfl
theorem st_free:valV (stK most top dn lu lk lf lc lap) (Sum.inr "free") = some (.ref lf):=valV_get (j:=5) st_nd rfl
theorem st_going:valV (stK most top dn lu lk lf lc lap) (Sum.inr "going") = some (.ref lc):=valV_get (j:=6) st_nd rfl
theorem st_lap:valV (stK most top dn lu lk lf lc lap) (Sum.inr "lap") = some (.int lap):=valV_get (j:=7) st_nd rfl
theorem st_lt:(stK most top dn lu lk lf lc lap).length < sizeLine:=by show 8 < sizeLine; decide
theorem sp_top {z:Int}:putK (stK most top dn lu lk lf lc lap) (Sum.inr "top") (.int z) = stK most z dn lu lk lf lc lap:=putK_set (j:=1) st_nd rfl
theorem sp_used {z:Addr}:putK (stK most top dn lu lk lf lc lap) (Sum.inr "used") (.ref z) = stK most top dn z lk lf lc lap:=putK_set (j:=3) st_nd rfl
theorem sp_kept {z:Addr}:putK (stK most top dn lu lk lf lc lap) (Sum.inr "kept") (.ref z) = stK most top dn lu z lf lc lap:=putK_set (j:=4) st_nd rfl
theorem sp_free {z:Addr}:putK (stK most top dn lu lk lf lc lap) (Sum.inr "free") (.ref z) = stK most top dn lu lk z lc lap:=putK_set (j:=5) st_nd rfl
theorem sp_going {z:Addr}:putK (stK most top dn lu lk lf lc lap) (Sum.inr "going") (.ref z) = stK most top dn lu lk lf z lap:=putK_set (j:=6) st_nd rfl
theorem sp_lap {z:Int}:putK (stK most top dn lu lk lf lc lap) (Sum.inr "lap") (.int z) = stK most top dn lu lk lf lc z:=putK_set (j:=7) st_nd rfl
end
local macro_rules | `(tactic| walk_at "st") => `(tactic| first | exact st_most | exact st_top | exact st_nodes | exact st_used | exact st_kept | exact st_free | exact st_going | exact st_lap)
theorem pair_snoc {ks:List Int} {z:Int} (h:ks.Pairwise (· < ·)) (b:∀ k ∈ ks,k < z):(ks ++ [z]).Pairwise (· < ·):=List.pairwise_append.mpr ⟨h,List.pairwise_singleton _ _,fun k hk y hy=>by rw [List.mem_singleton.mp hy]; exact b k hk⟩
section
variable {P:Program} {w:World} {K:PySem.W.Frag} {mg:Str→Option Value} {base:Heap} {c:Cs}
abbrev s__law_keys:Stmt:=top 58
def spKeys:Sp:=fun vs H Q _=>∃ (p:Addr) (m n:Nat),vs = [.ref p,.int m]∧Box H p n∧n ≤ 900000∧m ≤ 6∧∀ l ks H',H l = none→KB p H H'→Box H' p (n + 8)→H' l = some (.lst (ks.map V.int))→KeysOk ks→ks.length = m→Q (.ref l) H'
theorem ok_keys (F:Fx P w K mg base c):OkD P w K mg base "_law_keys" s__law_keys ["_law_box_here","_law_many"] 2 spKeys:=by
 have T:=F.r.T
 have E_law_take:=ok_take F
 refine F.r.d__law_keys.ok (N:=["_law_box_here","_law_many","_law_key","_law_gap","_law_found","_law_k"]) fun sc H Q hr h=>?_
 obtain ⟨p,m,n,rfl,B,hn,hm,k⟩:=h
 have big:=big1000
 refine' ⟨_,(pss_cons (ps_v sc 2 (pe_ix ix_list (pe_lst (pa_c (pe_un un_neg pe_int) (pa_c pe_int (pa_c (pe_op op_sub pe_int pe_int) (pa_c (pe_un un_neg pe_int) pa_nil))))) (pe_d E_law_take hr (pa_c (pv 0) (pa_c pe_int pa_nil))) (fun _ _=>rfl)))
  (pss_cons (ps_v sc 3 (pe_ix ix_list (pe_lst (pa_c pe_int (pa_c pe_int (pa_c pe_int pa_nil)))) (pe_d E_law_take hr (pa_c (pv 0) (pa_c pe_int pa_nil))) (fun _ _=>rfl)))
  (pss_cons (ps_v sc 4 (pe_lst pa_nil))
  (pss_cons (ps_for PassesOwn.never rfl (pi_range1 rfl T.n_range (pa_c (pv 1) pa_nil)) (pg_v sc 5)
   (pss_cons (ps_expr (pe_bm PySem.F.plainAttrs_list PySem.F.slot_list_append PySem.F.type_list_append mt_append (pv 4) (pa_c (pv 2) pa_nil)))
  (pss_one (ps_v sc 2 (pe_op op_add (pe_op op_add (pv 2) pe_int) (pe_d E_law_take hr (pa_c (pv 0) (pa_c (pv 3) pa_nil))))))))
  (pss_one (ps_ret (pv 4))))))),?_⟩
 walk_at "r"
 refine ⟨(by show 4 ≤ sizeLine; decide),fun l1 f1=>?_⟩
 have S1:=Same.upd (o:=.lst [.int (-9),.int 0,.int (999999999 - 60),.int (-999999999)]) f1
 have e1:upd H l1 (.lst [.int (-9),.int 0,.int (999999999 - 60),.int (-999999999)]) l1 = some (.lst (([-9,0,999999999 - 60,-999999999]:List Int).map V.int)):=upd_same
 have m1:=B.ne f1
 generalize upd H l1 _ = H1 at *
 walk_at "r"
 refine ⟨p,4,n,rfl,B.same S1,by omega,by decide,by decide,fun r1 H2 a0 a1 B2 k2=>?_⟩
 obtain ⟨z0,hz0,ez⟩:=atI_ints (ns:=[-9,0,999999999 - 60,-999999999]) a0 a1
 have zb:-999999999 ≤ z0∧z0 ≤ 999999939:=by
  simp only [List.mem_cons,List.not_mem_nil,or_false] at hz0
  omega
 refine q_ixL (k2 _ _ e1 m1) ez ?_
 have K2:KB p H H2:=fun b o z nb=>k2 b o (S1 _ _ z) nb
 clear S1 e1 k2 hz0 ez
 walk_at "r"
 refine ⟨(by show 3 ≤ sizeLine; decide),fun l3 f3=>?_⟩
 have S3:=Same.upd (o:=.lst [.int 1,.int 2,.int 9]) f3
 have e3:upd H2 l3 (.lst [.int 1,.int 2,.int 9]) l3 = some (.lst (([1,2,9]:List Int).map V.int)):=upd_same
 have m3:=B2.ne f3
 generalize upd H2 l3 _ = H3 at *
 walk_at "r"
 refine ⟨p,3,n + 1,rfl,B2.same S3,by omega,by decide,by decide,fun r2 H4 a2 a3 B4 k4=>?_⟩
 obtain ⟨gap,hg,eg⟩:=atI_ints (ns:=[1,2,9]) a2 a3
 have gb:1 ≤ gap∧gap ≤ 9:=by
  simp only [List.mem_cons,List.not_mem_nil,or_false] at hg
  omega
 refine q_ixL (k4 _ _ e3 m3) eg ?_
 have K4:KB p H H4:=fun b o z nb=>k4 b o (S3 _ _ (K2 b o z nb)) nb
 clear S3 e3 k4 hg eg K2 f3 B2
 walk_at "r"
 refine ⟨(by show 0 ≤ sizeLine; decide),fun l f0=>?_⟩
 have nl:=B4.ne f0
 have fl:H l = none:=kb_back K4 f0 nl
 have K5:KB p H (upd H4 l (.lst [])):=kbF K4 fl
 have e5:upd H4 l (.lst []) l = some (.lst (([]:List Int).map V.int)):=upd_same
 have B5:=B4.same (Same.upd (o:=.lst []) f0)
 generalize upd H4 l _ = H5 at *
 clear K4 B4 f0
 walk_at "r"
 refine k_rng1 (by omega) (by omega) ?_
 refine q_forR (fun i σ Hx=>∃ (o5:Option V) (ks:List Int) (key:Int),σ = [some (.ref p),some (.int m),some (.int key),some (.int gap),some (.ref l),o5]∧Hx l = some (.lst (ks.map V.int))∧ks.length = i∧KB p H Hx∧Box Hx p (n + 2 + i)∧(∀ x ∈ ks,-999999999 ≤ x∧x < key)∧ks.Pairwise (· < ·)∧-999999999 ≤ key∧key ≤ 999999939 + 9 * i) ⟨none,[],z0,rfl,e5,rfl,K5,B5,(fun _ z=>nomatch z),.nil,zb.1,by omega⟩ ?_ ?_
 ·rintro i σ Hx hi ⟨o5,ks,key,rfl,ex,lx,Kx,Bx,bx,px,b0,b1⟩
  have hi':i < m:=by omega
  walk_at "r"
  refine q_append ex (by rw [List.length_map]; omega) ?_
  have Ky:KB p H (upd Hx l (.lst (ks.map V.int ++ [.int key]))):=kbF Kx fl
  have ey:upd Hx l (.lst (ks.map V.int ++ [.int key])) l = some (.lst ((ks ++ [key]).map V.int)):=by rw [upd_same,List.map_append]; rfl
  have By:Box (upd Hx l (.lst (ks.map V.int ++ [.int key]))) p (n + 2 + i):=Bx.to fun o z=>by rw [upd_ne (Ne.symm nl)]; exact z
  generalize upd Hx l _ = Hy at *
  walk_at "r"
  refine ⟨p,gap,n + 2 + i,rfl,By,by omega,by omega,by omega,fun r H6 c0 c1 B6 k6=>?_⟩
  walk_at "r"
  refine ⟨_,ks ++ [key],key + 1 + r,rfl,k6 _ _ ey nl,by rw [List.length_append,lx]; rfl,(fun b o z nb=>k6 b o (Ky b o z nb) nb),B6,fun x hx=>?_,pair_snoc px (fun x hx=>(bx x hx).2),by omega,by omega⟩
  rcases List.mem_append.mp hx with hx | hx
  ·have:=bx x hx; omega
  ·rw [List.mem_singleton.mp hx]; omega
 ·rintro σ Hx ⟨o5,ks,key,rfl,ex,lx,Kx,Bx,bx,px,b0,b1⟩
  have lm:ks.length = m:=by omega
  walk_at "r"
  exact k l ks Hx fl Kx (Bx.mono (by omega)) ex ⟨fun x hx=>by have:=bx x hx; exact ⟨this.1,by omega⟩,px,by omega⟩ lm
abbrev s__law_one:Stmt:=top 71
def spOne:Sp:=fun vs H Q _=>∃ (p l:Addr) (n:Nat) (ns:List Int),vs = [.ref p,.ref l]∧Box H p n∧n ≤ 900000∧H l = some (.lst (ns.map V.int))∧l ≠ p∧ns.length ≤ 1000∧∀ (v:Option Int) H',(ns = []→v = none)→(ns ≠ []→∃ z,v = some z∧z ∈ ns)→KB p H H'→Box H' p (n + 1)→Q (oV v) H'
theorem ok_one (F:Fx P w K mg base c):OkD P w K mg base "_law_one" s__law_one ["_law_box_here","_law_some"] 2 spOne:=by
 have T:=F.r.T
 have E_law_take:=ok_take F
 refine F.r.d__law_one.ok (N:=["_law_box_here","_law_some"]) fun sc H Q hr h=>?_
 obtain ⟨p,l,n,ns,rfl,B,hn,hl,nl,few,k⟩:=h
 have hu:=hr.units0
 refine' ⟨_,(pss_one (ps_ret (pe_ifExp (pt_cmpR (op_neL hu) (pv 1) (pe_lst pa_nil) (nomark _)) (pe_ix ix_list (pv 1) (pe_d E_law_take hr (pa_c (pv 0) (pa_c (pe_callB call_len_seq rfl T.n_len bt_len (pa_c (pv 1) pa_nil)) pa_nil))) (fun _ _=>rfl)) pe_non))),?_⟩
 walk_at "r"
 refine ⟨(by show 0 ≤ sizeLine; decide),fun l1 f1=>?_⟩
 have S1:=Same.upd (o:=.lst []) f1
 have e1:upd H l1 (.lst []) l1 = some (.lst []):=upd_same
 generalize upd H l1 _ = H1 at *
 refine ⟨l,l1,_,[],rfl,rfl,SqL.of (S1 _ _ hl),SqL.of e1,okPs_nil,?_⟩
 rw [if_pos rfl,eqPs_nil]
 walk_at "r"
 by_cases h0:ns = []
 ·subst h0
  refine iteNS rfl ?_
  walk_at "r"
  exact k none H1 (fun _=>rfl) (fun z=>absurd rfl z) S1.kb ((B.same S1).mono (by omega))
 ·refine iteNX (fun z=>h0 (List.map_eq_nil_iff.mp z)) ?_
  have lp:0 < ns.length:=List.length_pos_iff.mpr h0
  walk_at "r"
  refine ⟨l,_,rfl,.inl (SqL.of (S1 _ _ hl)),?_⟩
  walk_at "r"
  refine ⟨p,_,n,rfl,B.same S1,by omega,by rw [List.length_map]; omega,by rw [List.length_map]; omega,fun r H2 a0 a1 B2 k2=>?_⟩
  obtain ⟨z,hz,ez⟩:=atI_ints (ns:=ns) a0 (by rw [List.length_map] at a1; exact a1)
  refine q_ixL (k2 _ _ (S1 _ _ hl) nl) ez ?_
  exact k (some z) H2 (fun q=>absurd q h0) (fun _=>⟨z,rfl,hz⟩) (fun b o e nb=>k2 b o (S1 _ _ e) nb) B2
abbrev s__law_edge:Stmt:=top 69
def spEdge:Sp:=fun vs H Q _=>∃ (p st lu:Addr) (n:Nat) (us:List Int) (most top lap:Int) (dn lk lf lc:Addr),vs = [.ref p,.ref st]∧Box H p n∧n ≤ 800000∧H st = some (.dK (stK most top dn lu lk lf lc lap))∧H lu = some (.lst (us.map V.int))∧lu ≠ p∧us ≠ []∧us.length ≤ 1000 ∧
 ∀ et hi rt H',H et = none→KB p H H'→Box H' p (n + 12)→H' et = some (.tup [oV hi,oV rt])→(hi = none∧rt = none∨∃ k r:Int,hi = some k∧rt = some r∧KeyR k∧r ∈ us)→Q (.ref et) H'
theorem ok_edge (F:Fx P w K mg base c):OkD P w K mg base "_law_edge" s__law_edge ["_law_box_here","_law_state_here"] 3 spEdge:=by
 have T:=F.r.T
 have E_law_take:=ok_take F
 have E_law_keys:=ok_keys F
 refine F.r.d__law_edge.ok (N:=["_law_box_here","_law_state_here"]) fun sc H Q hr h=>?_
 obtain ⟨p,st,lu,n,us,most,top,lap,dn,lk,lf,lc,rfl,B,hn,hs,hl,nl,ne,few,k⟩:=h
 have ns:st ≠ p:=fun z=>by obtain ⟨xs,e⟩:=B.lst; rw [z,e] at hs; cases hs
 refine' ⟨_,(pss_cons (ps_if (pt_cmpR op_eq (pe_d E_law_take hr (pa_c (pv 0) (pa_c pe_int pa_nil))) pe_int (nomark _))
   (pss_one (ps_ret (pe_tup (pa_c pe_non (pa_c pe_non pa_nil)))))
   pss_nil)
  (pss_one (ps_ret (pe_tup (pa_c (pe_ix ix_list (pe_d E_law_keys hr (pa_c (pv 0) (pa_c pe_int pa_nil))) pe_int (fun _ _=>rfl)) (pa_c (pe_ix ix_list (pe_gs hr (pv 1)) (pe_d E_law_take hr (pa_c (pv 0) (pa_c (pe_callB call_len_seq rfl T.n_len bt_len (pa_c (pe_gs hr (pv 1)) pa_nil)) pa_nil))) (fun _ _=>rfl)) pa_nil)))))),?_⟩
 walk_at "r"
 refine ⟨p,3,n,rfl,B,by omega,by decide,by decide,fun r0 H1 a0 a1 B1 k1=>?_⟩
 walk_at "r"
 refine ite2 (fun _=>?_) (fun _=>?_)
 ·walk_at "r"
  refine ⟨(by show 2 ≤ sizeLine; decide),fun et fe=>?_⟩
  exact k et none none _ (kb_back k1 fe (B1.ne fe)) (fun b o z nb=>Same.upd fe _ _ (k1 b o z nb)) ((B1.same (Same.upd fe)).mono (by omega)) upd_same (.inl ⟨rfl,rfl⟩)
 ·walk_at "r"
  refine ⟨p,1,n + 1,rfl,B1,by omega,by decide,fun l ks H2 f2 k2 B2 e2 ok2 l2=>?_⟩
  obtain ⟨z,rfl⟩:∃ z,ks = [z]:=List.length_eq_one_iff.mp l2
  have K2:KB p H H2:=fun b o e nb=>k2 b o (k1 b o e nb) nb
  have hs2:=K2 _ _ hs ns
  walk_at "r"
  have hl2:=K2 _ _ hl nl
  refine ⟨lu,_,rfl,.inl (SqL.of hl2),?_⟩
  walk_at "r"
  have lp:0 < us.length:=List.length_pos_iff.mpr ne
  refine ⟨p,_,n + 9,rfl,B2,by omega,by rw [List.length_map]; omega,by rw [List.length_map]; omega,fun r H3 c0 c1 B3 k3=>?_⟩
  obtain ⟨y,hy,ey⟩:=atI_ints (ns:=us) c0 (by rw [List.length_map] at c1; exact c1)
  refine q_ixL (k3 _ _ hl2 nl) ey ?_
  have K3:KB p H H3:=fun b o e nb=>k3 b o (K2 b o e nb) nb
  walk_at "r"
  refine ⟨(by show 2 ≤ sizeLine; decide),fun et fe=>?_⟩
  exact k et (some z) (some y) _ (kb_back K3 fe (B3.ne fe)) (fun b o z nb=>Same.upd fe _ _ (K3 b o z nb)) ((B3.same (Same.upd fe)).mono (by omega)) upd_same (.inr ⟨z,y,rfl,rfl,ok2.r z (by simp),hy⟩)
end
theorem ix_seqK {X:Cx} {K:PySem.W.Frag} (h:X.K = K):IxR X (rIx K):=by subst h; exact ix_seq
theorem comp_dl {K:PySem.W.Frag} {js:List Nat} {te tl:TE} {σ:St} {H:Hp} {Q:VK} {p a:Addr} {m0 c:Nat} (xs:List V) (R:V→Prop) (hw:∀ R':VK,R' (.ref a) H→tl σ H R') (ha:H a = some (.lst xs)) (na:a ≠ p) (B:Box H p m0) (hn:xs.length ≤ 2000)
  (he:∀ x H2 m (Z:VK),Box H2 p m→m ≤ m0 + c * xs.length→(∀ v H3,R v→Box H3 p (m + c)→KB p H2 H3→Z v H3)→te (blkSt js σ (some x)) H2 Z)
  (q:∀ d H2 vs,H d = none→vs.length = xs.length→(∀ v ∈ vs,R v)→Box H2 p (m0 + c * xs.length)→KB p H H2→H2 d = some (.lst vs)→Q (.ref d) H2):tComp js (iList K tl) (fun _ H Q=>Q true H) te σ H Q:=by
 refine hw _ ⟨a,rfl,⟨xs,SqL.of ha⟩,fun D hD=>?_⟩
 have nD:D ≠ p:=B.ne hD
 refine ⟨fun i m H2=>i + m = xs.length∧KB p H H2∧Box H2 p (m0 + c * i)∧∃ vs,H2 D = some (.lst vs)∧vs.length = i∧∀ v ∈ vs,R v,⟨xs.length,by omega,(Same.upd hD).kb,B.same (Same.upd hD),[],upd_same,rfl,fun v h=>absurd h (by simp)⟩,?_⟩
 rintro i m H2 ⟨hm,k2,B2,vs,e2,l2,r2⟩
 have ha2:=k2 _ _ ha na
 by_cases hi:i < xs.length
 ·refine .inr ⟨⟨xs,xs[i],SqL.of ha2,List.getElem?_eq_getElem hi⟩,?_⟩
  rintro v H3 ⟨rfl,_⟩
  have cm:c * i ≤ c * xs.length:=Nat.mul_le_mul_left _ (by omega)
  refine iteT (he _ _ _ _ B2 (by omega) fun y H5 hy B5 k5=>⟨vs,k5 _ _ e2 nD,by have:=big1000; omega,m - 1,by omega,by omega,fun b o z nb=>?_,?_,vs ++ [y],upd_same,by simp [l2],fun u hu=>?_⟩)
  ·rw [upd_ne (ne_of_none z hD)]
   exact k5 _ _ (k2 _ _ z nb) nb
  ·have e:m0 + c * i + c = m0 + c * (i + 1):=by rw [Nat.mul_add,Nat.mul_one]; omega
   rw [e] at B5
   exact B5.to fun o z=>by rw [upd_ne (Ne.symm nD)]; exact z
  ·rcases List.mem_append.mp hu with hu | hu
   ·exact r2 u hu
   ·rw [List.mem_singleton.mp hu]; exact hy
 ·have ei:i = xs.length:=by omega
  subst ei
  exact .inl ⟨⟨xs,SqL.of ha2,Nat.le_refl _⟩,q D H2 vs hD l2 r2 B2 k2 e2⟩
theorem ints_of {P:Int→Prop}:∀ {vs:List V},(∀ v ∈ vs,∃ z:Int,v = .int z∧P z)→∃ zs:List Int,vs = zs.map V.int∧∀ z ∈ zs,P z
 | [],_=>⟨[],rfl,fun _ z=>nomatch z⟩
 | v :: vs,h=>by
  obtain ⟨z,rfl,hz⟩:=h v (List.mem_cons_self ..)
  obtain ⟨zs,rfl,hp⟩:=ints_of fun u hu=>h u (List.mem_cons_of_mem _ hu)
  exact ⟨z :: zs,rfl,fun y hy=>by rcases List.mem_cons.mp hy with rfl | hy; exact hz; exact hp y hy⟩
def stepsL (a s:Int) (m:Nat):List Int:=(List.range m).map fun (k:Nat)=>a + s * (k:Int)
theorem steps_ok {a s:Int} {m:Nat} (ha:0 ≤ a) (hs:1 ≤ s):(stepsL a s m).length = m∧(∀ z ∈ stepsL a s m,0 ≤ z)∧(stepsL a s m).Nodup:=by
 refine ⟨by simp [stepsL],fun z hz=>?_,?_⟩
 ·obtain ⟨k,_,rfl⟩:=List.mem_map.mp hz
  have:0 ≤ s * (k:Int):=Int.mul_nonneg (by omega) (by omega)
  omega
 ·unfold stepsL
  rw [List.nodup_iff_pairwise_ne,List.pairwise_map]
  refine List.Pairwise.imp ?_ List.nodup_range
  intro x y hxy e
  have e2:s * (x:Int) = s * (y:Int):=by omega
  have:=Int.eq_of_mul_eq_mul_left (by omega) e2
  omega
def okG (lv:Int) (n:Nat) (gs:List Int):Prop:=if lv = 0 then okL n gs else okI n gs
structure Cont (H:Hp) (tt lk lg:Addr) (lv:Int) (ks gs:List Int):Prop where
 t:H tt = some (.tup [.ref lk,.ref lg])
 k:H lk = some (.lst (ks.map V.int))
 g:H lg = some (.lst (gs.map V.int))
 ok:KeysOk ks
 og:okG lv ks.length gs
 gb:∀ z ∈ gs,z.natAbs ≤ 10 ^ 9
section
variable {P:Program} {w:World} {K:PySem.W.Frag} {mg:Str→Option Value} {base:Heap} {c:Cs}
abbrev s__law_content:Stmt:=top 59
def spContent:Sp:=fun vs H Q _=>∃ (p:Addr) (lv:Int) (n:Nat),vs = [.ref p,.int lv]∧Box H p n∧n ≤ 800000∧∀ tt lk lg ks gs H',H tt = none→H lk = none→H lg = none→p ∉ [tt,lk,lg]→KB p H H'→Box H' p (n + 30)→Cont H' tt lk lg lv ks gs→Q (.ref tt) H'
theorem ok_content (F:Fx P w K mg base c):OkD P w K mg base "_law_content" s__law_content ["_law_box_here","_law_level"] 3 spContent:=by
 have T:=F.r.T
 have E_law_take:=ok_take F
 have E_law_keys:=ok_keys F
 refine F.r.d__law_content.ok (N:=["_law_box_here","_law_level","_law_keys_here","_law_first","_law_step","_law_goods"]) fun sc H Q hr h=>?_
 obtain ⟨p,lv,n,rfl,B,hn,k⟩:=h
 have big:=big1000
 refine' ⟨_,(pss_cons (ps_v sc 2 (pe_d E_law_keys hr (pa_c (pv 0) (pa_c (pe_d E_law_take hr (pa_c (pv 0) (pa_c pe_int pa_nil))) pa_nil))))
  (pss_cons (ps_if (pt_cmpR op_eq (pv 1) pe_int (nomark _))
   (pss_one (ps_ret (pe_tup (pa_c (pv 2) (pa_c (pe_comp (blk_mk ["_law_box_here"] [0]) rfl (pi_list (pv 2)) (fun _ _ _ _ _=>PTs.nil) (fun _ _ _ _ _=>(pe_ix (ix_seqK (K:=K) rfl) (pe_lst (pa_c (pe_op op_sub (pe_d E_law_take hr (pa_c (pv 1) (pa_c pe_int pa_nil))) pe_int) (pa_c pe_int (pa_c (pe_un un_neg pe_int) pa_nil)))) (pe_d E_law_take hr (pa_c (pv 1) (pa_c pe_int pa_nil))) (fun _ _=>rfl)))) pa_nil)))))
   pss_nil)
  (pss_cons (ps_set (i:=3) sc.nd rfl (Or.inr rfl) (pe_d E_law_take hr (pa_c (pv 0) (pa_c pe_int pa_nil))))
  (pss_cons (ps_set (i:=4) sc.nd rfl (Or.inr rfl) (pe_op op_add pe_int (pe_d E_law_take hr (pa_c (pv 0) (pa_c pe_int pa_nil)))))
  (pss_cons (ps_setComp (i:=5) (blk_mk ["_law_first","_law_step"] [3,4]) rfl (pi_range1 rfl T.n_range (pa_c (pe_op op_add (pe_callB call_len_seq rfl T.n_len bt_len (pa_c (pv 2) pa_nil)) pe_int) pa_nil)) (fun _ _ _ _ _=>PTs.nil) (fun _ _ _ _ _=>(pe_op op_add (pv 1) (pe_op op_mul (pv 2) (pv 0)))) sc.nd rfl rfl)
  (pss_cons (ps_if (pt_cmpR op_eq (pe_d E_law_take hr (pa_c (pv 0) (pa_c pe_int pa_nil))) pe_int (nomark _))
   (pss_one (ps_expr (pe_bm0 PySem.F.plainAttrs_list PySem.F.slot_list_reverse PySem.F.type_list_reverse mt_reverse (pv 5))))
   pss_nil)
  (pss_one (ps_ret (pe_tup (pa_c (pv 2) (pa_c (pv 5) pa_nil))))))))))),?_⟩
 walk_at "r"
 refine ⟨p,7,n,rfl,B,by omega,by decide,by decide,fun r0 H1 a0 a1 B1 k1=>?_⟩
 obtain ⟨m,rfl⟩:∃ m:Nat,r0 = m:=⟨r0.toNat,by omega⟩
 walk_at "r"
 refine ⟨p,m,n + 1,rfl,B1,by omega,by omega,fun l ks H2 f2 k2 B2 e2 ok2 l2=>?_⟩
 have K2:KB p H H2:=fun b o z nb=>k2 b o (k1 b o z nb) nb
 have nl:l ≠ p:=B1.ne f2
 have fl:H l = none:=kb_back k1 f2 nl
 clear k1 k2 B1 B f2
 walk_at "r"
 by_cases h0:lv = 0
 ·subst h0
  refine iteD rfl ?_
  walk_at "r"
  refine comp_dl (a:=l) (c:=2) (ks.map V.int) (fun v=>∃ z:Int,v = .int z∧KeyR z) (fun R' r=>⟨_,rfl,r⟩) e2 nl B2 (by rw [List.length_map]; omega) ?_ ?_
  ·intro x H3 i Z B3 hi z
   have hi':i ≤ 800100:=by rw [List.length_map] at hi; omega
   walk_at "r"
   refine ⟨p,20,i,rfl,B3,by omega,by decide,by decide,fun r1 H4 c0 c1 B4 k4=>?_⟩
   walk_at "r"
   refine ⟨(by show 3 ≤ sizeLine; decide),fun l5 f5=>?_⟩
   have S5:=Same.upd (o:=.lst [.int (r1 - 10),.int 999999999,.int (-999999999)]) f5
   have e5:upd H4 l5 (.lst [.int (r1 - 10),.int 999999999,.int (-999999999)]) l5 = some (.lst (([r1 - 10,999999999,-999999999]:List Int).map V.int)):=upd_same
   have n5:=B4.ne f5
   generalize upd H4 l5 _ = H5 at *
   walk_at "r"
   refine ⟨p,3,i + 1,rfl,B4.same S5,by omega,by decide,by decide,fun r2 H6 d0 d1 B6 k6=>?_⟩
   obtain ⟨y,hy,ey⟩:=atI_ints (ns:=[r1 - 10,999999999,-999999999]) d0 d1
   refine .inl (q_ixL (k6 _ _ e5 n5) ey ?_)
   refine z _ H6 ⟨y,rfl,?_⟩ B6 fun b o q nb=>k6 b o (S5 _ _ (k4 b o q nb)) nb
   simp only [List.mem_cons,List.not_mem_nil,or_false] at hy
   unfold KeyR
   omega
  ·intro lg H3 vs fg lv' rv B3 k3 e3
   obtain ⟨gs,rfl,hg⟩:=ints_of rv
   rw [List.length_map,List.length_map] at lv'
   rw [List.length_map] at B3
   have K3:KB p H H3:=fun b o z nb=>k3 b o (K2 b o z nb) nb
   have ng:lg ≠ p:=B2.ne fg
   walk_at "r"
   refine ⟨(by show 2 ≤ sizeLine; decide),fun tt ft=>?_⟩
   have nt:=B3.ne ft
   refine k tt l lg ks gs _ (kb_back K3 ft nt) fl (kb_back K2 fg ng) (by simp [Ne.symm nt,Ne.symm nl,Ne.symm ng]) (fun b o z nb=>Same.upd ft _ _ (K3 b o z nb)) ((B3.same (Same.upd ft)).mono (by omega)) ⟨upd_same,Same.upd ft _ _ (k3 _ _ e2 nl),Same.upd ft _ _ e3,ok2,?_,fun z hz=>by have:=hg z hz; unfold KeyR at this; omega⟩
   unfold okG
   rw [if_pos rfl]
   exact ⟨lv',hg⟩
 ·refine iteX (fun z=>h0 (V.int.inj z)) ?_
  walk_at "r"
  refine ⟨p,9,n + 9,rfl,B2,by omega,by decide,by decide,fun fi H3 c0 c1 B3 k3=>?_⟩
  walk_at "r"
  refine ⟨p,4,n + 10,rfl,B3,by omega,by decide,by decide,fun sp H4 d0 d1 B4 k4=>?_⟩
  have K4:KB p H H4:=fun b o z nb=>k4 b o (k3 b o (K2 b o z nb) nb) nb
  have e4:=k4 _ _ (k3 _ _ e2 nl) nl
  clear K2 k3 k4 B2 B3
  walk_at "r"
  refine comp_f (J:=Itr 0 (m + 1)) (H1:=H4) (upTo 0 (m + 1)) (fun _=>true) (fun v=>match v with | .int z=>.int (fi + (1 + sp) * z) | v=>v) (fun R r=>?_) it_rng (fun _ _ H2 R _ r=>r H2 (Same.refl _)) ?_ (by simp [L2.upTo]; omega) ?_
  ·walk_at "r"
   refine ⟨l,_,rfl,.inl (SqL.of e4),?_⟩
   walk_at "r"
   refine k_rng1 (by rw [List.length_map]; omega) (by rw [List.length_map]; omega) ?_
   rw [List.length_map,l2]
   exact r
  ·intro v hv _ H5 R S5 r
   obtain ⟨i,hi,rfl⟩:=List.mem_map.mp hv
   have hi':=List.mem_range.mp hi
   walk_at "r"
   refine q_i (.inl ⟨by omega,by omega⟩) ?_
   walk_at "r"
   exact r H5 (Same.refl _)
  ·intro lg H5 fg S5 e5
   have ng:lg ≠ p:=B4.ne fg
   have e5':H5 lg = some (.lst ((stepsL fi (1 + sp) (m + 1)).map V.int)):=by
    rw [e5,filt_all]
    unfold L2.upTo stepsL
    rw [List.map_map,List.map_map]
    congr 2
    refine List.map_congr_left fun i _=>?_
    show V.int (fi + (1 + sp) * (0 + (i:Int))) = V.int (fi + (1 + sp) * (i:Int))
    rw [Int.zero_add]
   have K5:KB p H H5:=fun b o z nb=>S5 _ _ (K4 b o z nb)
   have B5:=B4.same S5
   have fg':=kb_back K4 fg ng
   have el:=S5 _ _ e4
   have nlg:l ≠ lg:=ne_of_none e4 fg
   obtain ⟨g1,g2,g3⟩:=steps_ok (m:=m + 1) c0 (show 1 ≤ 1 + sp by omega)
   have g4:∀ z ∈ stepsL fi (1 + sp) (m + 1),z ≤ 1000:=fun z hz=>by
    unfold stepsL at hz
    obtain ⟨i,hi,rfl⟩:=List.mem_map.mp hz
    have:=List.mem_range.mp hi
    have q:(1 + sp) * (i:Int) ≤ 4 * 7:=Int.mul_le_mul (by omega) (by omega) (by omega) (by omega)
    omega
   generalize stepsL fi (1 + sp) (m + 1) = zs at *
   clear e5 K4 B4 S5 fg e4
   refine s_join (fun σ6 H6=>∃ zs':List Int,σ6 = [some (.ref p),some (.int lv),some (.ref l),some (.int fi),some (.int (1 + sp)),some (.ref lg)]∧KB p H H6∧Box H6 p (n + 12)∧H6 l = some (.lst (ks.map V.int))∧H6 lg = some (.lst (zs'.map V.int))∧zs'.Perm zs) (fun N z=>?_) ?_
   ·walk_at "r"
    refine ⟨p,2,n + 11,rfl,B5,by omega,by decide,by decide,fun r6 H6 _ _ B6 k6=>?_⟩
    have K6:KB p H H6:=fun b o z nb=>k6 b o (K5 b o z nb) nb
    have el6:=k6 _ _ el nl
    have eg6:=k6 _ _ e5' ng
    walk_at "r"
    refine ite2 (fun _=>?_) (fun _=>?_)
    ·walk_at "r"
     refine ⟨_,rfl,.inl ⟨rfl,_,SqL.of eg6⟩,lg,_,rfl,rfl,eg6,?_⟩
     refine z _ _ ⟨zs.reverse,rfl,kbF K6 fg',B6.to (fun o q=>by rw [upd_ne (Ne.symm ng)]; exact q),by rw [upd_ne nlg]; exact el6,by rw [upd_same,List.map_reverse],List.reverse_perm _⟩
    ·walk_at "r"
     exact z _ _ ⟨zs,rfl,K6,B6,el6,eg6,.refl _⟩
   ·rintro σ6 H6 ⟨zs',rfl,K6,B6,el6,eg6,pz⟩
    walk_at "r"
    refine ⟨(by show 2 ≤ sizeLine; decide),fun tt ft=>?_⟩
    have nt:=B6.ne ft
    refine k tt l lg ks zs' _ (kb_back K6 ft nt) fl fg' (by simp [Ne.symm nt,Ne.symm nl,Ne.symm ng]) (fun b o z nb=>Same.upd ft _ _ (K6 b o z nb)) ((B6.same (Same.upd ft)).mono (by omega)) ⟨upd_same,Same.upd ft _ _ el6,Same.upd ft _ _ eg6,ok2,?_,fun i hi=>by have a:=g2 i (pz.mem_iff.mp hi); have b:=g4 i (pz.mem_iff.mp hi); omega⟩
    unfold okG
    rw [if_neg h0]
    exact ⟨by rw [pz.length_eq,g1,l2],fun i hi=>g2 i (pz.mem_iff.mp hi),pz.nodup_iff.mpr g3⟩
end
theorem upd_upd {H:Hp} {a:Addr} {o o':HO}:upd (upd H a o) a o' = upd H a o':=by
 funext b
 unfold upd
 by_cases c:b = a
 ·rw [if_pos c,if_pos c]
 ·rw [if_neg c,if_neg c,if_neg c]
theorem merge_app:∀ {more acc:List (Key×V)},((acc ++ more).map (·.1)).Nodup→mergeK acc more = acc ++ more
 | [],acc,_=>by rw [List.append_nil]; rfl
 | kv :: r,acc,nd=>by
  have no:valV acc kv.1 = none:=by
   cases c:valV acc kv.1 with
   | none=>rfl
   | some v=>
    have m:=valV_in c
    rw [List.map_append,List.map_cons,List.nodup_append] at nd
    exact absurd rfl (nd.2.2 _ m _ (List.mem_cons_self ..))
  show mergeK (putK acc kv.1 kv.2) r = _
  rw [putK_new _ no,merge_app (by rw [List.append_assoc]; exact nd),List.append_assoc]
  rfl
theorem merge_nil {more:List (Key×V)} (nd:(more.map (·.1)).Nodup):mergeK [] more = more:=merge_app (acc:=[]) nd
def lN (n:ND) (k g:Addr):List V:=[.int n.lv,.ref k,.ref g,oV n.hi,oV n.rt,.int n.ver,oV n.ho,.bl n.gone,.bl n.wr]
def LN (h:Hp) (p:Addr) (n:ND):Prop:=∃ k g,h p = some (.lst (lN n k g))∧h k = some (.lst (n.ks.map V.int))∧h g = some (.lst (n.gs.map V.int))
structure IsLN (g:Hp) (dn:Addr) (nd:List Addr) (ns:List ND):Prop where
 d:g dn = some (.dK (pK nd V.ref))
 l:nd.length = ns.length
 e:∀ (j:Nat) p n,nd[j]? = some p→ns[j]? = some n→LN g p n
 u:nd.Nodup
theorem LN.same {h h':Hp} {p:Addr} {n:ND} (i:LN h p n) (S:Same h h'):LN h' p n:=let ⟨k,g,a,b,c⟩:=i; ⟨k,g,S _ _ a,S _ _ b,S _ _ c⟩
theorem IsLN.same {g g':Hp} {dn:Addr} {nd:List Addr} {ns:List ND} (t:IsLN g dn nd ns) (S:Same g g'):IsLN g' dn nd ns:=⟨S _ _ t.d,t.l,fun j p n a b=>(t.e j p n a b).same S,t.u⟩
theorem ints_ne {n:ND} {k g:Addr} {zs:List Int}:HO.lst (zs.map V.int) ≠ .lst (lN n k g):=fun z=>by
 have e:=congrArg (fun xs:List V=>xs[1]?) (HO.lst.inj z)
 have e':(zs.map V.int)[1]? = some (V.ref k):=e
 rw [List.getElem?_map] at e'
 cases c:zs[1]? with
 | none=>rw [c] at e'; cases e'
 | some y=>rw [c] at e'; cases e'
section
variable {g:Hp} {dn:Addr} {nd:List Addr} {ns:List ND}
theorem IsLN.set (t:IsLN g dn nd ns) {j:Nat} {p k gg:Addr} {n n':ND} (hp:nd[j]? = some p) (hn:ns[j]? = some n) (hk:g k = some (.lst (n'.ks.map V.int))) (hg:g gg = some (.lst (n'.gs.map V.int))) :
  IsLN (upd g p (.lst (lN n' k gg))) dn nd (ns.set j n'):=by
 obtain ⟨k0,g0,e0,e1,e2⟩:=t.e j p n hp hn
 have jl:j < ns.length:=(List.getElem?_eq_some_iff.mp hn).1
 have ni:∀ {b:Addr} {zs:List Int},g b = some (.lst (zs.map V.int))→b ≠ p:=fun e z=>by rw [z,e0] at e; exact ints_ne (Option.some.inj e).symm
 refine ⟨by rw [upd_ne (ne_of t.d e0 (fun z=>nomatch z))]; exact t.d,by rw [List.length_set]; exact t.l,fun i q m a b=>?_,t.u⟩
 rw [List.getElem?_set] at b
 by_cases c:j = i
 ·subst c
  rw [if_pos rfl,if_pos jl] at b
  cases Option.some.inj b
  rw [hp] at a
  cases Option.some.inj a
  exact ⟨k,gg,upd_same,by rw [upd_ne (ni hk)]; exact hk,by rw [upd_ne (ni hg)]; exact hg⟩
 ·rw [if_neg c] at b
  obtain ⟨k1,g1,f0,f1,f2⟩:=t.e i q m a b
  have nq:q ≠ p:=fun z=>by
   obtain ⟨h1,z1⟩:=List.getElem?_eq_some_iff.mp hp
   obtain ⟨h2,z2⟩:=List.getElem?_eq_some_iff.mp a
   exact c ((List.getElem_inj t.u).mp (z1.trans (z.symm.trans z2.symm)))
  exact ⟨k1,g1,by rw [upd_ne nq]; exact f0,by rw [upd_ne (ni f1)]; exact f1,by rw [upd_ne (ni f2)]; exact f2⟩
theorem LN.dict {p d:Addr} {n:ND} {q q':List (Key×V)} (i:LN g p n) (e:g d = some (.dK q)):LN (upd g d (.dK q')) p n:=by
 obtain ⟨k0,g0,e0,e1,e2⟩:=i
 exact ⟨k0,g0,by rw [upd_ne (ne_of e0 e (fun z=>nomatch z))]; exact e0,by rw [upd_ne (ne_of e1 e (fun z=>nomatch z))]; exact e1,by rw [upd_ne (ne_of e2 e (fun z=>nomatch z))]; exact e2⟩
theorem nd_set {α:Type}:∀ {l:List α} {j:Nat} {x:α},l.Nodup→x ∉ l→(l.set j x).Nodup
 | [],_,_,h,_=>h
 | a :: r,0,x,h,hx=>List.nodup_cons.mpr ⟨fun m=>hx (List.mem_cons_of_mem _ m),(List.nodup_cons.mp h).2⟩
 | a :: r,j + 1,x,h,hx=>by
  obtain ⟨h1,h2⟩:=List.nodup_cons.mp h
  refine List.nodup_cons.mpr ⟨fun m=>?_,nd_set h2 fun m=>hx (List.mem_cons_of_mem _ m)⟩
  rcases List.mem_or_eq_of_mem_set m with m | m
  ·exact h1 m
  ·exact hx (by rw [← m]; exact List.mem_cons_self ..)
theorem IsLN.put (t:IsLN g dn nd ns) {j:Nat} {l:Addr} {n':ND} (jl:j < ns.length) (nl:l ∉ nd) (i:LN g l n'):IsLN (upd g dn (.dK (pK (nd.set j l) V.ref))) dn (nd.set j l) (ns.set j n'):=by
 refine ⟨upd_same,by rw [List.length_set,List.length_set]; exact t.l,fun i' q m a b=>?_,nd_set t.u nl⟩
 rw [List.getElem?_set] at a b
 by_cases c:j = i'
 ·subst c
  rw [if_pos rfl,if_pos (by rw [t.l]; exact jl)] at a
  rw [if_pos rfl,if_pos jl] at b
  cases Option.some.inj a
  cases Option.some.inj b
  exact i.dict t.d
 ·rw [if_neg c] at a b
  exact (t.e i' q m a b).dict t.d
theorem IsLN.add (t:IsLN g dn nd ns) {l:Addr} {n':ND} (nl:l ∉ nd) (i:LN g l n'):IsLN (upd g dn (.dK (pK (nd ++ [l]) V.ref))) dn (nd ++ [l]) (ns ++ [n']):=by
 refine ⟨upd_same,by rw [List.length_append,List.length_append,t.l]; rfl,fun j q m a b=>?_,nd_snoc t.u nl⟩
 by_cases c0:j < nd.length
 ·rw [List.getElem?_append_left c0] at a
  rw [List.getElem?_append_left (by rw [← t.l]; exact c0)] at b
  exact (t.e j q m a b).dict t.d
 ·rw [List.getElem?_append_right (by omega)] at a
  rw [List.getElem?_append_right (by rw [← t.l]; omega),← t.l] at b
  cases c1:j - nd.length with
  | zero=>
   rw [c1] at a b
   cases Option.some.inj a
   cases Option.some.inj b
   exact i.dict t.d
  | succ q=>rw [c1] at a; cases a
theorem IsLN.out (t:IsLN g dn nd ns) {l:Addr} (f:g l = none):l ∉ nd:=fun h=>by
 obtain ⟨j,hj,e⟩:=List.getElem_of_mem h
 have hj':j < ns.length:=by rw [← t.l]; exact hj
 obtain ⟨_,_,a,_⟩:=t.e j l ns[j] (by rw [List.getElem?_eq_getElem hj,e]) (List.getElem?_eq_getElem hj')
 rw [f] at a
 cases a
end
structure LA where
 lu:Addr
 lk:Addr
 lf:Addr
 lc:Addr
 tk:List Addr
 tc:List Addr
structure IsLS (a:LA) (g:Hp) (st dn:Addr) (most top:Int) (R:RS) (us fs:List Int):Prop where
 s:g st = some (.dK (stK most top dn a.lu a.lk a.lf a.lc R.lap))
 u:g a.lu = some (.lst (us.map V.int))
 k:g a.lk = some (.lst (a.tk.map V.ref))
 f:g a.lf = some (.lst (fs.map V.int))
 c:g a.lc = some (.lst (a.tc.map V.ref))
 tk:Tups g a.tk R.ks
 tc:Tups g a.tc R.cs
 nd:[a.lu,a.lk,a.lf,a.lc].Nodup
 pu:us.Perm R.us
 su:us.Pairwise (· ≤ ·)
 pf:fs.Perm R.fs
 sf:fs.Pairwise (· ≤ ·)
theorem IsLS.same {a:LA} {g g':Hp} {st dn:Addr} {most top:Int} {R:RS} {us fs:List Int} (t:IsLS a g st dn most top R us fs) (S:Same g g'):IsLS a g' st dn most top R us fs:=
 ⟨S _ _ t.s,S _ _ t.u,S _ _ t.k,S _ _ t.f,S _ _ t.c,t.tk.keep (fun b xs z=>S _ _ z),t.tc.keep (fun b xs z=>S _ _ z),t.nd,t.pu,t.su,t.pf,t.sf⟩
section
variable {P:Program} {w:World} {K:PySem.W.Frag} {mg:Str→Option Value} {base:Heap} {c:Cs}
abbrev s__law_page:Stmt:=top 70
def spLPage (c:Cs):Sp:=fun vs H Q _=>∃ (lv:Int) (tt lk lg:Addr) (ks gs:List Int),vs = [.int lv,.ref tt]∧Cont H tt lk lg lv ks gs∧0 ≤ lv∧∀ x dx tk tg H',H x = none→H tk = none→H tg = none→Same H H'→H' x = some (.ins (c.pg.of lv) dx (PgF tk tg))→H' tk = some (.tup (ks.map V.int))→H' tg = some (.tup (gs.map V.int))→Q (.ref x) H'
theorem ok_lpage (F:Fx P w K mg base c):OkD P w K mg base "_law_page" s__law_page ["_law_level","_law_content_here"] 10 (spLPage c):=by
 obtain ⟨fI,fdI,XInner⟩:=F.IX
 obtain ⟨fL,fdL,XLeaf⟩:=F.LX
 have T:=F.r.T
 have GLeaf:=ok_leaf F XLeaf
 have GInner:=ok_inner F XInner
 refine F.r.d__law_page.ok (N:=["_law_level","_law_content_here"]) fun sc H Q hr h=>?_
 obtain ⟨lv,tt,lk,lg,ks,gs,rfl,ct,b0,k⟩:=h
 obtain ⟨c1,c2,c3,ok,og⟩:=ct
 refine' ⟨_,(pss_one (ps_ret (pe_ifExp (pt_cmpR op_gt (pv 0) pe_int (nomark _)) (pe_make XInner.mak GInner (hr.mono (by decide)) rfl XInner.m XInner.bi .nil pass0 (pa_c (pe_callTy call_list_of rfl T.n_list bt_list (pa_c (pe_ix ix_tup (pv 1) pe_int (fun _ _=>rfl)) pa_nil)) (pa_c (pe_callTy call_list_of rfl T.n_list bt_list (pa_c (pe_ix ix_tup (pv 1) pe_int (fun _ _=>rfl)) pa_nil)) pa_nil))) (pe_make XLeaf.mak GLeaf (hr.mono (by decide)) rfl XLeaf.m XLeaf.bi .nil pass0 (pa_c (pe_callTy call_list_of rfl T.n_list bt_list (pa_c (pe_ix ix_tup (pv 1) pe_int (fun _ _=>rfl)) pa_nil)) (pa_c (pe_callTy call_list_of rfl T.n_list bt_list (pa_c (pe_ix ix_tup (pv 1) pe_int (fun _ _=>rfl)) pa_nil)) pa_nil)))))),?_⟩
 unfold okG at og
 unfold Cp.of at k
 walk_at "r"
 by_cases h0:lv = 0
 ·rw [if_pos h0] at og k
  refine iteX (by omega) ?_
  walk_at "r"
  refine ⟨lk,_,rfl,.inl (SqL.of c2),fun l1 f1=>?_⟩
  have S1:=Same.upd (o:=.lst (ks.map V.int)) f1
  have e1:upd H l1 (.lst (ks.map V.int)) l1 = some (.lst (ks.map V.int)):=upd_same
  generalize upd H l1 _ = H1 at *
  walk_at "r"
  refine ⟨lg,_,rfl,.inl (SqL.of (S1 _ _ c3)),fun l2 f2=>?_⟩
  have S2:=Same.upd (o:=.lst (gs.map V.int)) f2
  have e2:upd H1 l2 (.lst (gs.map V.int)) l2 = some (.lst (gs.map V.int)):=upd_same
  have S:=S1.trans S2
  generalize upd H1 l2 _ = H2 at *
  walk_at "r"
  exact mk_page (S2 _ _ e1) e2 ok og fun x dx tk tg H3 g1 g2 g3 S3 q1 q2 q3=>k x dx tk tg H3 (S.free g1) (S.free g2) (S.free g3) (S.trans S3) q1 q2 q3
 ·rw [if_neg h0] at og k
  refine iteD (by omega) ?_
  walk_at "r"
  refine ⟨lk,_,rfl,.inl (SqL.of c2),fun l1 f1=>?_⟩
  have S1:=Same.upd (o:=.lst (ks.map V.int)) f1
  have e1:upd H l1 (.lst (ks.map V.int)) l1 = some (.lst (ks.map V.int)):=upd_same
  generalize upd H l1 _ = H1 at *
  walk_at "r"
  refine ⟨lg,_,rfl,.inl (SqL.of (S1 _ _ c3)),fun l2 f2=>?_⟩
  have S2:=Same.upd (o:=.lst (gs.map V.int)) f2
  have e2:upd H1 l2 (.lst (gs.map V.int)) l2 = some (.lst (gs.map V.int)):=upd_same
  have S:=S1.trans S2
  generalize upd H1 l2 _ = H2 at *
  walk_at "r"
  exact mk_page (S2 _ _ e1) e2 ok og fun x dx tk tg H3 g1 g2 g3 S3 q1 q2 q3=>k x dx tk tg H3 (S.free g1) (S.free g2) (S.free g3) (S.trans S3) q1 q2 q3
end
section
variable {a:LA} {g:Hp} {st dn:Addr} {most top:Int} {R:RS} {us fs:List Int}
theorem up_st {b:Addr} {o:HO} {q q':List (Key×V)} (e:g b = some o) (s:g st = some (.dK q)) (n:∀ q,o ≠ .dK q):upd g st (.dK q') b = some o:=by
 rw [upd_ne (fun z=>by rw [z,s] at e; cases e; exact n _ rfl)]; exact e
theorem tups_st {ts:List Addr} {ps:List (Int×Int)} {d:Addr} {o o':HO} (h:Tups g ts ps) (s:g d = some o) (n:∀ xs,o ≠ .tup xs):Tups (upd g d o') ts ps:=h.keep fun b xs z=>by
 rw [upd_ne (fun y=>by rw [y,s] at z; cases z; exact n _ rfl)]; exact z
theorem IsLS.nds (t:IsLS a g st dn most top R us fs):(a.lu ≠ a.lk∧a.lu ≠ a.lf∧a.lu ≠ a.lc)∧(a.lk ≠ a.lf∧a.lk ≠ a.lc)∧a.lf ≠ a.lc:=by
 have nd:=t.nd
 simp only [List.nodup_cons,List.mem_cons,List.not_mem_nil,or_false,not_or] at nd
 exact ⟨nd.1,nd.2.1,nd.2.2.1⟩
theorem IsLS.upS (t:IsLS a g st dn most top R us fs) {a':LA} {top':Int} {R':RS} {us' fs':List Int} (u:g a'.lu = some (.lst (us'.map V.int))) (k:g a'.lk = some (.lst (a'.tk.map V.ref))) (f:g a'.lf = some (.lst (fs'.map V.int))) (c:g a'.lc = some (.lst (a'.tc.map V.ref)))
  (tk:Tups g a'.tk R'.ks) (tc:Tups g a'.tc R'.cs) (nd:[a'.lu,a'.lk,a'.lf,a'.lc].Nodup) (pu:us'.Perm R'.us) (su:us'.Pairwise (· ≤ ·)) (pf:fs'.Perm R'.fs) (sf:fs'.Pairwise (· ≤ ·)) :
  IsLS a' (upd g st (.dK (stK most top' dn a'.lu a'.lk a'.lf a'.lc R'.lap))) st dn most top' R' us' fs':=
 ⟨upd_same,up_st u t.s (fun _ z=>nomatch z),up_st k t.s (fun _ z=>nomatch z),up_st f t.s (fun _ z=>nomatch z),up_st c t.s (fun _ z=>nomatch z),tups_st tk t.s (fun _ z=>nomatch z),tups_st tc t.s (fun _ z=>nomatch z),nd,pu,su,pf,sf⟩
theorem IsLS.fresh (t:IsLS a g st dn most top R us fs) {l:Addr} (f:g l = none):l ≠ a.lu∧l ≠ a.lk∧l ≠ a.lf∧l ≠ a.lc∧l ≠ st:=⟨(ne_of_none t.u f).symm,(ne_of_none t.k f).symm,(ne_of_none t.f f).symm,(ne_of_none t.c f).symm,(ne_of_none t.s f).symm⟩
theorem IsLS.newF (t:IsLS a g st dn most top R us fs) {l:Addr} {fs' F:List Int} (f:g l = none) (p:fs'.Perm F) (so:fs'.Pairwise (· ≤ ·)) :
  IsLS { a with lf:=l } (upd (upd g l (.lst (fs'.map V.int))) st (.dK (stK most top dn a.lu a.lk l a.lc R.lap))) st dn most top { R with fs:=F } us fs':=by
 have S:=Same.upd (o:=.lst (fs'.map V.int)) f
 have t1:=t.same S
 obtain ⟨f1,f2,f3,f4,f5⟩:=t.fresh f
 obtain ⟨⟨n1,n2,n3⟩,⟨n4,n5⟩,n6⟩:=t.nds
 exact t1.upS (a':={ a with lf:=l }) (R':={ R with fs:=F }) t1.u t1.k upd_same t1.c t1.tk t1.tc (by simp [n1,n3,n5,Ne.symm f1,Ne.symm f2,f4]) t.pu t.su p so
theorem IsLS.newU (t:IsLS a g st dn most top R us fs) {l:Addr} {us' U:List Int} (f:g l = none) (p:us'.Perm U) (so:us'.Pairwise (· ≤ ·)) :
  IsLS { a with lu:=l } (upd (upd g l (.lst (us'.map V.int))) st (.dK (stK most top dn l a.lk a.lf a.lc R.lap))) st dn most top { R with us:=U } us' fs:=by
 have S:=Same.upd (o:=.lst (us'.map V.int)) f
 have t1:=t.same S
 obtain ⟨f1,f2,f3,f4,f5⟩:=t.fresh f
 obtain ⟨⟨n1,n2,n3⟩,⟨n4,n5⟩,n6⟩:=t.nds
 exact t1.upS (a':={ a with lu:=l }) (R':={ R with us:=U }) upd_same t1.k t1.f t1.c t1.tk t1.tc (by simp [n4,n5,n6,f2,f3,f4]) p so t.pf t.sf
theorem IsLS.newK (t:IsLS a g st dn most top R us fs) {l:Addr} {tk:List Addr} {ks:List (Int×Int)} (e:g l = some (.lst (tk.map V.ref))) (n:l ∉ [a.lu,a.lf,a.lc]) (h:Tups g tk ks) :
  IsLS { a with lk:=l,tk:=tk } (upd g st (.dK (stK most top dn a.lu l a.lf a.lc R.lap))) st dn most top { R with ks:=ks } us fs:=by
 simp only [List.mem_cons,List.not_mem_nil,or_false,not_or] at n
 obtain ⟨⟨n1,n2,n3⟩,⟨n4,n5⟩,n6⟩:=t.nds
 exact t.upS (a':={ a with lk:=l,tk:=tk }) (R':={ R with ks:=ks }) t.u e t.f t.c h t.tc (by simp [n2,n3,n6,Ne.symm n.1,n.2.1,n.2.2]) t.pu t.su t.pf t.sf
theorem IsLS.newC (t:IsLS a g st dn most top R us fs) {l:Addr} {tc:List Addr} {cs:List (Int×Int)} (e:g l = some (.lst (tc.map V.ref))) (n:l ∉ [a.lu,a.lk,a.lf]) (h:Tups g tc cs) :
  IsLS { a with lc:=l,tc:=tc } (upd g st (.dK (stK most top dn a.lu a.lk a.lf l R.lap))) st dn most top { R with cs:=cs } us fs:=by
 simp only [List.mem_cons,List.not_mem_nil,or_false,not_or] at n
 obtain ⟨⟨n1,n2,n3⟩,⟨n4,n5⟩,n6⟩:=t.nds
 exact t.upS (a':={ a with lc:=l,tc:=tc }) (R':={ R with cs:=cs }) t.u t.k t.f e t.tk h (by simp [n1,n2,n4,Ne.symm n.1,Ne.symm n.2.1,Ne.symm n.2.2]) t.pu t.su t.pf t.sf
theorem IsLS.setLap (t:IsLS a g st dn most top R us fs) (l:Int):IsLS a (upd g st (.dK (stK most top dn a.lu a.lk a.lf a.lc l))) st dn most top { R with lap:=l } us fs:=t.upS (R':={ R with lap:=l }) t.u t.k t.f t.c t.tk t.tc t.nd t.pu t.su t.pf t.sf
theorem IsLS.setTop (t:IsLS a g st dn most top R us fs) (p:Int):IsLS a (upd g st (.dK (stK most p dn a.lu a.lk a.lf a.lc R.lap))) st dn most p R us fs:=t.upS t.u t.k t.f t.c t.tk t.tc t.nd t.pu t.su t.pf t.sf
theorem IsLS.setF (t:IsLS a g st dn most top R us fs) {fs' F:List Int} (p:fs'.Perm F) (so:fs'.Pairwise (· ≤ ·)):IsLS a (upd g a.lf (.lst (fs'.map V.int))) st dn most top { R with fs:=F } us fs':=by
 obtain ⟨⟨n1,n2,n3⟩,⟨n4,n5⟩,n6⟩:=t.nds
 exact ⟨by rw [upd_ne (ne_of t.s t.f (fun z=>nomatch z))]; exact t.s,by rw [upd_ne n2]; exact t.u,by rw [upd_ne n4]; exact t.k,upd_same,by rw [upd_ne (Ne.symm n6)]; exact t.c,tups_st t.tk t.f (fun _ z=>nomatch z),tups_st t.tc t.f (fun _ z=>nomatch z),t.nd,t.pu,t.su,p,so⟩
theorem IsLS.appK (t:IsLS a g st dn most top R us fs) {x:Addr} {q:Int×Int} (e:g x = some (.tup [.int q.1,.int q.2])):IsLS { a with tk:=a.tk ++ [x] } (upd g a.lk (.lst (a.tk.map V.ref ++ [.ref x]))) st dn most top { R with ks:=R.ks ++ [q] } us fs:=by
 obtain ⟨⟨n1,n2,n3⟩,⟨n4,n5⟩,n6⟩:=t.nds
 exact ⟨by rw [upd_ne (ne_of t.s t.k (fun z=>nomatch z))]; exact t.s,by rw [upd_ne n1]; exact t.u,by rw [upd_same,List.map_append]; rfl,by rw [upd_ne (Ne.symm n4)]; exact t.f,by rw [upd_ne (Ne.symm n5)]; exact t.c,tups_st (t.tk.snoc e) t.k (fun _ z=>nomatch z),tups_st t.tc t.k (fun _ z=>nomatch z),t.nd,t.pu,t.su,t.pf,t.sf⟩
theorem IsLS.appC (t:IsLS a g st dn most top R us fs) {x:Addr} {q:Int×Int} (e:g x = some (.tup [.int q.1,.int q.2])):IsLS { a with tc:=a.tc ++ [x] } (upd g a.lc (.lst (a.tc.map V.ref ++ [.ref x]))) st dn most top { R with cs:=R.cs ++ [q] } us fs:=by
 obtain ⟨⟨n1,n2,n3⟩,⟨n4,n5⟩,n6⟩:=t.nds
 exact ⟨by rw [upd_ne (ne_of t.s t.c (fun z=>nomatch z))]; exact t.s,by rw [upd_ne n3]; exact t.u,by rw [upd_ne n5]; exact t.k,by rw [upd_ne n6]; exact t.f,by rw [upd_same,List.map_append]; rfl,tups_st t.tk t.c (fun _ z=>nomatch z),tups_st (t.tc.snoc e) t.c (fun _ z=>nomatch z),t.nd,t.pu,t.su,t.pf,t.sf⟩
theorem IsLS.outL (t:IsLS a g st dn most top R us fs) {l:Addr} {xs ys:List V} (e:g l = some (.lst xs)) (n:l ∉ [a.lu,a.lk,a.lf,a.lc]):IsLS a (upd g l (.lst ys)) st dn most top R us fs:=by
 simp only [List.mem_cons,List.not_mem_nil,or_false,not_or] at n
 obtain ⟨n1,n2,n3,n4⟩:=n
 exact ⟨by rw [upd_ne (ne_of t.s e (fun z=>nomatch z))]; exact t.s,by rw [upd_ne (Ne.symm n1)]; exact t.u,by rw [upd_ne (Ne.symm n2)]; exact t.k,by rw [upd_ne (Ne.symm n3)]; exact t.f,by rw [upd_ne (Ne.symm n4)]; exact t.c,tups_st t.tk e (fun _ z=>nomatch z),tups_st t.tc e (fun _ z=>nomatch z),t.nd,t.pu,t.su,t.pf,t.sf⟩
end
theorem erase_at {α:Type} {q:α→Bool}:∀ {l:List α} {j:Nat},(∀ m x,l[m]? = some x→(q x = true ↔ m ≠ j))→j < l.length→l.eraseIdx j = l.filter q
 | x :: l,0,h,_=>by
  have hx:¬ q x = true:=fun z=>absurd rfl ((h 0 x rfl).mp z)
  rw [List.eraseIdx_cons_zero,List.filter_cons_of_neg hx]
  refine (List.filter_eq_self.mpr fun y hy=>?_).symm
  obtain ⟨m,hm,rfl⟩:=List.getElem_of_mem hy
  exact (h (m + 1) l[m] (List.getElem?_eq_getElem hm)).mpr (Nat.succ_ne_zero _)
 | x :: l,j + 1,h,hj=>by
  have hx:q x = true:=(h 0 x rfl).mpr (by omega)
  rw [List.eraseIdx_cons_succ,List.filter_cons_of_pos hx,erase_at (fun m y hy=>by rw [h (m + 1) y hy]; omega) (Nat.lt_of_succ_lt_succ hj)]
theorem erase_us {us:List Int} (nd:us.Nodup) {j:Nat} {p:Int} (h:us[j]? = some p):us.eraseIdx j = us.filter fun n=>decide (n ≠ p):=by
 obtain ⟨hj,e⟩:=List.getElem?_eq_some_iff.mp h
 refine erase_at (fun m x hm=>?_) hj
 obtain ⟨h1,e1⟩:=List.getElem?_eq_some_iff.mp hm
 rw [decide_eq_true_iff]
 constructor
 ·intro n z
  subst z
  exact n (e1.symm.trans e)
 ·intro n z
  exact n ((List.getElem_inj nd).mp (e1.trans (z.trans e.symm)))
theorem map_erase {α β:Type} (f:α→β):∀ (l:List α) (j:Nat),(l.map f).eraseIdx j = (l.eraseIdx j).map f
 | [],_=>rfl
 | _ :: _,0=>rfl
 | x :: l,j + 1=>by rw [List.map_cons,List.eraseIdx_cons_succ,List.eraseIdx_cons_succ,List.map_cons,map_erase f l j]
section
variable {P:Program} {w:World} {K:PySem.W.Frag} {mg:Str→Option Value} {base:Heap} {c:Cs}
abbrev s__law_given:Stmt:=top 61
def GivenL (fs:List Int) (N:Nat) (p:Int):Prop:=fs = []∧p = N∨p ∈ fs∧∀ n ∈ fs,p ≤ n
def spGivenL:Sp:=fun vs H Q _=>∃ (a:LA) (g:Hp) (st dn:Addr) (most top:Int) (R:RS) (us fs:List Int) (kvs:List (Key×V)),vs = [.ref st]∧IsLS a g st dn most top R us fs∧Same g H∧H dn = some (.dK kvs)∧R.Ok∧us.length < 60∧fs.length < 60 ∧
 ∀ p a' g' us' fs' H',GivenL fs kvs.length p→IsLS a' g' st dn most top (R.take p) us' fs'→Chg g g' H H'→Q (.int p) H'
theorem ok_given_l (F:Fx P w K mg base c):OkD P w K mg base "_law_given" s__law_given ["_law_state_here"] 1 spGivenL:=by
 have T:=F.r.T
 refine F.r.d__law_given.ok (N:=["_law_state_here","_law_place"]) @fun f cdv A outer s0 vs E sc H Q hr h=>?_
 obtain ⟨a,g,st,dn,most,tp,R,us,fs,kvs,rfl,t,s,hdn,ok,fu,ff,k⟩:=h
 have hu1:(cxOf CX0 P w K mg base ["_law_state_here","_law_place"] "_law_given" (defScope s__law_given) f cdv A outer s0 H E).nox.A.in1.units < cLine:=hu_of hr
 have big:=big1000
 have hs:=s _ _ t.s
 have hf:=s _ _ t.f
 have ndf:fs.Nodup:=t.pf.nodup_iff.mpr ok.fsn
 refine' ⟨_,(pss_cons (ps_v sc 1 (pe_callBK (call_minDf hr.hd) rfl T.n_min bt_min (pa_c (pe_gs hr (pv 0)) pa_nil) (pk_cons (pe_callB call_lenD rfl T.n_len bt_len (pa_c (pe_gs hr (pv 0)) pa_nil)) pk_nil)))
  (pss_cons (ps_if (pt_cmpR op_in_seq (pv 1) (pe_gs hr (pv 0)) (by with_unfolding_all rfl))
   (pss_one (ps_expr (pe_bm PySem.F.plainAttrs_list PySem.F.slot_list_remove PySem.F.type_list_remove (mt_remove hu1) (pe_gs hr (pv 0)) (pa_c (pv 1) pa_nil))))
   pss_nil)
  (pss_cons (ps_dput (hu_of hr) (pv 0) pe_str (pe_callB call_sortL rfl T.n_sorted bt_sorted (pa_c (pe_op op_cat (pe_gs hr (pv 0)) (pe_lst (pa_c (pv 1) pa_nil))) pa_nil)) rfl)
  (pss_one (ps_ret (pv 1)))))),?_⟩
 refine s_join (fun σ1 H1=>∃ p:Int,σ1 = [some (.ref st),some (.int p)]∧H = H1∧GivenL fs kvs.length p) (fun N z=>?_) ?_
 ·walk_at "r"
  refine ⟨dn,kvs,rfl,hdn,?_⟩
  walk_at "r"
  exact ⟨a.lf,fs,_,rfl,rfl,SqL.of hf,fun e=>z _ _ ⟨_,rfl,rfl,.inl ⟨e,rfl⟩⟩,fun m hm mn=>z _ _ ⟨m,rfl,rfl,.inr ⟨hm,mn⟩⟩⟩
 rintro σ1 H1 ⟨p,rfl,rfl,gp⟩
 refine s_join (fun σ2 H2=>∃ g2,σ2 = [some (.ref st),some (.int p)]∧IsLS a g2 st dn most tp { R with fs:=R.fs.filter fun n=>decide (n ≠ p) } us (fs.filter fun n=>decide (n ≠ p))∧Chg g g2 H H2) (fun N z=>?_) ?_
 ·walk_at "r"
  refine ⟨a.lf,_,rfl,.inl (SqL.of hf),rfl,all_flat,?_⟩
  rw [if_neg Bool.false_ne_true,inV_ints]
  walk_at "r"
  by_cases hp:p ∈ fs
  ·refine iteD hp ?_
   obtain ⟨j,hj,ej⟩:=List.getElem_of_mem hp
   have hj':fs[j]? = some p:=by rw [List.getElem?_eq_getElem hj,ej]
   walk_at "r"
   refine ⟨a.lf,_,.int p,j,rfl,rfl,hf,by rw [List.length_map]; exact hj,fun m v hm hv=>.inl ?_,?_⟩
   ·rw [List.getElem?_map] at hv
    obtain ⟨y,hy,rfl⟩:=Option.map_eq_some_iff.mp hv
    refine ⟨.inr ⟨rfl,rfl⟩,?_⟩
    obtain ⟨h1,e1⟩:=List.getElem?_eq_some_iff.mp hy
    by_cases c:m = j
    ·subst c
     rw [decide_eq_true rfl]
     have:y = p:=by rw [← e1,ej]
     subst this
     simp [eqP]
    ·rw [decide_eq_false c]
     have n:y ≠ p:=fun z=>c ((List.getElem_inj ndf).mp (e1.trans (z.trans ej.symm)))
     simp [eqP,eqV,n]
   ·rw [map_erase,erase_us ndf hj']
    exact z _ _ ⟨_,rfl,t.setF (t.pf.filter _) (t.sf.sublist List.filter_sublist),.mut s t.f⟩
  ·refine iteX hp ?_
   walk_at "r"
   have e1:(fs.filter fun n=>decide (n ≠ p)) = fs:=List.filter_eq_self.mpr fun y hy=>decide_eq_true fun z=>hp (z ▸ hy)
   have e2:(R.fs.filter fun n=>decide (n ≠ p)) = R.fs:=List.filter_eq_self.mpr fun y hy=>decide_eq_true fun z=>hp (t.pf.mem_iff.mpr (z ▸ hy))
   refine z _ _ ⟨g,rfl,?_,.refl s⟩
   rw [e1,e2]
   exact t
 rintro σ2 H2 ⟨g2,rfl,t2,c2⟩
 have s2:=c2.sm
 have hs2:=s2 _ _ t2.s
 walk_at "r"
 refine ⟨(by show 1 ≤ sizeLine; decide),fun l1 f1=>?_⟩
 have S1:=Same.upd (o:=.lst [.int p]) f1
 have e1:upd H2 l1 (.lst [.int p]) l1 = some (.lst [.int p]):=upd_same
 generalize upd H2 l1 _ = H3 at *
 refine q_cat (S1 _ _ (s2 _ _ t2.u)) e1 (by rw [List.length_map]; show _ + 1 ≤ _; omega) fun l2 f2=>?_
 have em:us.map V.int ++ [V.int p] = (us ++ [p]).map V.int:=by rw [List.map_append]; rfl
 rw [em]
 have S2:=Same.upd (o:=.lst ((us ++ [p]).map V.int)) f2
 have e2:upd H3 l2 (.lst ((us ++ [p]).map V.int)) l2 = some (.lst ((us ++ [p]).map V.int)):=upd_same
 generalize upd H3 l2 _ = H4 at *
 walk_at "r"
 refine ⟨l2,us ++ [p],rfl,SqL.of e2,by rw [List.length_append]; show _ + 1 < 64; omega,fun ns p1 p2 l3 f3=>?_⟩
 have S3:=Same.upd (o:=.lst (ns.map V.int)) f3
 have S13:=S1.trans S2
 have f3':=S13.free f3
 have e3:upd H4 l3 (.lst (ns.map V.int)) l3 = some (.lst (ns.map V.int)):=upd_same
 have S:=S13.trans S3
 generalize upd H4 l3 _ = H5 at *
 walk_at "r"
 refine k_dputS (S _ _ hs2) st_lt sp_used ?_
 walk_at "r"
 have t3:=t2.newU (s2.free f3') (p1.trans (t.pu.append_right [p])) p2
 have c3:=(c2.trans (.addS s2 S f3' e3)).trans (.mut (o:=.dK (stK most tp dn l3 a.lk a.lf a.lc R.lap)) (Chg.addS s2 S f3' e3).sm (un_f (s2.free f3') t2.s))
 exact k p _ _ _ _ _ gp t3 c3
abbrev s__law_let_free:Stmt:=top 62
def spLF:Sp:=fun vs H Q _=>∃ (a:LA) (g:Hp) (st dn:Addr) (most top:Int) (R:RS) (us fs:List Int),vs = [.ref st]∧IsLS a g st dn most top R us fs∧Same g H∧fs.length + R.ks.length < 60∧R.cs.length ≤ 500 ∧
 ∀ a' g' fs' H',IsLS a' g' st dn most top R.rel us fs'→Chg g g' H H'→Q .non H'
def leV (l:Int) (v:V):Bool:=match v with | .int z=>decide (z ≤ l) | _=>false
theorem none_past (cs:List (Int×Int)) (l:Int):decide (((cs.map fun c=>V.int c.2).filter (leV l)) = []) = pastL cs l:=by
 unfold pastL
 rw [Bool.eq_iff_iff,decide_eq_true_iff,List.all_eq_true,List.filter_eq_nil_iff]
 constructor
 ·intro h c hc
  have:=h (.int c.2) (List.mem_map.mpr ⟨c,hc,rfl⟩)
  refine decide_eq_true ?_
  have n:¬ c.2 ≤ l:=fun z=>this (decide_eq_true z)
  omega
 ·intro h v hv
  obtain ⟨c,hc,rfl⟩:=List.mem_map.mp hv
  have:=of_decide_eq_true (h c hc)
  intro z
  have z':c.2 ≤ l:=of_decide_eq_true z
  omega
theorem ok_lf (F:Fx P w K mg base c):OkD P w K mg base "_law_let_free" s__law_let_free ["_law_state_here"] 1 spLF:=by
 have T:=F.r.T
 refine F.r.d__law_let_free.ok (N:=["_law_state_here","_law_laps","_law_rest","_law_place","_law_lap"]) @fun f cdv A outer s0 vs E sc H Q hr h=>?_
 obtain ⟨a,g,st,dn,most,tp,R,us,fs,rfl,t,s,few,fewc,k⟩:=h
 have hu:=hr.units0
 have big:=big1000
 have hs:=s _ _ t.s
 refine' ⟨_,(pss_cons (ps_setComp22 (i:=1) (blk_mk2 [] []) rfl (pi_list (pe_gs hr (pv 0))) (fun _ _ _ _ _=>PTs.nil) (fun _ _ _ _ _=>(pv 1)) sc.nd rfl rfl)
  (pss_cons (ps_v sc 2 (pe_lst pa_nil))
  (pss_cons (ps_for PassesOwn.never rfl (pi_list (pe_gs hr (pv 0))) (pg_tup rfl (pgs_cons (pg_v sc 3) (pgs_cons (pg_name (i:=4) sc.nd rfl (Or.inr rfl)) pgs_nil)))
   (pss_one (ps_if (pt_cmpR (op_neL hu) (pe_comp (blk_mk ["_law_lap"] [4]) rfl (pi_list (pv 1)) (fun _ _ _ _ _=>(PTs.one (pt_cmpR op_le (pv 0) (pv 1) (nomark _)))) (fun _ _ _ _ _=>(pv 0))) (pe_lst pa_nil) (nomark _))
   (pss_one (ps_expr (pe_bm PySem.F.plainAttrs_list PySem.F.slot_list_append PySem.F.type_list_append mt_append (pv 2) (pa_c (pe_tup (pa_c (pv 3) (pa_c (pv 4) pa_nil))) pa_nil))))
   (pss_one (ps_dput (hu_of hr) (pv 0) pe_str (pe_callB call_sortL rfl T.n_sorted bt_sorted (pa_c (pe_op op_cat (pe_gs hr (pv 0)) (pe_lst (pa_c (pv 3) pa_nil))) pa_nil)) rfl)))))
  (pss_one (ps_dput (hu_of hr) (pv 0) pe_str (pv 2) rfl))))),?_⟩
 walk_at "r"
 refine comp_list (l:=a.lc) (ts:=a.tc) (ps:=R.cs) (fun R' z=>?_) (s _ _ t.c) (t.tc.keep fun b xs z=>s _ _ z) (by omega) (fun _=>true) (fun c=>.int c.2) (fun c _ H2 R' _ z=>z H2 (Same.refl _)) (fun c _ _ H2 R' _ z=>⟨_,rfl,z H2 (Same.refl _)⟩) fun ll H1 fll S1 ell=>?_
 ·walk_at "r"
  exact z
 rw [filt_all] at ell
 walk_at "r"
 refine ⟨(by show 0 ≤ sizeLine; decide),fun lr fr=>?_⟩
 have S2:=Same.upd (o:=.lst []) fr
 have er:upd H1 lr (.lst []) lr = some (.lst (([]:List Addr).map V.ref)):=upd_same
 have nll:ll ≠ lr:=ne_of_none ell fr
 have ell2:=S2 _ _ ell
 have c0:Chg g (upd g lr (.lst [])) H (upd H1 lr (.lst [])):=.addS s (S1.trans S2) (S1.free fr) er
 have frg:g lr = none:=s.free (S1.free fr)
 have fllg:g ll = none:=s.free fll
 have t0:IsLS a (upd g lr (.lst [])) st dn most tp R us fs:=t.same (Same.upd frg)
 obtain ⟨q1,q2,q3,q4,q5⟩:=t.fresh frg
 generalize upd H1 lr (.lst []) = H2 at *
 have g0l:upd g lr (.lst []) ll = none:=by rw [upd_ne nll]; exact fllg
 have g0r:upd g lr (.lst []) lr = some (.lst (([]:List Addr).map V.ref)):=upd_same
 generalize upd g lr (.lst []) = g0 at *
 have s2:=c0.sm
 have hs2:=s2 _ _ t0.s
 walk_at "r"
 refine k_il (s2 _ _ t0.k) ?_
 refine q_forL (xs:=a.tk.map V.ref) (fun i σ H3=>∃ (o3 o4:Option V) (lf:Addr) (fs':List Int) (tk':List Addr) (g3:Hp),σ = [some (.ref st),some (.ref ll),some (.ref lr),o3,o4]∧IsLS { a with lf:=lf } g3 st dn most tp { R with fs:=R.fs ++ ((R.ks.take i).filter fun k=>pastL R.cs k.2).map (·.1) } us fs'∧fs'.length ≤ fs.length + i∧Chg g0 g3 H2 H3∧g3 lr = some (.lst (tk'.map V.ref))∧Tups g3 tk' ((R.ks.take i).filter fun k=>!pastL R.cs k.2)∧lr ≠ lf∧H3 ll = some (.lst (R.cs.map fun c=>V.int c.2))) ⟨none,none,a.lf,fs,[],g0,rfl,?_,by omega,.refl s2,g0r,⟨rfl,fun j t x z _=>by cases z⟩,q3,ell2⟩ (fun i σ H3 _ ⟨_,_,_,_,_,g3,_,t3,_,c3,_⟩=>c3.sm _ _ t3.k) ?_ ?_
 ·rw [List.take_zero,List.filter_nil,List.map_nil,List.append_nil]
  exact t0
 ·rintro i v σ H3 hi ⟨o3,o4,lf,fs',tk',g3,rfl,t3,l3,c3,er3,tt3,nlf,el3⟩
  rw [List.getElem?_map] at hi
  obtain ⟨x,hx,rfl⟩:=Option.map_eq_some_iff.mp hi
  have hil:i < R.ks.length:=by rw [← t.tk.1]; exact (List.getElem?_eq_some_iff.mp hx).1
  have hk:=List.getElem?_eq_getElem hil
  generalize R.ks[i] = q at hk
  have s3:=c3.sm
  have ex3:=s3 _ _ (t3.tk.2 i x q hx hk)
  have hs3:=s3 _ _ t3.s
  have tka:R.ks.take (i + 1) = R.ks.take i ++ [q]:=by rw [List.take_add_one,hk]; rfl
  walk_at "r"
  have row:RowAt false H3 ll (R.cs.map fun c=>V.int c.2):=el3
  refine comp_f (J:=ItB K false ll) (H1:=H3) (R.cs.map fun c=>V.int c.2) (leV q.2) (fun y=>y) (fun R' z=>⟨_,rfl,ll,rfl,⟨_,SqL.of el3⟩,z⟩) (it_row row) ?_ ?_ (by rw [List.length_map]; omega) ?_
  ·intro y hy H4 R' S4 z
   obtain ⟨c,_,rfl⟩:=List.mem_map.mp hy
   exact ⟨_,rfl,_,rfl,_,_,rfl,rfl,_,rfl,z H4 (Same.refl _)⟩
  ·exact fun y hy _ H4 R' S4 z=>⟨_,rfl,z H4 (Same.refl _)⟩
  intro d H4 fd4 S4 ed
  rw [List.map_id'] at ed
  walk_at "r"
  refine ⟨(by show 0 ≤ sizeLine; decide),fun l0 f0=>?_⟩
  have S5:=Same.upd (o:=.lst []) f0
  have e0:upd H4 l0 (.lst []) l0 = some (.lst []):=upd_same
  have ed5:=S5 _ _ ed
  have S45:=S4.trans S5
  generalize upd H4 l0 (.lst []) = H5 at *
  refine ⟨d,l0,_,[],rfl,rfl,SqL.of ed5,SqL.of e0,okPs_nil,?_⟩
  rw [if_pos rfl,eqPs_nil,none_past]
  have c5:=c3.and S45
  have s5:=c5.sm
  have el5:=S45 _ _ el3
  have hs5:=s5 _ _ t3.s
  have g3l:g3 ll = none:=c3.out g0l ell2
  walk_at "r"
  cases hp:pastL R.cs q.2 with
  | true=>
   walk_at "r"
   refine ⟨(by show 1 ≤ sizeLine; decide),fun l6 f6=>?_⟩
   have S6:=Same.upd (o:=.lst [.int q.1]) f6
   have e6:upd H5 l6 (.lst [.int q.1]) l6 = some (.lst [.int q.1]):=upd_same
   generalize upd H5 l6 _ = H6 at *
   refine q_cat (S6 _ _ (s5 _ _ t3.f)) e6 (by rw [List.length_map]; show _ + 1 ≤ _; omega) fun l7 f7=>?_
   have em:fs'.map V.int ++ [V.int q.1] = (fs' ++ [q.1]).map V.int:=by rw [List.map_append]; rfl
   rw [em]
   have S7:=Same.upd (o:=.lst ((fs' ++ [q.1]).map V.int)) f7
   have e7:upd H6 l7 (.lst ((fs' ++ [q.1]).map V.int)) l7 = some (.lst ((fs' ++ [q.1]).map V.int)):=upd_same
   generalize upd H6 l7 _ = H7 at *
   walk_at "r"
   refine ⟨l7,fs' ++ [q.1],rfl,SqL.of e7,by rw [List.length_append]; show _ + 1 < 64; omega,fun ns p1 p2 l8 f8=>?_⟩
   have S8:=Same.upd (o:=.lst (ns.map V.int)) f8
   have S67:=S6.trans S7
   have f8':H5 l8 = none:=S67.free f8
   have e8:upd H7 l8 (.lst (ns.map V.int)) l8 = some (.lst (ns.map V.int)):=upd_same
   have S68:=S67.trans S8
   generalize upd H7 l8 _ = H8 at *
   walk_at "r"
   refine k_dputS (S68 _ _ hs5) st_lt sp_free ?_
   have f8g:=s5.free f8'
   have t4:=t3.newF f8g (F:=R.fs ++ (((R.ks.take (i + 1)).filter fun k=>pastL R.cs k.2).map (·.1))) (p1.trans ((t3.pf.append_right [q.1]).trans (by rw [tka,List.filter_append,List.map_append,List.append_assoc]; simp [hp]))) p2
   have cA:Chg g3 (upd g3 l8 (.lst (ns.map V.int))) H5 H8:=.addS s5 S68 f8' e8
   have c4:=(c5.trans cA).trans (.mut (o:=.dK (stK most tp dn a.lu a.lk l8 a.lc R.lap)) cA.sm (un_f f8g t3.s))
   have n8r:lr ≠ l8:=ne_of_none er3 f8g
   refine ⟨_,_,l8,ns,tk',_,rfl,t4,by have:=p1.length_eq; rw [List.length_append] at this; have:ns.length = fs'.length + 1:=this; omega,c4,?_,?_,n8r,?_⟩
   ·rw [upd_ne (ne_of er3 t3.s (fun z=>nomatch z))]; exact un_f f8g er3
   ·rw [tka,List.filter_append]
    have:([q].filter fun k=>!pastL R.cs k.2) = []:=by simp [hp]
    rw [this,List.append_nil]
    exact tups_st (tt3.keep fun b xs z=>un_f f8g z) (un_f f8g t3.s) (fun _ z=>nomatch z)
   ·rw [upd_ne (fun z=>by rw [z,hs5] at el5; cases el5)]
    exact S68 _ _ el5
  | false=>
   walk_at "r"
   refine ⟨(by show 2 ≤ sizeLine; decide),fun x6 f6=>?_⟩
   have S6:=Same.upd (o:=.tup [.int q.1,.int q.2]) f6
   have e6:upd H5 x6 (.tup [.int q.1,.int q.2]) x6 = some (.tup [.int q.1,.int q.2]):=upd_same
   generalize upd H5 x6 _ = H6 at *
   have lt:=tt3.1
   have fl2:((R.ks.take i).filter fun k=>!pastL R.cs k.2).length ≤ i:=Nat.le_trans (List.length_filter_le _ _) (by rw [List.length_take]; omega)
   walk_at "r"
   refine q_append (S6 _ _ (s5 _ _ er3)) (by rw [List.length_map]; omega) ?_
   have f6g:=s5.free f6
   have cA:Chg g3 (upd g3 x6 (.tup [.int q.1,.int q.2])) H5 H6:=.addS s5 S6 f6 e6
   have er4:upd g3 x6 (.tup [.int q.1,.int q.2]) lr = some (.lst (tk'.map V.ref)):=un_f f6g er3
   have c4:=(c5.trans cA).trans (.mut (o:=.lst (tk'.map V.ref ++ [.ref x6])) cA.sm er4)
   have t4:IsLS { a with lf:=lf } (upd (upd g3 x6 (.tup [.int q.1,.int q.2])) lr (.lst (tk'.map V.ref ++ [.ref x6]))) st dn most tp { R with fs:=R.fs ++ ((R.ks.take (i + 1)).filter fun k=>pastL R.cs k.2).map (·.1) } us fs':=by
    have e:((R.ks.take (i + 1)).filter fun k=>pastL R.cs k.2) = (R.ks.take i).filter fun k=>pastL R.cs k.2:=by rw [tka,List.filter_append]; simp [hp]
    rw [e]
    exact (t3.same (Same.upd f6g)).outL er4 (by simp [q1,q2,nlf,q4])
   refine ⟨_,_,lf,fs',tk' ++ [x6],_,rfl,t4,by omega,c4,by rw [upd_same,List.map_append]; rfl,?_,nlf,?_⟩
   ·rw [tka,List.filter_append]
    have:([q].filter fun k=>!pastL R.cs k.2) = [q]:=by simp [hp]
    rw [this]
    exact tups_st ((tt3.keep fun b xs z=>un_f f6g z).snoc upd_same) er4 (fun _ z=>nomatch z)
   ·rw [upd_ne nll]
    exact S6 _ _ el5
 ·rintro σ H3 ⟨o3,o4,lf,fs',tk',g3,rfl,t3,l3,c3,er3,tt3,nlf,el3⟩
  rw [List.length_map,t.tk.1,List.take_length] at t3 tt3
  have s3:=c3.sm
  have hs3:=s3 _ _ t3.s
  walk_at "r"
  refine k_dputS hs3 st_lt sp_kept ?_
  have t4:=t3.newK er3 (by simp [q1,nlf,q4]) tt3
  exact k _ _ _ _ t4 ((c0.trans c3).trans (.mut s3 t3.s))
end
theorem swaps_list {es:List Expr} {p:Pos} {t:Option Expr} {l:Nat} {env:Env}:swapsWith (.List es p) t l env = pure false:=by rfl
section
variable {P:Program} {w:World} {K:PySem.W.Frag} {mg:Str→Option Value} {base:Heap} {c:Cs}
abbrev s__law_state:Stmt:=top 60
def spState:Sp:=fun vs H Q _=>∃ most:Int,vs = [.int most]∧∀ gN gS st dn nd a H',Same H H'→IsLN gN dn nd (MS.init most).ns→IsLS a gS st dn most 0 (MS.init most).R [0] []→Dis gN gS→Same gN H'→Same gS H'→(∀ b,gN b = none∨H b = none)→(∀ b,gS b = none∨H b = none)→Q (.ref st) H'
theorem ok_state (F:Fx P w K mg base c):OkD P w K mg base "_law_state" s__law_state ["_law_most"] 1 spState:=by
 have T:=F.r.T
 refine F.r.d__law_state.ok (N:=["_law_most","_law_node"]) @fun f cdv A outer s0 vs E sc H Q hr h=>?_
 obtain ⟨most,rfl,k⟩:=h
 have hp0:∀ pos:Pos,PE (cxOf CX0 P w K mg base ["_law_most","_law_node"] "_law_state" (defScope s__law_state) f cdv A outer s0 H E).nox (.Name "_law_most" pos) (tVar 0):=fun pos=>pv 0
 have hp1:∀ pos:Pos,PE (cxOf CX0 P w K mg base ["_law_most","_law_node"] "_law_state" (defScope s__law_state) f cdv A outer s0 H E).nox (.Name "_law_node" pos) (tVar 1):=fun pos=>pv 1
 refine' ⟨_,?h,?r⟩
 case h=>
  refine' pss_cons ?a ?b0
  case a=>
   with_reducible refine' ps_set (i:=1) ?h0 ?h1 ?h2 ?e swaps_list ?h3
   case h0=>exact sc.nd
   case h1=>rfl
   case h2=>exact Or.inl rfl
   case h3=>exact Or.inr rfl
   case e=>with_reducible exact pe_lst (pa_int (pa_lst pa_nil (pa_lst pa_nil (pa_non (pa_non (pa_int (pa_non (pa_bl (pa_bl pa_nil)))))))))
  case b0=>
   with_reducible refine' pss_one (ps_ret ?b)
   case b=>
    with_reducible refine' pe_disp (pps_cons pe_str (hp0 _) (pps_cons pe_str pe_int (pps_cons pe_str (pe_disp (pps_cons pe_int (hp1 _) pps_nil) ?b1 ?b2 ?b3 ?b4) (pps_cons pe_str (pe_lst (pa_int pa_nil)) (pps_cons pe_str (pe_lst pa_nil) (pps_cons pe_str (pe_lst pa_nil) (pps_cons pe_str (pe_lst pa_nil) (pps_cons pe_str pe_int pps_nil)))))))) ?a1 ?a2 ?a3 ?a4
    case a1=>rfl
    case a2=>rfl
    case a3=>exact List.cons_ne_nil _ _
    case a4=>exact Nat.le_of_ble_eq_true rfl
    case b1=>rfl
    case b2=>rfl
    case b3=>exact List.cons_ne_nil _ _
    case b4=>exact Nat.le_of_ble_eq_true rfl
 case r=>
 walk_at "r"
 refine ⟨(by show 0 ≤ sizeLine; decide),fun k0 f0=>?_⟩
 have S0:=Same.upd (o:=.lst []) f0
 have e0:upd H k0 (.lst []) k0 = some (.lst (([]:List Int).map V.int)):=upd_same
 generalize upd H k0 _ = H0 at *
 walk_at "r"
 refine ⟨(by show 0 ≤ sizeLine; decide),fun g0 f1=>?_⟩
 have S1:=Same.upd (o:=.lst []) f1
 have e1:upd H0 g0 (.lst []) g0 = some (.lst (([]:List Int).map V.int)):=upd_same
 have T1:=S0.trans S1
 replace e0:=S1 _ _ e0
 have z1:=S0.free f1
 generalize upd H0 g0 _ = H1 at *
 walk_at "r"
 refine ⟨(by show 9 ≤ sizeLine; decide),fun l0 f2=>?_⟩
 have S2:=Same.upd (o:=.lst (lN ⟨0,[],[],none,none,0,none,false,false⟩ k0 g0)) f2
 have e2:upd H1 l0 (.lst (lN ⟨0,[],[],none,none,0,none,false,false⟩ k0 g0)) l0 = some (.lst (lN ⟨0,[],[],none,none,0,none,false,false⟩ k0 g0)):=upd_same
 have T2:=T1.trans S2
 replace e0:=S2 _ _ e0
 replace e1:=S2 _ _ e1
 have z2:=T1.free f2
 change tRet _ _ _ (upd H1 l0 (.lst (lN ⟨0,[],[],none,none,0,none,false,false⟩ k0 g0)))
 generalize upd H1 l0 _ = H2 at *
 clear S0 S1 S2 T1 f1 f2
 refine s_ret ?_
 intro st f3
 have S3:=Same.upd (o:=.dK []) f3
 have e3:upd H2 st (.dK []) st = some (.dK []):=upd_same
 have T3:=T2.trans S3
 replace e0:=S3 _ _ e0
 replace e1:=S3 _ _ e1
 replace e2:=S3 _ _ e2
 have z3:=T2.free f3
 generalize upd H2 st _ = H3 at *
 walk_at "r"
 intro dn f4
 have S4:=Same.upd (o:=.dK []) f4
 have e4:upd H3 dn (.dK []) dn = some (.dK []):=upd_same
 have T4:=T3.trans S4
 have n34:st ≠ dn:=ne_of_none e3 f4
 replace e0:=S4 _ _ e0
 replace e1:=S4 _ _ e1
 replace e2:=S4 _ _ e2
 replace e3:=S4 _ _ e3
 have z4:=T3.free f4
 generalize upd H3 dn _ = H4 at *
 clear T2 T3 S3 S4 f3 f4
 walk_at "r"
 refine ⟨e4,[(Sum.inl 0,.ref l0)],rfl,by show 1 ≤ 15; decide,?_⟩
 have B5:∀ b o,H4 b = some o→b ≠ dn→upd H4 dn (.dK (mergeK [] [((Sum.inl 0:Key),V.ref l0)])) b = some o:=fun b o z n=>by rw [upd_ne n]; exact z
 have e5:upd H4 dn (.dK (mergeK [] [((Sum.inl 0:Key),V.ref l0)])) dn = some (.dK (pK [l0] V.ref)):=upd_same
 have T5:Same H (upd H4 dn (.dK (mergeK [] [((Sum.inl 0:Key),V.ref l0)]))):=fun b o z=>B5 b o (T4 _ _ z) (ne_of_none z z4)
 have nd0:k0 ≠ dn:=ne_of e0 e4 (fun z=>nomatch z)
 have nd1:g0 ≠ dn:=ne_of e1 e4 (fun z=>nomatch z)
 have nd2:l0 ≠ dn:=ne_of e2 e4 (fun z=>nomatch z)
 replace e0:=B5 _ _ e0 nd0
 replace e1:=B5 _ _ e1 nd1
 replace e2:=B5 _ _ e2 nd2
 replace e3:=B5 _ _ e3 n34
 generalize upd H4 dn _ = H5 at *
 clear e4 B5 T4
 walk_at "r"
 refine ⟨(by show 1 ≤ sizeLine; decide),fun lu f6=>?_⟩
 have S6:=Same.upd (o:=.lst [.int 0]) f6
 have e6:upd H5 lu (.lst [.int 0]) lu = some (.lst (([0]:List Int).map V.int)):=upd_same
 have T6:=T5.trans S6
 have z6:=T5.free f6
 have m60:=ne_of_none e0 f6
 have m61:=ne_of_none e1 f6
 have m62:=ne_of_none e2 f6
 have m63:=ne_of_none e3 f6
 have m65:=ne_of_none e5 f6
 replace e0:=S6 _ _ e0
 replace e1:=S6 _ _ e1
 replace e2:=S6 _ _ e2
 replace e3:=S6 _ _ e3
 replace e5:=S6 _ _ e5
 generalize upd H5 lu _ = H6 at *
 walk_at "r"
 refine ⟨(by show 0 ≤ sizeLine; decide),fun lk f7=>?_⟩
 have S7:=Same.upd (o:=.lst []) f7
 have e7:upd H6 lk (.lst []) lk = some (.lst (([]:List Addr).map V.ref)):=upd_same
 have T7:=T6.trans S7
 have z7:=T6.free f7
 have m70:=ne_of_none e0 f7
 have m71:=ne_of_none e1 f7
 have m72:=ne_of_none e2 f7
 have m73:=ne_of_none e3 f7
 have m75:=ne_of_none e5 f7
 have m76:=ne_of_none e6 f7
 replace e0:=S7 _ _ e0
 replace e1:=S7 _ _ e1
 replace e2:=S7 _ _ e2
 replace e3:=S7 _ _ e3
 replace e5:=S7 _ _ e5
 replace e6:=S7 _ _ e6
 generalize upd H6 lk _ = H7 at *
 walk_at "r"
 refine ⟨(by show 0 ≤ sizeLine; decide),fun lf f8=>?_⟩
 have S8:=Same.upd (o:=.lst []) f8
 have e8:upd H7 lf (.lst []) lf = some (.lst (([]:List Int).map V.int)):=upd_same
 have T8:=T7.trans S8
 have z8:=T7.free f8
 have m80:=ne_of_none e0 f8
 have m81:=ne_of_none e1 f8
 have m82:=ne_of_none e2 f8
 have m83:=ne_of_none e3 f8
 have m85:=ne_of_none e5 f8
 have m86:=ne_of_none e6 f8
 have m87:=ne_of_none e7 f8
 replace e0:=S8 _ _ e0
 replace e1:=S8 _ _ e1
 replace e2:=S8 _ _ e2
 replace e3:=S8 _ _ e3
 replace e5:=S8 _ _ e5
 replace e6:=S8 _ _ e6
 replace e7:=S8 _ _ e7
 generalize upd H7 lf _ = H8 at *
 walk_at "r"
 refine ⟨(by show 0 ≤ sizeLine; decide),fun lc f9=>?_⟩
 have S9:=Same.upd (o:=.lst []) f9
 have e9:upd H8 lc (.lst []) lc = some (.lst (([]:List Addr).map V.ref)):=upd_same
 have T9:=T8.trans S9
 have z9:=T8.free f9
 have m90:=ne_of_none e0 f9
 have m91:=ne_of_none e1 f9
 have m92:=ne_of_none e2 f9
 have m93:=ne_of_none e3 f9
 have m95:=ne_of_none e5 f9
 have m96:=ne_of_none e6 f9
 have m97:=ne_of_none e7 f9
 have m98:=ne_of_none e8 f9
 replace e0:=S9 _ _ e0
 replace e1:=S9 _ _ e1
 replace e2:=S9 _ _ e2
 replace e3:=S9 _ _ e3
 replace e5:=S9 _ _ e5
 replace e6:=S9 _ _ e6
 replace e7:=S9 _ _ e7
 replace e8:=S9 _ _ e8
 generalize upd H8 lc _ = H9 at *
 walk_at "r"
 refine ⟨e3,stK most 0 dn lu lk lf lc 0,rfl,by show 8 ≤ 15; decide,?_⟩
 rw [merge_nil st_nd]
 have d30:k0 ≠ st:=ne_of e0 e3 (fun z=>nomatch z)
 have d31:g0 ≠ st:=ne_of e1 e3 (fun z=>nomatch z)
 have d32:l0 ≠ st:=ne_of e2 e3 (fun z=>nomatch z)
 have U:∀ {b:Addr} {o:HO},H9 b = some o→b ≠ st→upd H9 st (.dK (stK most 0 dn lu lk lf lc 0)) b = some o:=fun z n=>by rw [upd_ne n]; exact z
 refine k (rsL [dn,l0,k0,g0] (upd H9 st (.dK (stK most 0 dn lu lk lf lc 0)))) (rsL [st,lu,lk,lf,lc] (upd H9 st (.dK (stK most 0 dn lu lk lf lc 0)))) st dn [l0] ⟨lu,lk,lf,lc,[],[]⟩ _ (fun b o z=>U (T9 _ _ z) (ne_of_none z z3)) ⟨?_,rfl,?_,by simp⟩ ⟨?_,?_,?_,?_,?_,⟨rfl,fun j t x z=>(by cases z)⟩,⟨rfl,fun j t x z=>(by cases z)⟩,?_,.refl _,by simp,.refl _,.nil⟩ ?_ rsL_same rsL_same ?_ ?_
 ·rw [rsL_at (by simp)]; exact U e5 (Ne.symm n34)
 ·intro j p n a b
  cases j with
  | succ j=>cases a
  | zero=>
   cases Option.some.inj a
   cases Option.some.inj b
   refine ⟨k0,g0,?_,?_,?_⟩
   ·rw [rsL_at (by simp)]; exact U e2 d32
   ·rw [rsL_at (by simp)]; exact U e0 d30
   ·rw [rsL_at (by simp)]; exact U e1 d31
 ·rw [rsL_at (by simp)]; exact upd_same
 ·rw [rsL_at (by simp)]; exact U e6 (Ne.symm m63)
 ·rw [rsL_at (by simp)]; exact U e7 (Ne.symm m73)
 ·rw [rsL_at (by simp)]; exact U e8 (Ne.symm m83)
 ·rw [rsL_at (by simp)]; exact U e9 (Ne.symm m93)
 ·simp [m76,m86,m87,m96,m97,m98]
 ·intro b
  by_cases c:b ∈ [dn,l0,k0,g0]
  ·right
   cases q:rsL [st,lu,lk,lf,lc] (upd H9 st (.dK (stK most 0 dn lu lk lf lc 0))) b with
   | none=>rfl
   | some o=>
    have i2:=rsL_in (by rw [q]; exact fun z=>nomatch z)
    exfalso
    simp only [List.mem_cons,List.not_mem_nil,or_false] at c i2
    rcases c with rfl | rfl | rfl | rfl <;> rcases i2 with e | e | e | e | e
    ·exact n34 e.symm
    ·exact m65 e
    ·exact m75 e
    ·exact m85 e
    ·exact m95 e
    ·exact d32 e
    ·exact m62 e
    ·exact m72 e
    ·exact m82 e
    ·exact m92 e
    ·exact d30 e
    ·exact m60 e
    ·exact m70 e
    ·exact m80 e
    ·exact m90 e
    ·exact d31 e
    ·exact m61 e
    ·exact m71 e
    ·exact m81 e
    ·exact m91 e
  ·left
   unfold rsL
   rw [if_neg c]
 ·intro b
  by_cases c:b ∈ [dn,l0,k0,g0]
  ·right
   simp only [List.mem_cons,List.not_mem_nil,or_false] at c
   rcases c with rfl | rfl | rfl | rfl <;> assumption
  ·left
   unfold rsL
   rw [if_neg c]
 ·intro b
  by_cases c:b ∈ [st,lu,lk,lf,lc]
  ·right
   simp only [List.mem_cons,List.not_mem_nil,or_false] at c
   rcases c with rfl | rfl | rfl | rfl | rfl <;> assumption
  ·left
   unfold rsL
   rw [if_neg c]
end
theorem upd_comm {H:Hp} {a b:Addr} {o o':HO} (n:a ≠ b):upd (upd H a o) b o' = upd (upd H b o') a o:=by
 funext c
 unfold upd
 by_cases h1:c = b
 ·rw [if_pos h1,if_neg (fun z=>n (z.symm.trans h1)),if_pos h1]
 ·rw [if_neg h1]
  by_cases h2:c = a
  ·rw [if_pos h2,if_pos h2]
  ·rw [if_neg h2,if_neg h2,if_neg h1]
def FL:HO→Bool
 | .lst xs=>xs.all fun v=>match v with | .int _=>true | _=>false
 | _=>false
def KI (k k':Hp):Prop:=∀ b o,k b = some o→FL o = true→k' b = some o
theorem KI.refl {k:Hp}:KI k k:=fun _ _ e _=>e
theorem KI.trans {k k1 k2:Hp} (a:KI k k1) (b:KI k1 k2):KI k k2:=fun x o e f=>b x o (a x o e f) f
theorem KI.same {k k':Hp} (s:Same k k'):KI k k':=fun x o e _=>s x o e
theorem KI.mut {k:Hp} {a:Addr} {o x:HO} (e:k a = some x) (nf:FL x = false:=by rfl):KI k (upd k a o):=fun b y z f=>by
 rw [upd_ne (fun c=>by rw [c,e] at z; cases z; rw [nf] at f; cases f)]; exact z
def IsL (gN g:Hp) (st:Addr) (M:MS):Prop:=∃ (gS:Hp) (dn:Addr) (nd:List Addr) (a:LA) (us fs:List Int) (tp:Int),g = uH gN gS∧Dis gN gS∧IsLN gN dn nd M.ns∧IsLS a gS st dn M.most tp M.R us fs∧M.top = some tp
section
variable {P:Program} {w:World} {K:PySem.W.Frag} {mg:Str→Option Value} {base:Heap} {c:Cs}
abbrev s__law_freed:Stmt:=top 65
def spFreed:Sp:=fun vs H Q _=>∃ (gN g:Hp) (st:Addr) (M:MS) (j:Nat) (n:ND),vs = [.ref st,.int j]∧IsL gN g st M∧Same g H∧M.ns[j]? = some n∧∀ gN' g' H',IsL gN' g' st { M with ns:=M.ns.set j { n with ver:=n.ver + (if n.wr then 1 else 0),ho:=none,wr:=false } }→Chg g g' H H'→KI gN gN'→Q .non H'
theorem ok_freed (F:Fx P w K mg base c):OkD P w K mg base "_law_freed" s__law_freed ["_law_state_here","_law_place"] 1 spFreed:=by
 have T:=F.r.T
 refine F.r.d__law_freed.ok (N:=["_law_state_here","_law_place","_law_node"]) fun sc H Q hr h=>?_
 obtain ⟨gN,g,st,M,j,n,rfl,⟨gS,dn,nd,a,us,fs,tp,rfl,ds,tn,ts,htp⟩,s,hn,k⟩:=h
 have sN:Same gN H:=uH_sl.trans s
 have sS:Same gS H:=(uH_sr ds).trans s
 have hs:=sS _ _ ts.s
 obtain ⟨p,hp⟩:∃ p,nd[j]? = some p:=⟨_,List.getElem?_eq_getElem (by rw [tn.l]; exact (List.getElem?_eq_some_iff.mp hn).1)⟩
 obtain ⟨k0,g0,e0,e1,e2⟩:=tn.e j p n hp hn
 have h0:=sN _ _ e0
 refine' ⟨_,(pss_cons (ps_v sc 2 (pe_dget (hu_of hr) (pe_gs hr (pv 0)) (pv 1) (fun _ _=>rfl)))
  (pss_cons (ps_asg (pe_op op_add (pe_ix ix_list (pv 2) pe_int (fun _ _=>rfl)) (pe_callTy call_int1 rfl T.n_int bt_int (pa_c (pe_ix ix_list (pv 2) pe_int (fun _ _=>rfl)) pa_nil))) (pg_sub (pv 2) pe_int set_list))
  (pss_cons (ps_asg pe_non (pg_sub (pv 2) pe_int set_list))
  (pss_one (ps_asg pe_bl (pg_sub (pv 2) pe_int set_list)))))),?_⟩
 walk_at "r"
 refine k_dgetK (k:=Sum.inl (j:Int)) (sN _ _ tn.d) (pK_val hp) ?_
 walk_at "r"
 refine .inr ⟨_,rfl,?_⟩
 walk_at "r"
 rw [upd_upd,upd_upd]
 have c:=Chg.mut (o:=.lst (lN { n with ver:=n.ver + (if n.wr then 1 else 0),ho:=none,wr:=false } k0 g0)) sN e0
 exact k _ _ _ ⟨gS,dn,nd,a,us,fs,tp,rfl,c.dis ds sS,tn.set hp hn e1 e2,ts,htp⟩ (c.uL ds sS) (.mut e0)
abbrev s__law_left:Stmt:=top 67
def spLeft:Sp:=fun vs H Q _=>∃ (gN g:Hp) (st:Addr) (M:MS) (w0:Int),vs = [.ref st,.int w0]∧IsL gN g st M∧Same g H∧M.R.places.length < 60∧M.R.cs.length ≤ 500∧∀ gN' g' H',IsL gN' g' st { M with R:=(M.R.left w0).rel }→Chg g g' H H'→KI gN gN'→Q .non H'
def notV (H:Hp) (w0:Int) (v:V):Bool:=match v with | .ref t=>(match H t with | some (.tup (.int z :: _))=>!decide (V.int z = V.int w0) | _=>false) | _=>false
theorem filt_tups {H:Hp} {w0:Int}:∀ {ts:List Addr} {ps:List (Int×Int)},Tups H ts ps→∃ ts',(ts.map V.ref).filter (notV H w0) = ts'.map V.ref∧Tups H ts' (ps.filter fun c=>decide (c.1 ≠ w0))∧∀ t ∈ ts',t ∈ ts
 | [],[],_=>⟨[],rfl,⟨rfl,fun j t x z=>(by cases z)⟩,fun _ z=>nomatch z⟩
 | [],_ :: _,h=>absurd h.1 (by simp)
 | _ :: _,[],h=>absurd h.1 (by simp)
 | t :: ts,x :: ps,h=>by
  have h1:Tups H ts ps:=⟨by have:=h.1; simpa using this,fun j t' x' a b=>h.2 (j + 1) t' x' a b⟩
  obtain ⟨ts',e,tt,sub⟩:=filt_tups (w0:=w0) h1
  have et:=h.2 0 t x rfl rfl
  have en:notV H w0 (.ref t) = !decide (V.int x.1 = V.int w0):=by unfold notV; dsimp only; rw [et]
  by_cases c:x.1 = w0
  ·refine ⟨ts',?_,?_,fun u hu=>List.mem_cons_of_mem _ (sub u hu)⟩
   ·rw [List.map_cons,List.filter_cons_of_neg (by rw [en,c]; simp),e]
   ·rw [List.filter_cons_of_neg (by simpa using c)]; exact tt
  ·refine ⟨t :: ts',?_,?_,fun u hu=>?_⟩
   ·rw [List.map_cons,List.filter_cons_of_pos (by rw [en]; simpa using c),e]; rfl
   ·rw [List.filter_cons_of_pos (by simpa using c)]
    refine ⟨by rw [List.length_cons,List.length_cons,tt.1],fun j t' x' a b=>?_⟩
    cases j with
    | zero=>cases Option.some.inj a; cases Option.some.inj b; exact et
    | succ j=>exact tt.2 j t' x' a b
   ·rcases List.mem_cons.mp hu with rfl | hu
    ·exact List.mem_cons_self ..
    ·exact List.mem_cons_of_mem _ (sub u hu)
theorem ok_left (F:Fx P w K mg base c):OkD P w K mg base "_law_left" s__law_left ["_law_state_here","_law_number"] 2 spLeft:=by
 have T:=F.r.T
 have E_law_let_free:=ok_lf F
 refine F.r.d__law_left.ok (N:=["_law_state_here","_law_number"]) fun sc H Q hr h=>?_
 obtain ⟨gN,g,st,M,w0,rfl,⟨gS,dn,nd,a,us,fs,tp,rfl,ds,tn,ts,htp⟩,s,few,fewc,k⟩:=h
 have sN:Same gN H:=uH_sl.trans s
 have sS:Same gS H:=(uH_sr ds).trans s
 have hs:=sS _ _ ts.s
 have tcH:Tups H a.tc M.R.cs:=ts.tc.keep fun b xs z=>sS _ _ z
 have lf:=ts.pf.length_eq
 have lp:M.R.fs.length + M.R.ks.length ≤ M.R.places.length:=by unfold RS.places; simp only [List.length_append,List.length_map]; omega
 refine' ⟨_,(pss_cons (ps_dput (hu_of hr) (pv 0) pe_str (pe_comp (blk_mk ["_law_number"] [1]) rfl (pi_list (pe_gs hr (pv 0))) (fun _ _ _ _ _=>(PTs.one (pt_cmpR op_ne (pe_ix (ix_seqK (K:=K) rfl) (pv 0) pe_int (fun _ _=>rfl)) (pv 1) (nomark _)))) (fun _ _ _ _ _=>(pv 0))) rfl)
  (pss_one (ps_expr (pe_d E_law_let_free hr (pa_c (pv 0) pa_nil))))),?_⟩
 walk_at "r"
 have row:RowAt false H a.lc (a.tc.map V.ref):=sS _ _ ts.c
 refine comp_f (J:=ItB K false a.lc) (H1:=H) (a.tc.map V.ref) (notV H w0) (fun y=>y) (fun R' z=>?_) (it_row row) ?_ ?_ (by rw [List.length_map,ts.tc.1]; omega) ?_
 ·walk_at "r"
  exact z
 ·intro y hy H4 R' S4 z
  obtain ⟨x,hx,rfl⟩:=List.mem_map.mp hy
  obtain ⟨c,hc,ec⟩:=tcH.mem hx
  have en:notV H w0 (.ref x) = !decide (V.int c.1 = V.int w0):=by unfold notV; dsimp only; rw [ec]
  rw [en] at z
  have ec4:=S4 _ _ ec
  exact ⟨_,rfl,.inr (.inl (q_ixT ec4 rfl ⟨_,rfl,rfl,_,rfl,z H4 (Same.refl _)⟩))⟩
 ·exact fun y hy _ H4 R' S4 z=>⟨_,rfl,z H4 (Same.refl _)⟩
 intro l H1 fl S1 el
 rw [List.map_id'] at el
 obtain ⟨tc',etc,tt,sub⟩:=filt_tups (w0:=w0) tcH
 rw [etc] at el
 have flg:=sS.free fl
 have ttg:Tups gS tc' (M.R.cs.filter fun c=>decide (c.1 ≠ w0)):=by
  refine ⟨tt.1,fun j x q b1 b2=>?_⟩
  have e1:=tt.2 j x q b1 b2
  obtain ⟨i,hi,e⟩:=List.getElem_of_mem (sub x (List.mem_of_getElem? b1))
  have hi':i < M.R.cs.length:=by rw [← ts.tc.1]; exact hi
  have e2:=ts.tc.2 i x M.R.cs[i] (by rw [List.getElem?_eq_getElem hi,e]) (List.getElem?_eq_getElem hi')
  have e3:=sS _ _ e2
  rw [e1] at e3
  rw [e2,e3]
 have c1:Chg gS (upd gS l (.lst (tc'.map V.ref))) H H1:=.addS sS S1 fl el
 have t1:=ts.same (Same.upd (o:=.lst (tc'.map V.ref)) flg)
 obtain ⟨q1,q2,q3,q4,q5⟩:=ts.fresh flg
 have t2:=t1.newC (l:=l) (tc:=tc') (cs:=M.R.cs.filter fun c=>decide (c.1 ≠ w0)) upd_same (by simp [q1,q2,q3]) (ttg.keep fun b xs z=>un_f flg z)
 have c2:=c1.trans (.mut (o:=.dK (stK M.most tp dn a.lu a.lk a.lf l M.R.lap)) c1.sm t1.s)
 generalize upd (upd gS l _) st _ = g2 at *
 walk_at "r"
 refine k_dputS (S1 _ _ hs) st_lt sp_going ?_
 walk_at "r"
 refine ⟨_,g2,st,dn,_,_,_,us,fs,rfl,t2,c2.sm,by rw [lf]; show M.R.fs.length + M.R.ks.length < 60; omega,Nat.le_trans (List.length_filter_le _ _) fewc,fun a' g' fs' H' t3 c3=>?_⟩
 walk_at "r"
 have c:=c2.trans c3
 exact k _ _ _ ⟨g',dn,nd,a',us,fs',tp,rfl,(c.dis ds.symm sN).symm,tn,t3,htp⟩ (c.uR ds sN) .refl
abbrev s__law_gone:Stmt:=top 64
def spLGone:Sp:=fun vs H Q _=>∃ (gN g:Hp) (st:Addr) (M:MS) (j:Nat) (n:ND),vs = [.ref st,.int j]∧IsL gN g st M∧Same g H∧M.ns[j]? = some n∧M.R.Ok∧(j:Int) ∈ M.R.us∧M.R.places.length < 59∧M.R.cs.length ≤ 500∧∀ gN' g' H',IsL gN' g' st { M with ns:=M.ns.set j { n with ver:=n.ver + 1,ho:=none,gone:=true,wr:=false },R:=(M.R.gone j).rel }→Chg g g' H H'→KI gN gN'→Q .non H'
theorem ok_lgone (F:Fx P w K mg base c):OkD P w K mg base "_law_gone" s__law_gone ["_law_state_here","_law_place"] 2 spLGone:=by
 have T:=F.r.T
 have E_law_let_free:=ok_lf F
 refine F.r.d__law_gone.ok (N:=["_law_state_here","_law_place","_law_node"]) fun sc H Q hr h=>?_
 obtain ⟨gN,g,st,M,j,n,rfl,⟨gS,dn,nd,a,us,fs,tp,rfl,ds,tn,ts,htp⟩,s,hn,ok,hu,few,fewc,k⟩:=h
 have big:=big1000
 have sN:Same gN H:=uH_sl.trans s
 have sS:Same gS H:=(uH_sr ds).trans s
 have hs:=sS _ _ ts.s
 have lf:=ts.pf.length_eq
 have lu:=ts.pu.length_eq
 have lp:M.R.us.length + M.R.ks.length + M.R.fs.length = M.R.places.length:=by unfold RS.places; simp only [List.length_append,List.length_map]
 obtain ⟨p,hp⟩:∃ p,nd[j]? = some p:=⟨_,List.getElem?_eq_getElem (by rw [tn.l]; exact (List.getElem?_eq_some_iff.mp hn).1)⟩
 obtain ⟨k0,g0,e0,e1,e2⟩:=tn.e j p n hp hn
 have h0:=sN _ _ e0
 refine' ⟨_,(pss_cons (ps_v sc 2 (pe_dget (hu_of hr) (pe_gs hr (pv 0)) (pv 1) (fun _ _=>rfl)))
  (pss_cons (ps_asg (pe_op op_add (pe_ix ix_list (pv 2) pe_int (fun _ _=>rfl)) pe_int) (pg_sub (pv 2) pe_int set_list))
  (pss_cons (ps_asg pe_non (pg_sub (pv 2) pe_int set_list))
  (pss_cons (ps_asg pe_bl (pg_sub (pv 2) pe_int set_list))
  (pss_cons (ps_asg pe_bl (pg_sub (pv 2) pe_int set_list))
  (pss_cons (ps_dput (hu_of hr) (pv 0) pe_str (pe_comp (blk_mk ["_law_place"] [1]) rfl (pi_list (pe_gs hr (pv 0))) (fun _ _ _ _ _=>(PTs.one (pt_cmpR op_ne (pv 0) (pv 1) (nomark _)))) (fun _ _ _ _ _=>(pv 0))) rfl)
  (pss_cons (ps_expr (pe_bm PySem.F.plainAttrs_list PySem.F.slot_list_append PySem.F.type_list_append mt_append (pe_gs hr (pv 0)) (pa_c (pe_tup (pa_c (pv 1) (pa_c (pe_gs hr (pv 0)) pa_nil))) pa_nil)))
  (pss_cons (ps_dput (hu_of hr) (pv 0) pe_str (pe_op op_add (pe_gs hr (pv 0)) pe_int) rfl)
  (pss_one (ps_expr (pe_d E_law_let_free hr (pa_c (pv 0) pa_nil)))))))))))),?_⟩
 have nps:st ≠ p:=ne_of hs h0 (fun z=>nomatch z)
 walk_at "r"
 refine k_dgetK (k:=Sum.inl (j:Int)) (sN _ _ tn.d) (pK_val hp) ?_
 walk_at "r"
 have c:=Chg.mut (o:=.lst (lN { n with ver:=n.ver + 1,ho:=none,gone:=true,wr:=false } k0 g0)) sN e0
 have sS1:=c.keep ds sS
 have ds1:=c.dis ds sS
 have tn1:=tn.set (n':={ n with ver:=n.ver + 1,ho:=none,gone:=true,wr:=false }) hp hn e1 e2
 have cu:=c.uL ds sS
 have ki:=KI.mut (o:=.lst (lN { n with ver:=n.ver + 1,ho:=none,gone:=true,wr:=false } k0 g0)) e0
 rw [upd_upd,upd_upd,upd_upd]
 change tComp _ _ _ _ _ (upd H p (.lst (lN { n with ver:=n.ver + 1,ho:=none,gone:=true,wr:=false } k0 g0))) _
 generalize upd H p _ = H1 at *
 generalize upd gN p _ = gN1 at *
 have hs1:=sS1 _ _ ts.s
 clear hs h0 sS ds c sN s
 have row:RowAt false H1 a.lu (us.map V.int):=sS1 _ _ ts.u
 refine comp_f (J:=ItB K false a.lu) (H1:=H1) (us.map V.int) (fun v=>!decide (v = V.int j)) (fun y=>y) (fun R' z=>?_) (it_row row) ?_ ?_ (by rw [List.length_map,lu]; omega) ?_
 ·walk_at "r"
  exact z
 ·intro y hy H4 R' S4 z
  obtain ⟨x,hx,rfl⟩:=List.mem_map.mp hy
  exact ⟨_,rfl,_,rfl,rfl,_,rfl,z H4 (Same.refl _)⟩
 ·exact fun y hy _ H4 R' S4 z=>⟨_,rfl,z H4 (Same.refl _)⟩
 intro l H2 fl S2 el
 have ef:((us.map V.int).filter fun v=>!decide (v = V.int j)).map (fun y=>y) = (us.filter fun n=>decide (n ≠ (j:Int))).map V.int:=by
  rw [List.map_id',List.filter_map]
  congr 1
  refine List.filter_congr fun x _=>?_
  show (!decide (V.int x = V.int j)) = _
  by_cases c:x = (j:Int)
  ·rw [decide_eq_true (congrArg V.int c),decide_eq_false (fun z=>z c)]; rfl
  ·rw [decide_eq_false (fun z=>c (V.int.inj z)),decide_eq_true c]; rfl
 rw [ef] at el
 have flg:=sS1.free fl
 have c1:Chg gS (upd gS l (.lst ((us.filter fun n=>decide (n ≠ (j:Int))).map V.int))) H1 H2:=.addS sS1 S2 fl el
 have t1:=ts.newU flg (ts.pu.filter fun n=>decide (n ≠ (j:Int))) (ts.su.sublist List.filter_sublist)
 have c2:=c1.trans (.mut (o:=.dK (stK M.most tp dn l a.lk a.lf a.lc M.R.lap)) c1.sm (un_f flg ts.s))
 generalize upd (upd gS l _) st _ = g2 at *
 walk_at "r"
 refine k_dputS (S2 _ _ hs1) st_lt sp_used ?_
 have hs2:=c2.sm _ _ t1.s
 have hk2:=c2.sm _ _ t1.k
 generalize upd H2 st _ = H3 at *
 clear hs1 c1 S2 fl el
 walk_at "r"
 refine ⟨(by show 2 ≤ sizeLine; decide),fun x fx=>?_⟩
 have S4:=Same.upd (o:=.tup [.int (j:Int),.int M.R.lap]) fx
 have ex:upd H3 x (.tup [.int (j:Int),.int M.R.lap]) x = some (.tup [.int (j:Int),.int M.R.lap]):=upd_same
 have fxg:=c2.sm.free fx
 have c3:=c2.trans (.addS c2.sm S4 fx ex)
 have t2:=(t1.same (Same.upd (o:=.tup [.int (j:Int),.int M.R.lap]) fxg)).appK (x:=x) (q:=((j:Int),M.R.lap)) upd_same
 have c4:=c3.trans (.mut (o:=.lst (a.tk.map V.ref ++ [.ref x])) c3.sm (un_f fxg t1.k))
 generalize upd (upd g2 x _) a.lk _ = g4 at *
 generalize upd H3 x _ = H4 at *
 walk_at "r"
 refine q_append (S4 _ _ hk2) (by rw [List.length_map,ts.tk.1]; omega) ?_
 have hs4:=c4.sm _ _ t2.s
 generalize upd H4 a.lk _ = H5 at *
 clear hs2 hk2
 walk_at "r"
 refine k_dputS hs4 st_lt sp_lap ?_
 have t3:=t2.setLap (M.R.lap + 1)
 have c5:=c4.trans (.mut (o:=.dK (stK M.most tp dn l a.lk a.lf a.lc (M.R.lap + 1))) c4.sm t2.s)
 generalize upd H5 st _ = H6 at *
 generalize upd g4 st _ = g5 at *
 walk_at "r"
 refine ⟨_,g5,st,dn,_,_,_,_,fs,rfl,t3,c5.sm,by rw [lf]; show M.R.fs.length + (M.R.ks ++ [((j:Int),M.R.lap)]).length < 60; rw [List.length_append]; show _ + (_ + 1) < 60; omega,fewc,fun a' g' fs' H' t4 c6=>?_⟩
 walk_at "r"
 have c7:=c5.trans c6
 have sN1:=cu.sm
 have sN2:Same gN1 H1:=uH_sl.trans cu.sm
 exact k _ _ _ ⟨g',dn,nd,a',_,fs',tp,rfl,(c7.dis ds1.symm sN2).symm,tn1,t4,htp⟩ (cu.trans (c7.uR ds1 sN2)) ki
abbrev s__law_written:Stmt:=top 66
def spWritten:Sp:=fun vs H Q _=>∃ (gN g:Hp) (st:Addr) (M:MS) (j:Nat) (n:ND) (tt lk lg et:Addr) (ks gs:List Int) (hi rt:Option Int),vs = [.ref st,.int j,.ref tt,.ref et]∧IsL gN g st M∧Same g H∧M.ns[j]? = some n∧Cont H tt lk lg n.lv ks gs∧H et = some (.tup [oV hi,oV rt])∧g lk = none∧g lg = none ∧
 ∀ gN' g' H',IsL gN' g' st { M with ns:=M.ns.set j { n with ks:=ks,gs:=gs,hi:=hi,rt:=rt,wr:=true } }→Chg g g' H H'→KI gN gN'→Q .non H'
theorem ok_written (F:Fx P w K mg base c):OkD P w K mg base "_law_written" s__law_written ["_law_state_here","_law_place","_law_content_here","_law_edge_here"] 1 spWritten:=by
 have T:=F.r.T
 refine F.r.d__law_written.ok (N:=["_law_state_here","_law_place","_law_content_here","_law_edge_here","_law_node"]) fun sc H Q hr h=>?_
 obtain ⟨gN,g,st,M,j,n,tt,lk,lg,et,ks,gs,hi,rt,rfl,⟨gS,dn,nd,a,us,fs,tp,rfl,ds,tn,ts,htp⟩,s,hn,ct,he,nk,ng,k⟩:=h
 have sN:Same gN H:=uH_sl.trans s
 have sS:Same gS H:=(uH_sr ds).trans s
 have hs:=sS _ _ ts.s
 obtain ⟨p,hp⟩:∃ p,nd[j]? = some p:=⟨_,List.getElem?_eq_getElem (by rw [tn.l]; exact (List.getElem?_eq_some_iff.mp hn).1)⟩
 obtain ⟨k0,g0,e0,e1,e2⟩:=tn.e j p n hp hn
 have h0:=sN _ _ e0
 obtain ⟨c1,c2,c3,ok,og⟩:=ct
 have q1:tt ≠ p:=ne_of c1 h0 (fun z=>nomatch z)
 have q2:lk ≠ p:=fun z=>by rw [← z,(uH_none.mp nk).1] at e0; cases e0
 have q3:lg ≠ p:=fun z=>by rw [← z,(uH_none.mp ng).1] at e0; cases e0
 have q4:et ≠ p:=ne_of he h0 (fun z=>nomatch z)
 refine' ⟨_,(pss_cons (ps_v sc 4 (pe_dget (hu_of hr) (pe_gs hr (pv 0)) (pv 1) (fun _ _=>rfl)))
  (pss_cons (ps_asg (pe_callTy call_list_of rfl T.n_list bt_list (pa_c (pe_ix ix_tup (pv 2) pe_int (fun _ _=>rfl)) pa_nil)) (pg_sub (pv 4) pe_int set_list))
  (pss_cons (ps_asg (pe_callTy call_list_of rfl T.n_list bt_list (pa_c (pe_ix ix_tup (pv 2) pe_int (fun _ _=>rfl)) pa_nil)) (pg_sub (pv 4) pe_int set_list))
  (pss_cons (ps_asg (pe_ix ix_tup (pv 3) pe_int (fun _ _=>rfl)) (pg_sub (pv 4) pe_int set_list))
  (pss_cons (ps_asg (pe_ix ix_tup (pv 3) pe_int (fun _ _=>rfl)) (pg_sub (pv 4) pe_int set_list))
  (pss_one (ps_asg pe_bl (pg_sub (pv 4) pe_int set_list)))))))),?_⟩
 walk_at "r"
 refine k_dgetK (k:=Sum.inl (j:Int)) (sN _ _ tn.d) (pK_val hp) ?_
 walk_at "r"
 refine ⟨lk,_,rfl,.inl (SqL.of c2),fun l1 f1=>?_⟩
 have n1:p ≠ l1:=ne_of_none h0 f1
 have h1:=un_f (o:=.lst (ks.map V.int)) f1 h0
 walk_at "r"
 have up:∀ {b:Addr} {o x:HO},H b = some o→b ≠ p→upd (upd H l1 (.lst (ks.map V.int))) p x b = some o:=fun z n=>by rw [upd_ne n]; exact un_f f1 z
 have d1:=up (x:=.lst ((lN n k0 g0).set (Int.toNat 1) (.ref l1))) c1 q1
 refine q_ixT d1 rfl ?_
 walk_at "r"
 refine ⟨lg,_,rfl,.inl (SqL.of (up c3 q3)),fun l2 f2=>?_⟩
 have n2:p ≠ l2:=ne_of_none upd_same f2
 have f2':=f2
 rw [upd_ne (Ne.symm n2)] at f2'
 have n21:l1 ≠ l2:=ne_of_none upd_same f2'
 rw [upd_ne (Ne.symm n21)] at f2'
 have d3:∀ {x:HO},upd (upd (upd (upd H l1 (.lst (ks.map V.int))) p (.lst ((lN n k0 g0).set (Int.toNat 1) (.ref l1)))) l2 (.lst (gs.map V.int))) p x et = some (.tup [oV hi,oV rt]):=fun {x}=>by rw [upd_ne q4]; exact un_f f2 (up he q4)
 walk_at "r"
 refine q_ixT d3 rfl ?_
 walk_at "r"
 refine q_ixT (by rw [upd_upd]; exact d3) rfl ?_
 walk_at "r"
 rw [upd_upd,upd_upd,upd_upd,upd_comm n2,upd_upd]
 have f1g:=sN.free f1
 have f2g:=sN.free f2'
 have a1:Chg gN (upd gN l1 (.lst (ks.map V.int))) H (upd H l1 (.lst (ks.map V.int))):=.add sN f1
 have a2:=a1.trans (.add (l:=l2) (o:=.lst (gs.map V.int)) a1.sm (by rw [upd_ne (Ne.symm n21)]; exact f2'))
 have S2:Same gN (upd (upd gN l1 (.lst (ks.map V.int))) l2 (.lst (gs.map V.int))):=(Same.upd f1g).trans (Same.upd (by rw [upd_ne (Ne.symm n21)]; exact f2g))
 have tn1:=(tn.same S2).set (n':={ n with ks:=ks,gs:=gs,hi:=hi,rt:=rt,wr:=true }) (k:=l1) (gg:=l2) hp hn (by rw [upd_ne n21,upd_same]) upd_same
 have a3:=a2.trans (.mut (o:=.lst (lN { n with ks:=ks,gs:=gs,hi:=hi,rt:=rt,wr:=true } l1 l2)) a2.sm (S2 _ _ e0))
 exact k _ _ _ ⟨gS,dn,nd,a,us,fs,tp,rfl,a3.dis ds sS,tn1,ts,htp⟩ (a3.uL ds sS) ((KI.same S2).trans (.mut (S2 _ _ e0)))
abbrev s__law_made:Stmt:=top 63
def spLMade:Sp:=fun vs H Q _=>∃ (gN g:Hp) (st:Addr) (M:MS) (lv:Int) (tt lk lg et:Addr) (ks gs:List Int) (hi rt:Option Int),vs = [.ref st,.int lv,.ref tt,.ref et]∧IsL gN g st M∧Same g H∧M.R.Ok∧M.R.places.length = M.ns.length∧M.ns.length < 55∧Cont H tt lk lg lv ks gs∧H et = some (.tup [oV hi,oV rt])∧(∀ b ∈ [tt,lk,lg,et],g b = none) ∧
 ∀ j gN' g' H',Given M j→IsL gN' g' st (M.made j lv ks gs hi rt)→Chg g g' H H'→KI gN gN'→Q (.int j) H'
theorem ok_lmade (F:Fx P w K mg base c):OkD P w K mg base "_law_made" s__law_made ["_law_state_here","_law_level","_law_content_here","_law_edge_here"] 2 spLMade:=by
 have T:=F.r.T
 have E_law_given:=ok_given_l F
 refine F.r.d__law_made.ok (N:=["_law_state_here","_law_level","_law_content_here","_law_edge_here","_law_place","_law_version","_law_keys_here","_law_goods"]) fun sc H Q hr h=>?_
 obtain ⟨gN,g,st,M,lv,tt,lk,lg,et,ks,gs,hi,rt,rfl,⟨gS,dn,nd,a,us,fs,tp,rfl,ds,tn,ts,htp⟩,s,ok,ln,few,ct,he,no,k⟩:=h
 have big:=big1000
 have sN:Same gN H:=uH_sl.trans s
 have sS:Same gS H:=(uH_sr ds).trans s
 have hs:=sS _ _ ts.s
 have lf:=ts.pf.length_eq
 have lu:=ts.pu.length_eq
 have lp:M.R.us.length + M.R.ks.length + M.R.fs.length = M.R.places.length:=by unfold RS.places; simp only [List.length_append,List.length_map]
 obtain ⟨t1,t2,t3,okk,og⟩:=ct
 refine' ⟨_,(pss_cons (ps_v sc 4 (pe_d E_law_given hr (pa_c (pv 0) pa_nil)))
  (pss_cons (ps_v sc 5 pe_int)
  (pss_cons (ps_if (pt_cmpR (op_inD (hu_of hr)) (pv 4) (pe_gs hr (pv 0)) (by with_unfolding_all rfl))
   (pss_one (ps_v sc 5 (pe_ix ix_list (pe_dget (hu_of hr) (pe_gs hr (pv 0)) (pv 4) (fun _ _=>rfl)) pe_int (fun _ _=>rfl))))
   pss_nil)
  (pss_cons (ps_asg (pv 2) (pg_tup rfl (pgs_cons (pg_v sc 6) (pgs_cons (pg_v sc 7) pgs_nil))))
  (pss_cons (ps_dput (hu_of hr) (pe_gs hr (pv 0)) (pv 4) (pe_lst (pa_c (pv 1) (pa_c (pe_callTy call_list_of rfl T.n_list bt_list (pa_c (pv 6) pa_nil)) (pa_c (pe_callTy call_list_of rfl T.n_list bt_list (pa_c (pv 7) pa_nil)) (pa_c (pe_ix ix_tup (pv 3) pe_int (fun _ _=>rfl)) (pa_c (pe_ix ix_tup (pv 3) pe_int (fun _ _=>rfl)) (pa_c (pv 5) (pa_c pe_non (pa_c pe_bl (pa_c pe_bl pa_nil)))))))))) rfl)
  (pss_one (ps_ret (pv 4)))))))),?_⟩
 walk_at "r"
 refine ⟨a,gS,st,dn,M.most,tp,M.R,us,fs,_,rfl,ts,sS,sN _ _ tn.d,ok,by omega,by omega,fun p a' gS' us' fs' H1 gp ts1 c1=>?_⟩
 rw [pK_len,tn.l] at gp
 obtain ⟨j,rfl,gj,jle⟩:∃ j:Nat,p = j∧Given M j∧j ≤ M.ns.length:=by
  rcases gp with ⟨e1,e2⟩ | ⟨e1,e2⟩
  ·have e3:M.R.fs = []:=by rw [e1] at lf; exact List.length_eq_zero_iff.mp lf.symm
   exact ⟨M.ns.length,e2,.inl ⟨e3,rfl⟩,Nat.le_refl _⟩
  ·have m:=ts.pf.mem_iff.mp e1
   have rg:=ok.rg p (by unfold RS.places; exact List.mem_append_right _ m)
   exact ⟨p.toNat,by omega,.inr ⟨by rw [show ((p.toNat:Nat):Int) = p by omega]; exact m,fun n hn=>by rw [show ((p.toNat:Nat):Int) = p by omega]; exact e2 n (ts.pf.mem_iff.mpr hn)⟩,by omega⟩
 have sN1:=c1.keep ds.symm sN
 have ds1:=(c1.dis ds.symm sN).symm
 have sS1:=c1.sm
 have cu:=c1.uR ds sN
 have keep:∀ {b:Addr} {o:HO},b ∈ [tt,lk,lg,et]→H b = some o→H1 b = some o:=fun m e=>c1.fr _ _ e (uH_none.mp (no _ m)).2
 replace t1:=keep (by simp) t1
 replace t2:=keep (by simp) t2
 replace t3:=keep (by simp) t3
 replace he:=keep (by simp) he
 have hs1:=sS1 _ _ ts1.s
 have hd1:=sN1 _ _ tn.d
 clear hs keep c1 ts
 refine s_seq (s_set (r_c ?_))
 refine s_join (fun σ2 H2=>σ2 = [some (.ref st),some (.int lv),some (.ref tt),some (.ref et),some (.int j),some (.int ((M.ns[j]?.map (·.ver)).getD 0)),none,none]∧H1 = H2) (fun N z=>?_) ?_
 ·walk_at "r"
  refine ⟨dn,_,rfl,DGet.k (k:=Sum.inl (j:Int)) hd1,?_⟩
  walk_at "r"
  by_cases jl:j < M.ns.length
  ·have hn:=List.getElem?_eq_getElem jl
   obtain ⟨q,hq⟩:∃ q,nd[j]? = some q:=⟨_,List.getElem?_eq_getElem (by rw [tn.l]; exact jl)⟩
   obtain ⟨k0,g0,e0,e1,e2⟩:=tn.e j q _ hq hn
   have h0:=sN1 _ _ e0
   rw [pK_val hq]
   refine iteT ?_
   walk_at "r"
   refine k_dgetK (k:=Sum.inl (j:Int)) hd1 (pK_val hq) ?_
   walk_at "r"
   refine z _ _ ⟨?_,rfl⟩
   rw [hn]
   rfl
  ·rw [pK_no (by rw [tn.l]; omega)]
   refine iteF ?_
   walk_at "r"
   refine z _ _ ⟨?_,rfl⟩
   rw [List.getElem?_eq_none (by omega)]
   rfl
 rintro σ2 H2 ⟨rfl,rfl⟩
 walk_at "r"
 refine ⟨lk,_,rfl,.inl (SqL.of t2),fun l1 f1=>?_⟩
 have S1:=Same.upd (o:=.lst (ks.map V.int)) f1
 have e1:upd H1 l1 (.lst (ks.map V.int)) l1 = some (.lst (ks.map V.int)):=upd_same
 have a1:Chg gN (upd gN l1 (.lst (ks.map V.int))) H1 (upd H1 l1 (.lst (ks.map V.int))):=.add sN1 f1
 have f1g:=sN1.free f1
 generalize upd H1 l1 _ = H2 at *
 walk_at "r"
 refine ⟨lg,_,rfl,.inl (SqL.of (S1 _ _ t3)),fun l2 f2=>?_⟩
 have S2:=Same.upd (o:=.lst (gs.map V.int)) f2
 have n12:l1 ≠ l2:=ne_of_none e1 f2
 have a2:=a1.trans (.add (l:=l2) (o:=.lst (gs.map V.int)) a1.sm f2)
 have f2g:=a1.sm.free f2
 have S12:=S1.trans S2
 generalize upd H2 l2 _ = H3 at *
 have he3:=S12 _ _ he
 walk_at "r"
 refine ⟨(by show 9 ≤ sizeLine; decide),fun l3 f3=>?_⟩
 have S3:=Same.upd (o:=.lst (lN ⟨lv,ks,gs,hi,rt,(M.ns[j]?.map (·.ver)).getD 0,none,false,false⟩ l1 l2)) f3
 have a3:=a2.trans (.add (l:=l3) (o:=.lst (lN ⟨lv,ks,gs,hi,rt,(M.ns[j]?.map (·.ver)).getD 0,none,false,false⟩ l1 l2)) a2.sm f3)
 have f3g:=a2.sm.free f3
 have S13:=S12.trans S3
 have G:Same gN (upd (upd (upd gN l1 (.lst (ks.map V.int))) l2 (.lst (gs.map V.int))) l3 (.lst (lN ⟨lv,ks,gs,hi,rt,(M.ns[j]?.map (·.ver)).getD 0,none,false,false⟩ l1 l2))):=((Same.upd f1g).trans (Same.upd f2g)).trans (Same.upd f3g)
 have isn:LN (upd (upd (upd gN l1 (.lst (ks.map V.int))) l2 (.lst (gs.map V.int))) l3 (.lst (lN ⟨lv,ks,gs,hi,rt,(M.ns[j]?.map (·.ver)).getD 0,none,false,false⟩ l1 l2))) l3 ⟨lv,ks,gs,hi,rt,(M.ns[j]?.map (·.ver)).getD 0,none,false,false⟩:=⟨l1,l2,upd_same,un_f f3g (un_f f2g upd_same),un_f f3g upd_same⟩
 have out:l3 ∉ nd:=(tn.same ((Same.upd f1g).trans (Same.upd f2g))).out f3g
 have tn1:=tn.same G
 have ki:=KI.same G
 have hd4:=S13 _ _ hd1
 have hs4:=S13 _ _ hs1
 change tDGet _ _ _ (upd H3 l3 (.lst (lN ⟨lv,ks,gs,hi,rt,(M.ns[j]?.map (·.ver)).getD 0,none,false,false⟩ l1 l2))) _
 generalize upd H3 l3 _ = H4 at *
 generalize upd (upd (upd gN l1 _) l2 _) l3 _ = g3 at *
 walk_at "r"
 refine k_dputK (k:=Sum.inl (j:Int)) hd4 (by rw [pK_len,tn.l]; omega) ?_
 walk_at "r"
 have c4:=a3.trans (.mut (o:=.dK (putK (pK nd V.ref) (Sum.inl (j:Int)) (.ref l3))) a3.sm tn1.d)
 by_cases jl:j < M.ns.length
 ·have e:=pK_set (f:=V.ref) (x:=l3) (xs:=nd) (j:=j) (by rw [tn.l]; exact jl)
  have eM:M.made j lv ks gs hi rt = { M with R:=M.R.take j,ns:=M.ns.set j ⟨lv,ks,gs,hi,rt,(M.ns[j]?.map (·.ver)).getD 0,none,false,false⟩ }:=by unfold MS.made; rw [if_pos jl]
  refine k j _ _ _ gj ⟨gS',dn,nd.set j l3,a',us',fs',tp,rfl,c4.dis ds1 sS1,?_,?_,?_⟩ (cu.trans (c4.uL ds1 sS1)) (ki.trans (.mut tn1.d))
  ·rw [e,eM]; exact tn1.put jl out isn
  ·rw [eM]; exact ts1
  ·rw [eM]; exact htp
 ·have ej:j = M.ns.length:=by omega
  have e:putK (pK nd V.ref) (Sum.inl (j:Int)) (.ref l3) = pK (nd ++ [l3]) V.ref:=by rw [ej,← tn.l]; exact pK_new
  have eM:M.made j lv ks gs hi rt = { M with R:=M.R.take j,ns:=M.ns ++ [⟨lv,ks,gs,hi,rt,(M.ns[j]?.map (·.ver)).getD 0,none,false,false⟩] }:=by unfold MS.made; rw [if_neg jl,List.getElem?_eq_none (by omega)]; rfl
  refine k j _ _ _ gj ⟨gS',dn,nd ++ [l3],a',us',fs',tp,rfl,c4.dis ds1 sS1,?_,?_,?_⟩ (cu.trans (c4.uL ds1 sS1)) (ki.trans (.mut tn1.d))
  ·rw [e,eM]; exact tn1.add out isn
  ·rw [eM]; exact ts1
  ·rw [eM]; exact htp
end
structure Small (d:PyData):Prop where
 ok:Okd 150 d
 dp:d.depth ≤ 2
theorem log_le {z:Int} {k:Nat} (h:z.natAbs < 2 ^ k) (hk:0 < k):z.natAbs.log2 < k:=by
 by_cases e:z.natAbs = 0
 ·rw [e]; simpa using hk
 ·exact (Nat.log2_lt e).mpr h
theorem small_int {i:Int} (h:i.natAbs ≤ 10 ^ 30):Small (.int i):=by
 have b:i.natAbs < 2 ^ 101:=by omega
 have l:=log_le b (by decide)
 refine ⟨⟨?_,?_,by simp [PyData.depth],?_⟩,by simp [PyData.depth]⟩
 ·simp only [PyData.showable,decide_eq_true_eq]; omega
 ·simp only [PyData.leavesShort,decide_eq_true_eq]
  have e:=int_text_length_le10 (k:=31) (by decide) (a:=i) (by omega)
  show (Str.ofString (toString i)).length ≤ 40
  rw [ofString_length]
  omega
 ·simp only [PyData.weight]
  split <;> omega
theorem small_bool {b:Bool}:Small (.bool b):=⟨⟨rfl,rfl,by simp [PyData.depth],by simp [PyData.weight]⟩,by simp [PyData.depth]⟩
theorem small_none:Small .none:=⟨⟨rfl,rfl,by simp [PyData.depth],by simp [PyData.weight]⟩,by simp [PyData.depth]⟩
theorem smalls_row:∀ {ds:List PyData},(∀ d ∈ ds,Okd 2000 d∧d.depth ≤ 4)→PyData.showableAll ds = true∧PyData.leavesShortAll 40 ds = true∧PyData.depthAll ds ≤ 4∧PyData.weightAll ds ≤ 2001 * ds.length
 | [],_=>⟨rfl,rfl,by simp [PyData.depthAll],by simp [PyData.weightAll]⟩
 | d :: ds,h=>by
  obtain ⟨a,b,c,e⟩:=smalls_row fun y hy=>h y (List.mem_cons_of_mem _ hy)
  have s:=h d (List.mem_cons_self ..)
  refine ⟨?_,?_,?_,?_⟩
  ·simp only [PyData.showableAll,s.1.sh,a,Bool.and_self]
  ·simp only [PyData.leavesShortAll,s.1.lv,b,Bool.and_self]
  ·simp only [PyData.depthAll]
   have:=s.2
   omega
  ·simp only [PyData.weightAll,List.length_cons]
   have:=s.1.wt
   omega
theorem small_up {d:PyData} (s:Small d):Okd 2000 d∧d.depth ≤ 4:=⟨⟨s.ok.sh,s.ok.lv,s.ok.dp,by have:=s.ok.wt; omega⟩,by have:=s.dp; omega⟩
theorem ints_row:∀ {zs:List Int},(∀ z ∈ zs,z.natAbs ≤ 10 ^ 30)→PyData.showableAll (zs.map PyData.int) = true∧PyData.leavesShortAll 40 (zs.map PyData.int) = true∧PyData.depthAll (zs.map PyData.int) ≤ 2∧PyData.weightAll (zs.map PyData.int) ≤ 151 * zs.length
 | [],_=>⟨rfl,rfl,by simp [PyData.depthAll],by simp [PyData.weightAll]⟩
 | z :: zs,h=>by
  obtain ⟨a,b,c,e⟩:=ints_row fun y hy=>h y (List.mem_cons_of_mem _ hy)
  have s:=small_int (h z (List.mem_cons_self ..))
  refine ⟨?_,?_,?_,?_⟩
  ·simp only [List.map_cons,PyData.showableAll,s.ok.sh,a,Bool.and_self]
  ·simp only [List.map_cons,PyData.leavesShortAll,s.ok.lv,b,Bool.and_self]
  ·simp only [List.map_cons,PyData.depthAll]
   have:=s.dp
   omega
  ·simp only [List.map_cons,PyData.weightAll,List.length_cons]
   have:=s.ok.wt
   omega
theorem ok_ints {zs:List Int} (h:∀ z ∈ zs,z.natAbs ≤ 10 ^ 30) (l:zs.length ≤ 10):Okd 2000 (.list (zs.map PyData.int))∧(PyData.list (zs.map PyData.int)).depth ≤ 4:=by
 obtain ⟨a,b,c,e⟩:=ints_row h
 refine ⟨⟨by simpa only [PyData.showable] using a,by simpa only [PyData.leavesShort] using b,?_,?_⟩,?_⟩
 ·simp only [PyData.depth]; omega
 ·simp only [PyData.weight]
  have:151 * zs.length ≤ 1510:=by omega
  omega
 ·simp only [PyData.depth]; omega
def oD:Option Int→PyData | none=>.none | some i=>.int i
theorem small_o {o:Option Int} (h:∀ i,o = some i→i.natAbs ≤ 10 ^ 30):Small (oD o):=by
 cases o with
 | none=>exact small_none
 | some i=>exact small_int (h i rfl)
theorem dv_o {N:Addr→Prop} {H:Hp} {o:Option Int}:DV N H (oV o) (oD o):=by
 cases o with
 | none=>exact .non
 | some i=>exact .int i
theorem dvs_ints {N:Addr→Prop} {H:Hp}:∀ {zs:List Int},DVs N H (zs.map V.int) (zs.map PyData.int)
 | []=>.nil
 | z :: zs=>.cons (.int z) dvs_ints
structure NOk (b:Nat) (n:ND):Prop where
 lv:0 ≤ n.lv∧n.lv ≤ 60
 ks:KeysOk n.ks
 gl:n.gs.length ≤ 7
 gs:∀ z ∈ n.gs,z.natAbs ≤ 10 ^ 9
 hi:∀ z,n.hi = some z→z.natAbs ≤ 10 ^ 9
 rt:∀ z,n.rt = some z→z.natAbs ≤ 10 ^ 9
 ver:0 ≤ n.ver∧n.ver ≤ b
 ho:∀ z,n.ho = some z→0 ≤ z∧z ≤ 2
 wr:n.ho = none→n.wr = false
def dN (n:ND):PyData:=.tuple [.int n.lv,.list (n.ks.map PyData.int),.list (n.gs.map PyData.int),oD n.hi,oD n.rt,.int n.ver,oD n.ho,.bool n.gone]
theorem ok_dN {b:Nat} {n:ND} (o:NOk b n) (hb:b ≤ 1000):Okd 100000 (dN n):=by
 have big:∀ {z:Int} {m:Nat},z.natAbs ≤ m→m ≤ 10 ^ 10→z.natAbs ≤ 10 ^ 30:=fun {z m} a b=>by
  have:(10:Nat) ^ 10 ≤ 10 ^ 30:=Nat.pow_le_pow_right (by decide) (by decide)
  omega
 have r:∀ d ∈ [PyData.int n.lv,.list (n.ks.map PyData.int),.list (n.gs.map PyData.int),oD n.hi,oD n.rt,.int n.ver,oD n.ho,.bool n.gone],Okd 2000 d∧d.depth ≤ 4:=by
  intro d hd
  simp only [List.mem_cons,List.not_mem_nil,or_false] at hd
  rcases hd with rfl | rfl | rfl | rfl | rfl | rfl | rfl | rfl
  ·exact small_up (small_int (big (m:=60) (by have:=o.lv; omega) (by decide)))
  ·exact ok_ints (fun z hz=>big (m:=999999999) (by have:=o.ks.r z hz; unfold KeyR at this; omega) (by decide)) (by have:=o.ks.l; omega)
  ·exact ok_ints (fun z hz=>big (o.gs z hz) (by decide)) (by have:=o.gl; omega)
  ·exact small_up (small_o fun i e=>big (o.hi i e) (by decide))
  ·exact small_up (small_o fun i e=>big (o.rt i e) (by decide))
  ·exact small_up (small_int (big (m:=1000) (by have:=o.ver; omega) (by decide)))
  ·exact small_up (small_o fun i e=>big (m:=2) (by have:=o.ho i e; omega) (by decide))
  ·exact small_up small_bool
 obtain ⟨a,b',c,e⟩:=smalls_row r
 refine ⟨by simpa only [dN,PyData.showable] using a,by simpa only [dN,PyData.leavesShort] using b',?_,?_⟩
 ·simp only [dN,PyData.depth]; omega
 ·simp only [dN,PyData.weight]
  have:2001 * ([PyData.int n.lv,.list (n.ks.map PyData.int),.list (n.gs.map PyData.int),oD n.hi,oD n.rt,.int n.ver,oD n.ho,.bool n.gone]:List PyData).length = 16008:=rfl
  omega
theorem dv_dN {H:Hp} {n:ND} {t l1 l2:Addr} (e:H t = some (.tup [.int n.lv,.ref l1,.ref l2,oV n.hi,oV n.rt,.int n.ver,oV n.ho,.bl n.gone])) (e1:H l1 = some (.lst (n.ks.map V.int))) (e2:H l2 = some (.lst (n.gs.map V.int))):DV (fun _=>False) H (.ref t) (dN n):=
 .tup (fun z=>z) e (.cons (.int _) (.cons (.lst (fun z=>z) e1 dvs_ints) (.cons (.lst (fun z=>z) e2 dvs_ints) (.cons dv_o (.cons dv_o (.cons (.int _) (.cons dv_o (.cons (.bl _) .nil))))))))
structure MOk (b:Nat) (M:MS):Prop where
 r:M.R.Ok
 ln:M.R.places.length = M.ns.length
 few:M.ns.length ≤ b + 1
 cs:M.R.cs.length ≤ b
 tp:∃ p,M.top = some p∧p ∈ M.R.us
 nz:∀ (j:Nat) n,M.ns[j]? = some n→NOk b n
 gu:∀ (j:Nat) n,M.ns[j]? = some n→(j:Int) ∈ M.R.us→n.gone = false
 gk:∀ (j:Nat) n,M.ns[j]? = some n→(j:Int) ∈ M.R.ks.map (·.1)→n.gone = true
 mo:2 ≤ M.most∧M.most ≤ 5
theorem sort_eq:∀ {xs ys:List Int},xs.Perm ys→xs.Pairwise (· ≤ ·)→ys.Pairwise (· ≤ ·)→xs = ys:=fun p a b=>p.eq_of_pairwise (fun x y _ _ h1 h2=>Int.le_antisymm h1 h2) a b
theorem plain_ints {zs:List Int}:(zs.map V.int).all plainV = true:=by
 rw [List.all_eq_true]
 intro v hv
 obtain ⟨z,_,rfl⟩:=List.mem_map.mp hv
 rfl
theorem q_neI {K:PySem.W.Frag} {H:Hp} {Q:VK} {a b:Addr} {zs:List Int} (h1:H a = some (.lst (zs.map V.int))) (h2:H b = some (.lst (zs.map V.int))) (q:Q (.bl false) H):rEqL K true (.ref a) (.ref b) H Q:=⟨a,b,_,_,rfl,rfl,SqL.of h1,SqL.of h2,okPs_self plain_ints,by rw [if_pos rfl,eqPs_self]; exact q⟩
theorem tps_of {H:Hp} {ts:List Addr} {ps:List (Int×Int)} (h:Tups H ts ps):Tps H ts (ps.map fun q=>[.int q.1,.int q.2]):=⟨by rw [List.length_map]; exact h.1,fun j t xs a b=>by
 rw [List.getElem?_map] at b
 obtain ⟨q,hq,rfl⟩:=Option.map_eq_some_iff.mp b
 exact h.2 j t q a hq⟩
theorem q_neP {K:PySem.W.Frag} {H:Hp} {Q:VK} {a b:Addr} {ts us:List Addr} {ps:List (Int×Int)} (h1:H a = some (.lst (ts.map V.ref))) (h2:H b = some (.lst (us.map V.ref))) (t1:Tups H ts ps) (t2:Tups H us ps) (q:Q (.bl false) H):rNeLT K (.ref a) (.ref b) H Q:=
 ⟨a,b,ts,us,_,rfl,rfl,SqL.of h1,SqL.of h2,tps_of t1,tps_of t2,fun xs hx=>by obtain ⟨q,_,rfl⟩:=List.mem_map.mp hx; rfl,q⟩
theorem MOk.at {b:Nat} {M:MS} (o:MOk b M) {p:Int} (h:p ∈ M.R.us∨p ∈ M.R.ks.map (·.1)):∃ (j:Nat) (n:ND),p = (j:Int)∧M.ns[j]? = some n∧NOk b n∧n.gone = decide (p ∈ M.R.ks.map (·.1)):=by
 have hp:p ∈ M.R.places:=by
  unfold RS.places
  rcases h with h | h
  ·exact List.mem_append_left _ (List.mem_append_left _ h)
  ·exact List.mem_append_left _ (List.mem_append_right _ h)
 have r:=o.r.rg p hp
 obtain ⟨j,rfl⟩:∃ j:Nat,p = (j:Int):=⟨p.toNat,by omega⟩
 have jl:j < M.ns.length:=by rw [← o.ln]; omega
 have hn:=List.getElem?_eq_getElem jl
 refine ⟨j,_,rfl,hn,o.nz _ _ hn,?_⟩
 rcases h with h | h
 ·rw [o.gu _ _ hn h,decide_eq_false (fun z=>o.r.uk h z)]
 ·rw [o.gk _ _ hn h,decide_eq_true h]
section
variable {P:Program} {w:World} {K:PySem.W.Frag} {mg:Str→Option Value} {base:Heap} {c:Cs}
abbrev s__law_stands:Stmt:=top 68
def spStands (c:Cs):Sp:=fun vs H Q _=>∃ (a:TA) (h:Hp) (x:Addr) (gN g:Hp) (st:Addr) (M:MS) (b:Nat),vs = [.ref x,.ref st]∧IsT c a h x M∧Same h H∧IsL gN g st M∧Same g H∧MOk b M∧b ≤ 50∧∀ H',Same H H'→Q (.bl true) H'
theorem ok_stands (F:Fx P w K mg base c):OkD P w K mg base "_law_stands" s__law_stands ["_law_tree","_law_state_here"] 6 (spStands c):=by
 have T:=F.r.T
 have C_Tree:=F.cT
 have C_Rounds:=F.cR
 have KF:=F.KF
 have E_Tree_most:=ok_T_most F
 have E_Tree_top:=ok_T_top F
 have E_Tree_places:=ok_T_places F
 have E_Tree_rounds:=ok_T_rounds F
 have E_Tree_node:=ok_T_node F
 have E_Tree_page:=ok_T_page F
 have E_Rounds_lap:=ok_lap F
 have E_Rounds_used:=ok_used F
 have E_Rounds_free:=ok_free F
 have E_Rounds_kept:=ok_kept F
 have E_Rounds_going:=ok_going F
 obtain ⟨fK,fdK,MP_all_keys,GP_all_keys,BP_all_keys⟩:=bk F
 obtain ⟨fG,fdG,MP_goods,GP_goods,BP_goods⟩:=bg F
 have MLeaf:=KF.mL
 have MInner:=KF.mI
 refine F.r.d__law_stands.ok (N:=["_law_tree","_law_state_here","_law_rounds","_law_place","_law_node","_law_page_here"]) fun sc H Q hr h=>?_
 obtain ⟨a,h,x,gN,g,st,M,b,rfl,t,s,⟨gS,dn,nd,la,us,fs,tp,rfl,ds,tn,ts,htp⟩,sg0,ok,b50,k⟩:=h
 have hu:=hr.units0
 have big:=big1000
 have sN:Same gN H:=uH_sl.trans sg0
 have sS:Same gS H:=(uH_sr ds).trans sg0
 have hs:=sS _ _ ts.s
 have hx:=s _ _ t.x
 have lf:=ts.pf.length_eq
 have lu:=ts.pu.length_eq
 have lp:M.R.us.length + M.R.ks.length + M.R.fs.length = M.R.places.length:=by unfold RS.places; simp only [List.length_append,List.length_map]
 have few:=ok.few
 have ln:=ok.ln
 refine' ⟨_,(pss_cons (ps_if (PW.pt (pw_or (pt_cmpR op_ne (pe_m0 (pv 0) C_Tree E_Tree_most hr) (pe_gs hr (pv 1)) (nomark _)) (pw_or (pt_cmpR op_ne (pe_m0 (pv 0) C_Tree E_Tree_top hr) (pe_gs hr (pv 1)) (nomark _)) (pw_or1 (pt_cmpR (op_neL hu) (pe_m0 (pv 0) C_Tree E_Tree_places hr) (pe_gs hr (pv 1)) (nomark _))))))
   (pss_one (ps_ret pe_bl))
   pss_nil)
  (pss_cons (ps_v sc 2 (pe_m0 (pv 0) C_Tree E_Tree_rounds hr))
  (pss_cons (ps_if (PW.pt (pw_or (pt_cmpR op_ne (pe_m0 (pv 2) C_Rounds E_Rounds_lap hr) (pe_gs hr (pv 1)) (nomark _)) (pw_or (pt_cmpR (op_neL hu) (pe_m0 (pv 2) C_Rounds E_Rounds_used hr) (pe_gs hr (pv 1)) (nomark _)) (pw_or1 (pt_cmpR (op_neL hu) (pe_m0 (pv 2) C_Rounds E_Rounds_free hr) (pe_gs hr (pv 1)) (nomark _))))))
   (pss_one (ps_ret pe_bl))
   pss_nil)
  (pss_cons (ps_if (PW.pt (pw_or (pt_cmpR (op_neLT (hu_of hr)) (pe_m0 (pv 2) C_Rounds E_Rounds_kept hr) (pe_gs hr (pv 1)) (nomark _)) (pw_or1 (pt_cmpR (op_neLT (hu_of hr)) (pe_m0 (pv 2) C_Rounds E_Rounds_going hr) (pe_gs hr (pv 1)) (nomark _)))))
   (pss_one (ps_ret pe_bl))
   pss_nil)
  (pss_cons (ps_for PassesOwn.never rfl (pi_list (pe_op op_cat (pe_gs hr (pv 1)) (pe_comp2 (blk_mk2 [] []) rfl (pi_list (pe_gs hr (pv 1))) (fun _ _ _ _ _=>PTs.nil) (fun _ _ _ _ _=>(pv 0))))) (pg_v sc 3)
   (pss_cons (ps_v sc 4 (pe_dget (hu_of hr) (pe_gs hr (pv 1)) (pv 3) (fun _ _=>rfl)))
  (pss_cons (ps_if (pt_cmpR op_ne (pe_callB (call_reprD hr.gd hr.units) rfl T.n_repr bt_repr (pa_c (pe_m (pv 0) C_Tree E_Tree_node hr (pa_c (pv 3) pa_nil)) pa_nil)) (pe_callB (call_reprD hr.gd hr.units) rfl T.n_repr bt_repr (pa_c (pe_callTy call_tuple_of rfl T.n_tuple bt_tuple (pa_c (pe_slice sl_list (pv 4) po_none (po_some pe_int)) pa_nil)) pa_nil)) (nomark _))
   (pss_one (ps_ret pe_bl))
   pss_nil)
  (pss_cons (ps_v sc 5 (pe_m (pv 0) C_Tree E_Tree_page hr (pa_c (pv 3) pa_nil)))
  (pss_cons (ps_if (PW.pt (pw_or (pt_cmpR (op_neL hu) (pe_methP0 (pv 5) MP_all_keys GP_all_keys (hr.mono (by decide)) BP_all_keys .nil pass0) (pe_ix ix_list (pv 4) pe_int (fun _ _=>rfl)) (nomark _)) (pw_or1 (pt_cmpR (op_neL hu) (pe_methP0 (pv 5) MP_goods GP_goods (hr.mono (by decide)) BP_goods .nil pass0) (pe_ix ix_list (pv 4) pe_int (fun _ _=>rfl)) (nomark _)))))
   (pss_one (ps_ret pe_bl))
   pss_nil)
  (pss_one (ps_if (PW.pt (pw_or (pt_cmpR op_ne (pe_callB call_instO rfl T.n_isinstance bt_isinstance (pa_c (pv 5) (pa_c (pe_glob (v:=.ref c.pg.cI) rfl MInner rfl) pa_nil))) (pe_cmpR op_gt (pe_ix ix_list (pv 4) pe_int (fun _ _=>rfl)) pe_int (nomark _)) (nomark _)) (pw_or1 (pt_cmpR op_ne (pe_callB call_instO rfl T.n_isinstance bt_isinstance (pa_c (pv 5) (pa_c (pe_glob (v:=.ref c.pg.cL) rfl MLeaf rfl) pa_nil))) (pe_cmpR op_eq (pe_ix ix_list (pv 4) pe_int (fun _ _=>rfl)) pe_int (nomark _)) (nomark _)))))
   (pss_one (ps_ret pe_bl))
   pss_nil)))))))
  (pss_one (ps_ret pe_bl))))))),?_⟩
 walk_at "r"
 refine ⟨a,h,x,M,rfl,t,s,?_⟩
 walk_at "r"
 refine iteNS rfl ?_
 walk_at "r"
 refine ⟨a,h,x,M,rfl,t,s,tp,htp,?_⟩
 walk_at "r"
 refine iteNS rfl ?_
 walk_at "r"
 refine ⟨a,h,x,M,rfl,t,s,by omega,fun ns p1 p2 l fl=>?_⟩
 obtain rfl:=sort_eq (p1.trans ts.pu.symm) p2 ts.su
 have S1:=Same.upd (o:=.lst (ns.map V.int)) fl
 have e1:upd H l (.lst (ns.map V.int)) l = some (.lst (ns.map V.int)):=upd_same
 generalize upd H l _ = H1 at *
 walk_at "r"
 refine q_neI e1 (S1 _ _ (sS _ _ ts.u)) ?_
 walk_at "r"
 refine ⟨a,h,x,M,rfl,t,s.trans S1,fun y dy du dk df dc H2 fy fb S2 r=>?_⟩
 have S12:=S1.trans S2
 have hs2:=S12 _ _ hs
 have hy:=r.x
 walk_at "r"
 refine ⟨y,dy,du,dk,df,dc,M.R,rfl,r,?_⟩
 walk_at "r"
 refine iteNS rfl ?_
 walk_at "r"
 refine ⟨y,dy,du,dk,df,dc,M.R,rfl,r,(by show M.R.us.length < 64; omega),fun ns' p1' p2' l3 f3=>?_⟩
 obtain rfl:=sort_eq (p1'.trans ts.pu.symm) p2' ts.su
 have S3:=Same.upd (o:=.lst (ns'.map V.int)) f3
 have e3:upd H2 l3 (.lst (ns'.map V.int)) l3 = some (.lst (ns'.map V.int)):=upd_same
 have S13:=S12.trans S3
 have hs3:=S13 _ _ hs
 have hy3:=S3 _ _ hy
 generalize upd H2 l3 _ = H3 at *
 walk_at "r"
 refine q_neI e3 (S13 _ _ (sS _ _ ts.u)) ?_
 walk_at "r"
 refine ⟨y,dy,du,dk,df,dc,M.R,rfl,r.same S3,(by show M.R.fs.length < 64; omega),fun fs' q1 q2 l4 f4=>?_⟩
 obtain rfl:=sort_eq (q1.trans ts.pf.symm) q2 ts.sf
 have S4:=Same.upd (o:=.lst (fs'.map V.int)) f4
 have e4:upd H3 l4 (.lst (fs'.map V.int)) l4 = some (.lst (fs'.map V.int)):=upd_same
 have S14:=S13.trans S4
 have hs4:=S14 _ _ hs
 have hy4:=S4 _ _ hy3
 have r4:=(r.same S3).same S4
 generalize upd H3 l4 _ = H4 at *
 walk_at "r"
 refine q_neI e4 (S14 _ _ (sS _ _ ts.f)) ?_
 walk_at "r"
 refine ⟨y,dy,du,dk,df,dc,M.R,rfl,r4,fun l5 ts5 H5 f5 S5 e5 tt5=>?_⟩
 have S15:=S14.trans S5
 have hs5:=S15 _ _ hs
 have hy5:=S5 _ _ hy4
 walk_at "r"
 refine q_neP e5 (S15 _ _ (sS _ _ ts.k)) tt5 (ts.tk.keep fun b xs z=>S15 _ _ (sS _ _ z)) ?_
 walk_at "r"
 refine ⟨y,dy,du,dk,df,dc,M.R,rfl,r4.same S5,fun l6 ts6 H6 f6 S6 e6 tt6=>?_⟩
 have S16:=S15.trans S6
 have hs6:=S16 _ _ hs
 walk_at "r"
 refine q_neP e6 (S16 _ _ (sS _ _ ts.c)) tt6 (ts.tc.keep fun b xs z=>S16 _ _ (sS _ _ z)) ?_
 walk_at "r"
 clear e1 e3 e4 e5 e6 tt5 tt6 S13 S14 S15 S12 hy hy3 hy4 hy5 hs2 hs3 hs4 hs5
 refine comp_list (l:=la.lk) (ts:=la.tk) (ps:=M.R.ks) (fun R' z=>?_) (S16 _ _ (sS _ _ ts.k)) (ts.tk.keep fun b xs z=>S16 _ _ (sS _ _ z)) (by omega) (fun _=>true) (fun c=>.int c.1) (fun c _ H2 R' _ z=>z H2 (Same.refl _)) (fun c _ _ H2 R' _ z=>⟨_,rfl,z H2 (Same.refl _)⟩) fun ll H7 fll S7 ell=>?_
 ·walk_at "r"
  exact z
 rw [filt_all] at ell
 have S17:=S16.trans S7
 refine q_cat (S17 _ _ (sS _ _ ts.u)) ell (by rw [List.length_map,List.length_map]; omega) fun l8 f8=>?_
 have S8:=Same.upd (o:=.lst (ns'.map V.int ++ M.R.ks.map fun c=>V.int c.1)) f8
 have e8:upd H7 l8 (.lst (ns'.map V.int ++ M.R.ks.map fun c=>V.int c.1)) l8 = some (.lst (ns'.map V.int ++ M.R.ks.map fun c=>V.int c.1)):=upd_same
 have S18:=S17.trans S8
 generalize upd H7 l8 _ = H8 at *
 walk_at "r"
 refine q_forL (xs:=ns'.map V.int ++ M.R.ks.map fun c=>V.int c.1) (fun i σ H9=>∃ o3 o4 o5:Option V,σ = [some (.ref x),some (.ref st),some (.ref y),o3,o4,o5]∧Same H8 H9) ⟨none,none,none,rfl,Same.refl _⟩ ?_ ?_ ?_
 ·rintro i σ H9 _ ⟨_,_,_,_,S9⟩
  exact S9 _ _ e8
 ·rintro i v σ H9 hi ⟨o3,o4,o5,rfl,S9⟩
  obtain ⟨p,rfl,hp⟩:∃ p:Int,v = .int p∧(p ∈ M.R.us∨p ∈ M.R.ks.map (·.1)):=by
   rcases List.mem_append.mp (List.mem_of_getElem? hi) with h | h
   ·obtain ⟨p,hp,rfl⟩:=List.mem_map.mp h
    exact ⟨p,rfl,.inl (ts.pu.mem_iff.mp hp)⟩
   ·obtain ⟨q,hq,rfl⟩:=List.mem_map.mp h
    exact ⟨q.1,rfl,.inr (List.mem_map.mpr ⟨q,hq,rfl⟩)⟩
  obtain ⟨j,n,rfl,hn,on,hg⟩:=ok.at hp
  have S:=S18.trans S9
  have hs9:=S _ _ hs
  have hx9:=S _ _ hx
  obtain ⟨pj,hpj⟩:∃ p,nd[j]? = some p:=⟨_,List.getElem?_eq_getElem (by rw [tn.l]; exact (List.getElem?_eq_some_iff.mp hn).1)⟩
  obtain ⟨k0,g0,n0,n1,n2⟩:=tn.e j pj n hpj hn
  have h0:=S _ _ (sN _ _ n0)
  walk_at "r"
  refine k_dgetK (k:=Sum.inl (j:Int)) (S _ _ (sN _ _ tn.d)) (pK_val hpj) ?_
  walk_at "r"
  refine ⟨a,h,x,M,j,n,rfl,t,s.trans S,ok.r,hp,hn,fun u1 u2 tt HA _ _ _ SA a1 a2 a3=>?_⟩
  rw [← hg] at a3
  walk_at "r"
  obtain ⟨sh,esh⟩:∃ sh,(dN n).shown = sh:=⟨_,rfl⟩
  refine ⟨_,_,_,rfl,dv_dN (n:=n) a3 a1 a2,ok_dN on (by omega),?_⟩
  rw [esh]
  have SA':=S.trans SA
  have hA:=SA _ _ h0
  walk_at "r"
  refine r_var rfl ⟨8,rfl,pj,_,rfl,SqL.of hA,fun lB fB=>?_⟩
  have SB:=Same.upd (o:=.lst ((lN n k0 g0).take 8)) fB
  have eB:upd HA lB (.lst ((lN n k0 g0).take 8)) lB = some (.lst ((lN n k0 g0).take 8)):=upd_same
  rw [show cutV (lN n k0 g0) none (some 8) = (lN n k0 g0).take 8 from rfl]
  generalize upd HA lB _ = HB at *
  walk_at "r"
  refine ⟨lB,_,rfl,.inl ⟨SqL.of eB,fun lC fC=>?_⟩⟩
  have SC:=Same.upd (o:=.tup ((lN n k0 g0).take 8)) fC
  have eC:upd HB lC (.tup ((lN n k0 g0).take 8)) lC = some (.tup ((lN n k0 g0).take 8)):=upd_same
  have SAC:=SA.trans (SB.trans SC)
  have SC':=S.trans SAC
  generalize upd HB lC _ = HC at *
  walk_at "r"
  refine ⟨_,_,_,rfl,dv_dN (n:=n) eC (SC' _ _ (sN _ _ n1)) (SC' _ _ (sN _ _ n2)),ok_dN on (by omega),?_⟩
  rw [esh]
  clear esh
  have hC:=SAC _ _ h0
  have hxC:=SAC _ _ hx9
  walk_at "r"
  refine iteNS rfl ?_
  walk_at "r"
  refine ⟨a,h,x,M,j,n,rfl,t,s.trans SC',ok.r,hp,hn,fun pg hpg=>?_⟩
  obtain ⟨dg,tk,tg,g1,g2,g3⟩:=id hpg
  walk_at "r"
  refine k_methP g1 (c.pg.of_is _) rfl ⟨pg,n.lv,n.ks,n.gs,rfl,hpg,fun lD fD=>?_⟩
  have SD:=Same.upd (o:=.lst (n.ks.map V.int)) fD
  have eD:upd HC lD (.lst (n.ks.map V.int)) lD = some (.lst (n.ks.map V.int)):=upd_same
  have SD':=SC'.trans SD
  have hD:=SD _ _ hC
  have g1D:=SD _ _ g1
  have hpgD:=hpg.same SD
  generalize upd HC lD _ = HD at *
  walk_at "r"
  refine q_neI eD (SD' _ _ (sN _ _ n1)) ?_
  walk_at "r"
  refine k_methP g1D (c.pg.of_is _) rfl ⟨pg,n.lv,n.ks,n.gs,rfl,hpgD,fun lE fE=>?_⟩
  have SE:=Same.upd (o:=.lst (n.gs.map V.int)) fE
  have eE:upd HD lE (.lst (n.gs.map V.int)) lE = some (.lst (n.gs.map V.int)):=upd_same
  have SE':=SD'.trans SE
  have hE:=SE _ _ hD
  have g1E:=SE _ _ g1D
  have SF:=SAC.trans (SD.trans SE)
  generalize upd HD lE _ = HE at *
  walk_at "r"
  refine q_neI eE (SE' _ _ (sN _ _ n2)) ?_
  walk_at "r"
  have lv0:=on.lv
  unfold Cp.of at g1E
  by_cases h0:n.lv = 0
  ·rw [if_pos h0] at g1E
   refine ⟨pg,c.pg.cL,c.pg.cI,dg,_,false,rfl,g1E,KF.iL,KF.LI,?_⟩
   walk_at "r"
   refine iteNS (by rw [decide_eq_false (by omega)]) ?_
   walk_at "r"
   refine ⟨pg,c.pg.cL,c.pg.cL,dg,_,true,rfl,g1E,KF.iL,KF.LL,?_⟩
   walk_at "r"
   refine iteNS (by rw [decide_eq_true (by rw [h0])]) ?_
   walk_at "r"
   exact ⟨_,_,_,rfl,S9.trans SF⟩
  ·rw [if_neg h0] at g1E
   refine ⟨pg,c.pg.cI,c.pg.cI,dg,_,true,rfl,g1E,KF.iI,KF.II,?_⟩
   walk_at "r"
   refine iteNS (by rw [decide_eq_true (by omega)]) ?_
   walk_at "r"
   refine ⟨pg,c.pg.cI,c.pg.cL,dg,_,false,rfl,g1E,KF.iI,KF.IL,?_⟩
   walk_at "r"
   refine iteNS (by rw [decide_eq_false (fun z=>h0 (V.int.inj z))]) ?_
   walk_at "r"
   exact ⟨_,_,_,rfl,S9.trans SF⟩
 ·rintro σ H9 ⟨_,_,_,rfl,S9⟩
  walk_at "r"
  exact k _ (S18.trans S9)
end
theorem NOk.mono {b b':Nat} {n:ND} (o:NOk b n) (h:b ≤ b'):NOk b' n:=⟨o.lv,o.ks,o.gl,o.gs,o.hi,o.rt,⟨o.ver.1,by have:=o.ver.2; omega⟩,o.ho,o.wr⟩
theorem MOk.mono {b b':Nat} {M:MS} (o:MOk b M) (h:b ≤ b'):MOk b' M:=⟨o.r,o.ln,by have:=o.few; omega,by have:=o.cs; omega,o.tp,fun j n e=>(o.nz j n e).mono h,o.gu,o.gk,o.mo⟩
theorem set_at {ns:List ND} {j i:Nat} {n' m:ND} (e:(ns.set j n')[i]? = some m):i = j∧m = n'∨i ≠ j∧ns[i]? = some m:=by
 rw [List.getElem?_set] at e
 by_cases c:j = i
 ·subst c
  rw [if_pos rfl] at e
  by_cases l:j < ns.length
  ·rw [if_pos l] at e; exact .inl ⟨rfl,(Option.some.inj e).symm⟩
  ·rw [if_neg l] at e; cases e
 ·rw [if_neg c] at e; exact .inr ⟨Ne.symm c,e⟩
theorem MOk.setN {b b':Nat} {M:MS} (o:MOk b M) {j:Nat} {n n':ND} (hn:M.ns[j]? = some n) (h:NOk b' n') (hb:b ≤ b') (hg:n'.gone = n.gone):MOk b' { M with ns:=M.ns.set j n' }:=by
 have o':=o.mono hb
 refine ⟨o.r,by rw [List.length_set]; exact o.ln,by rw [List.length_set]; exact o'.few,o'.cs,o.tp,fun i m e=>?_,fun i m e hu=>?_,fun i m e hu=>?_,o.mo⟩
 ·rcases set_at e with ⟨rfl,rfl⟩ | ⟨_,e⟩
  ·exact h
  ·exact o'.nz i m e
 ·rcases set_at e with ⟨rfl,rfl⟩ | ⟨_,e⟩
  ·rw [hg]; exact o.gu _ _ hn hu
  ·exact o.gu i m e hu
 ·rcases set_at e with ⟨rfl,rfl⟩ | ⟨_,e⟩
  ·rw [hg]; exact o.gk _ _ hn hu
  ·exact o.gk i m e hu
theorem MOk.lead {b:Nat} {M:MS} (o:MOk b M) {p:Int} (h:p ∈ M.R.us):MOk b { M with top:=some p }:=⟨o.r,o.ln,o.few,o.cs,⟨p,rfl,h⟩,o.nz,o.gu,o.gk,o.mo⟩
theorem MOk.come {b:Nat} {M:MS} (o:MOk b M) {w0:Int} (h0:0 ≤ w0) (h1:w0 ≤ 1000000) (hn:w0 ∉ M.R.cs.map (·.1)):MOk (b + 1) { M with R:=M.R.come w0 }:=by
 have o':=o.mono (Nat.le_succ b)
 exact ⟨o.r.come h0 h1 hn,o.ln,o'.few,by show (M.R.cs ++ [(w0,M.R.lap)]).length ≤ _; rw [List.length_append]; have:=o.cs; show _ + 1 ≤ _; omega,o.tp,o'.nz,o.gu,o.gk,o.mo⟩
theorem rel_ks {S:RS} {p:Int} (h:p ∈ S.rel.ks.map (·.1)):p ∈ S.ks.map (·.1):=by
 obtain ⟨q,hq,rfl⟩:=List.mem_map.mp h
 exact List.mem_map.mpr ⟨q,(List.mem_filter.mp hq).1,rfl⟩
theorem MOk.left {b:Nat} {M:MS} (o:MOk b M) (w0:Int):MOk b { M with R:=(M.R.left w0).rel }:=
 ⟨(o.r.left w0).rel,(RS.rel_perm (M.R.left w0)).length_eq.trans o.ln,o.few,Nat.le_trans (List.length_filter_le _ _) o.cs,o.tp,o.nz,o.gu,fun j n e h=>o.gk j n e (rel_ks (S:=M.R.left w0) h),o.mo⟩
theorem MOk.gone {b:Nat} {M:MS} (o:MOk b M) {j:Nat} {n n':ND} (hn:M.ns[j]? = some n) (hu:(j:Int) ∈ M.R.us) (h:NOk (b + 1) n') (hg:n'.gone = true) (ht:∃ p:Int,M.top = some p∧(j:Int) ≠ p):MOk (b + 1) { M with ns:=M.ns.set j n',R:=(M.R.gone j).rel }:=by
 have o':=o.mono (Nat.le_succ b)
 refine ⟨(o.r.gone hu).rel,?_,by rw [List.length_set]; exact o'.few,o'.cs,?_,fun i m e=>?_,fun i m e hi=>?_,fun i m e hi=>?_,o.mo⟩
 ·rw [List.length_set,← o.ln]
  exact (RS.rel_perm _).length_eq.trans (RS.gone_perm o.r hu).length_eq
 ·obtain ⟨p,e1,n1⟩:=ht
  obtain ⟨p',e2,h2⟩:=o.tp
  rw [e1] at e2
  cases Option.some.inj e2
  exact ⟨p,e1,List.mem_filter.mpr ⟨h2,decide_eq_true (Ne.symm n1)⟩⟩
 ·rcases set_at e with ⟨rfl,rfl⟩ | ⟨_,e⟩
  ·exact h
  ·exact o'.nz i m e
 ·have hi':=List.mem_filter.mp (show (i:Int) ∈ M.R.us.filter (fun n=>decide (n ≠ (j:Int))) from hi)
  rcases set_at e with ⟨rfl,rfl⟩ | ⟨_,e⟩
  ·exact absurd rfl (of_decide_eq_true hi'.2)
  ·exact o.gu i m e hi'.1
 ·rcases set_at e with ⟨rfl,rfl⟩ | ⟨ne,e⟩
  ·exact hg
  ·refine o.gk i m e ?_
   have h1:=rel_ks (S:=M.R.gone j) hi
   have h2:(i:Int) ∈ (M.R.ks ++ [((j:Int),M.R.lap)]).map (·.1):=h1
   rw [List.map_append] at h2
   rcases List.mem_append.mp h2 with h3 | h3
   ·exact h3
   ·have:=List.mem_singleton.mp h3
    exact absurd (Int.ofNat.inj this) ne
theorem MOk.made {b:Nat} {M:MS} (o:MOk b M) {j:Nat} (gj:Given M j) {lv:Int} {ks gs:List Int} {hi rt:Option Int} (h:∀ v:Int,0 ≤ v∧v ≤ b→NOk b ⟨lv,ks,gs,hi,rt,v,none,false,false⟩):MOk (b + 1) (M.made j lv ks gs hi rt):=by
 have o':=o.mono (Nat.le_succ b)
 have few:=o.few
 have lp:M.R.us.length + M.R.ks.length + M.R.fs.length = M.R.places.length:=by unfold RS.places; simp only [List.length_append,List.length_map]
 have tp:∃ p,M.top = some p∧p ∈ (M.R.take j).us:=let ⟨p,a,c⟩:=o.tp; ⟨p,a,List.mem_append_left _ c⟩
 have nk:(j:Int) ∉ M.R.ks.map (·.1):=fun z=>by
  rcases gj with ⟨_,e⟩ | ⟨e,_⟩
  ·have:=(o.r.rg j (List.mem_append_left _ (List.mem_append_right _ z))).2
   rw [o.ln,e] at this
   omega
  ·exact o.r.kf z e
 rcases gj with ⟨e,ej⟩ | ⟨e,_⟩
 ·have okR:(M.R.take j).Ok:=by
   have:=o.r.new e
   rw [o.ln,← ej] at this
   exact this
  have eM:M.made j lv ks gs hi rt = { M with R:=M.R.take j,ns:=M.ns ++ [⟨lv,ks,gs,hi,rt,0,none,false,false⟩] }:=by unfold MS.made; rw [if_neg (by omega)]
  rw [eM]
  have at':∀ {i:Nat} {m:ND},(M.ns ++ [⟨lv,ks,gs,hi,rt,0,none,false,false⟩])[i]? = some m→i = j∧m = ⟨lv,ks,gs,hi,rt,0,none,false,false⟩∨i ≠ j∧M.ns[i]? = some m:=fun {i m} q=>by
   by_cases c:i < M.ns.length
   ·rw [List.getElem?_append_left c] at q; exact .inr ⟨by omega,q⟩
   ·rw [List.getElem?_append_right (by omega)] at q
    cases c1:i - M.ns.length with
    | zero=>rw [c1] at q; exact .inl ⟨by omega,(Option.some.inj q).symm⟩
    | succ k=>rw [c1] at q; cases q
  refine ⟨okR,?_,by rw [List.length_append]; show _ + 1 ≤ _; omega,o'.cs,tp,fun i m q=>?_,fun i m q hi=>?_,fun i m q hi=>?_,o.mo⟩
  ·rw [List.length_append,← o.ln]
   unfold RS.places RS.take
   simp only [e,List.filter_nil,List.length_append,List.length_map,List.length_cons,List.length_nil]
   omega
  ·rcases at' q with ⟨_,rfl⟩ | ⟨_,q⟩
   ·exact (h 0 ⟨Int.le_refl _,by omega⟩).mono (Nat.le_succ b)
   ·exact o'.nz i m q
  ·rcases at' q with ⟨_,rfl⟩ | ⟨ne,q⟩
   ·rfl
   ·rcases List.mem_append.mp (show (i:Int) ∈ M.R.us ++ [(j:Int)] from hi) with z | z
    ·exact o.gu i m q z
    ·exact absurd (Int.ofNat.inj (List.mem_singleton.mp z)) ne
  ·rcases at' q with ⟨rfl,rfl⟩ | ⟨ne,q⟩
   ·exact absurd hi nk
   ·exact o.gk i m q hi
 ·have okR:(M.R.take j).Ok:=o.r.take e
  have jl:j < M.ns.length:=by
   have:=(o.r.rg j (List.mem_append_right _ e)).2
   rw [o.ln] at this
   omega
  have eM:M.made j lv ks gs hi rt = { M with R:=M.R.take j,ns:=M.ns.set j ⟨lv,ks,gs,hi,rt,(M.ns[j]?.map (·.ver)).getD 0,none,false,false⟩ }:=by unfold MS.made; rw [if_pos jl]
  rw [eM]
  have hn:=List.getElem?_eq_getElem jl
  refine ⟨okR,?_,by rw [List.length_set]; exact o'.few,o'.cs,tp,fun i m q=>?_,fun i m q hi=>?_,fun i m q hi=>?_,o.mo⟩
  ·rw [List.length_set,← o.ln,← lp]
   have:=(filter_out o.r.fsn e).length_eq
   rw [List.length_cons] at this
   unfold RS.places RS.take
   simp only [List.length_append,List.length_map,List.length_cons,List.length_nil]
   omega
  ·rcases set_at q with ⟨_,rfl⟩ | ⟨_,q⟩
   ·refine (h _ ?_).mono (Nat.le_succ b)
    rw [hn]
    exact (o.nz _ _ hn).ver
   ·exact o'.nz i m q
  ·rcases set_at q with ⟨_,rfl⟩ | ⟨ne,q⟩
   ·rfl
   ·rcases List.mem_append.mp (show (i:Int) ∈ M.R.us ++ [(j:Int)] from hi) with z | z
    ·exact o.gu i m q z
    ·exact absurd (Int.ofNat.inj (List.mem_singleton.mp z)) ne
  ·rcases set_at q with ⟨rfl,rfl⟩ | ⟨ne,q⟩
   ·exact absurd hi nk
   ·exact o.gk i m q hi
theorem MOk.init (most:Int) (hm:2 ≤ most∧most ≤ 5):MOk 0 (MS.init most):=by
 have n0:NOk 0 ⟨0,[],[],none,none,0,none,false,false⟩:=⟨by decide,⟨fun _ z=>(by cases z),List.Pairwise.nil,by decide⟩,by decide,fun _ z=>(by cases z),fun _ z=>(by cases z),fun _ z=>(by cases z),by decide,fun _ z=>(by cases z),fun _=>rfl⟩
 have nd:([0]:List Int).Nodup:=by decide
 refine ⟨⟨nd,fun p hp=>?_,List.nodup_nil,fun c hc=>(by cases hc)⟩,rfl,Nat.le_refl 1,Nat.le_refl 0,⟨0,rfl,List.mem_singleton.mpr rfl⟩,fun j n e=>?_,fun j n e _=>?_,fun j n e h=>(by cases h),hm⟩
 ·have e:p = 0:=List.mem_singleton.mp (show p ∈ ([0]:List Int) from hp)
  rw [e]
  exact ⟨Int.le_refl _,show (0:Int) < ((1:Nat):Int) by decide⟩
 ·cases j with
  | zero=>cases Option.some.inj e; exact n0
  | succ j=>cases e
 ·cases j with
  | zero=>cases Option.some.inj e; rfl
  | succ j=>cases e
theorem NOk.cont {b:Nat} {M:MS} (o:MOk b M) (hb:b ≤ 50) {H:Hp} {tt lk lg:Addr} {lv:Int} {ks gs:List Int} {hi rt:Option Int} (ct:Cont H tt lk lg lv ks gs) (ed:EdgeOk M hi rt) (l0:0 ≤ lv) (l1:lv ≤ 60) {v:Int} (hv:0 ≤ v∧v ≤ b) {ho:Option Int} {gone wr:Bool} (h1:∀ z,ho = some z→0 ≤ z∧z ≤ 2) (h2:ho = none→wr = false):NOk b ⟨lv,ks,gs,hi,rt,v,ho,gone,wr⟩:=by
 obtain ⟨_,_,_,ok,og,gb0⟩:=ct
 have l:=ok.l
 have gl:gs.length ≤ 7:=by
  unfold okG at og
  by_cases c:lv = 0
  ·rw [if_pos c] at og
   rw [og.1]; omega
  ·rw [if_neg c] at og
   rw [og.1]; omega
 refine ⟨⟨l0,l1⟩,ok,gl,gb0,fun z e=>?_,fun z e=>?_,hv,h1,h2⟩
 ·rcases ed with ⟨rfl,_⟩ | ⟨k,p,rfl,_,hk,_⟩
  ·cases e
  ·cases Option.some.inj e
   unfold KeyR at hk
   omega
 ·rcases ed with ⟨_,rfl⟩ | ⟨k,p,_,rfl,_,hp⟩
  ·cases e
  ·cases Option.some.inj e
   have:=o.r.rg _ (List.mem_append_left _ (List.mem_append_left _ hp))
   have l2:=o.ln
   have l3:=o.few
   omega
structure Inv (c:Cs) (a:TA) (h gN g:Hp) (x st:Addr) (M:MS) (H:Hp):Prop where
 t:IsT c a h x M
 l:IsL gN g st M
 d:Dis h g
 sh:Same h H
 sg:Same g H
structure Stp (h k g h' k' g':Hp) (p:Addr) (H H':Hp):Prop where
 st:∀ b o,H b = some o→h b = none→g b = none→b ≠ p→H' b = some o∧h' b = none∧g' b = none
 fz:∀ b o,H b = some o→FZ o = true→H' b = some o
 ki:KI k k'
theorem Box.nfz {H:Hp} {p:Addr} {n:Nat} (B:Box H p n):∀ o,H p = some o→FZ o = false:=fun o e=>by
 obtain ⟨xs,z⟩:=B.lst
 rw [z] at e
 cases e
 rfl
theorem Stp.kb {h k g h' k' g':Hp} {p:Addr} {H H1 H':Hp} (s:Stp h k g h' k' g' p H1 H') (z:∀ o,H p = some o→FZ o = false) (b:KB p H H1):Stp h k g h' k' g' p H H':=
 ⟨fun x o e n1 n2 n3=>s.st x o (b.get e n3) n1 n2 n3,fun x o e f=>s.fz x o (b.get e fun y=>by rw [y] at e; rw [z _ e] at f; cases f) f,s.ki⟩
theorem Stp.same {h k g h' k' g':Hp} {p:Addr} {H H1 H':Hp} (s:Stp h k g h' k' g' p H1 H') (S:Same H H1):Stp h k g h' k' g' p H H':=⟨fun x o e n1 n2 n3=>s.st x o (S _ _ e) n1 n2 n3,fun x o e f=>s.fz x o (S _ _ e) f,s.ki⟩
theorem two1 {h k g h' k' g' H H1 H2:Hp} (d:Dis h g) (sh:Same h H) (sg:Same g H) (c1:Chg g g' H H1) (c2:Chg h h' H1 H2) (ki:KI k k'):Dis h' g'∧Same h' H2∧Same g' H2∧∀ q,Stp h k g h' k' g' q H H2:=by
 have d1:=(c1.dis d.symm sh).symm
 refine ⟨c2.dis d1 c1.sm,c2.sm,c2.keep d1 c1.sm,fun q=>⟨fun b o e n1 n2 _=>?_,fun b o e f=>c2.fz b o (c1.fz b o e f) f,ki⟩⟩
 have e1:=c1.get n2 e
 exact ⟨c2.get n1 e1,c2.out n1 e1,c1.out n2 e⟩
theorem two2 {h k g h' k' g' H H1 H2:Hp} (d:Dis h g) (sh:Same h H) (sg:Same g H) (c1:Chg h h' H H1) (c2:Chg g g' H1 H2) (ki:KI k k'):Dis h' g'∧Same h' H2∧Same g' H2∧∀ q,Stp h k g h' k' g' q H H2:=by
 obtain ⟨a,b,c,e⟩:=two1 d.symm sg sh c1 c2 ki
 exact ⟨a.symm,c,b,fun q=>⟨fun b o z n1 n2 nq=>let ⟨u,v,w⟩:=(e q).st b o z n2 n1 nq; ⟨u,w,v⟩,(e q).fz,ki⟩⟩
section
variable {P:Program} {w:World} {K:PySem.W.Frag} {mg:Str→Option Value} {base:Heap} {c:Cs}
abbrev s__law_called:Stmt:=top 73
def spCalled (c:Cs):Sp:=fun vs H Q _=>∃ (a:TA) (h gN g:Hp) (x st:Addr) (M:MS) (b:Nat) (v0:V) (w0:Int),vs = [v0,.ref x,.ref st,.int w0]∧Inv c a h gN g x st M H∧MOk b M∧b ≤ 45∧0 ≤ w0∧w0 ≤ 2∧∀ a' h' gN' g' M' H',Inv c a' h' gN' g' x st M' H'→MOk (b + 1) M'→(∀ q,Stp h gN g h' gN' g' q H H')→Q (.bl true) H'
theorem ok_called (F:Fx P w K mg base c):OkD P w K mg base "_law_called" s__law_called ["_law_box_here","_law_tree","_law_state_here","_law_who"] 8 (spCalled c):=by
 have T:=F.r.T
 have C_Tree:=F.cT
 have E_law_left:=ok_left F
 have E_Tree_leave:=ok_T_leave F
 have E_Tree_enter:=ok_T_enter F
 refine F.r.d__law_called.ok (N:=["_law_box_here","_law_tree","_law_state_here","_law_who"]) fun sc H Q hr h=>?_
 obtain ⟨a,h,gN,g,x,st,M,b,v0,w0,rfl,⟨t,il,d,sh,sg0⟩,ok,b45,w1,w2,k⟩:=h
 obtain ⟨gS,dn,nd,la,us,fs,tp,rfl,ds,tn,ts,htp⟩:=id il
 have hu:=hr.units0
 have big:=big1000
 have sN:Same gN H:=uH_sl.trans sg0
 have sS:Same gS H:=(uH_sr ds).trans sg0
 have hs:=sS _ _ ts.s
 have few:=ok.few
 have ln:=ok.ln
 have lc:=ok.cs
 refine' ⟨_,(pss_cons (ps_if (pt_cmpR op_in_seq (pv 3) (pe_comp2 (blk_mk2 [] []) rfl (pi_list (pe_gs hr (pv 2))) (fun _ _ _ _ _=>PTs.nil) (fun _ _ _ _ _=>(pv 0))) (by with_unfolding_all rfl))
   (pss_cons (ps_expr (pe_d E_law_left hr (pa_c (pv 2) (pa_c (pv 3) pa_nil))))
  (pss_one (ps_ret (pe_cmpR op_isN (pe_m (pv 1) C_Tree E_Tree_leave hr (pa_c (pv 3) pa_nil)) pe_non (nomark _)))))
   pss_nil)
  (pss_cons (ps_expr (pe_bm PySem.F.plainAttrs_list PySem.F.slot_list_append PySem.F.type_list_append mt_append (pe_gs hr (pv 2)) (pa_c (pe_tup (pa_c (pv 3) (pa_c (pe_gs hr (pv 2)) pa_nil))) pa_nil)))
  (pss_one (ps_ret (pe_cmpR op_isN (pe_m (pv 1) C_Tree E_Tree_enter hr (pa_c (pv 3) pa_nil)) pe_non (nomark _)))))),?_⟩
 walk_at "r"
 refine comp_list (l:=la.lc) (ts:=la.tc) (ps:=M.R.cs) (fun R' z=>?_) (sS _ _ ts.c) (ts.tc.keep fun b xs z=>sS _ _ z) (by omega) (fun _=>true) (fun c=>.int c.1) (fun c _ H2 R' _ z=>z H2 (Same.refl _)) (fun c _ _ H2 R' _ z=>⟨_,rfl,z H2 (Same.refl _)⟩) fun ll H1 fll S1 ell=>?_
 ·walk_at "r"
  exact z
 rw [filt_all,show (M.R.cs.map fun c=>V.int c.1) = (M.R.cs.map (·.1)).map V.int by rw [List.map_map]; rfl] at ell
 refine ⟨ll,_,rfl,.inl (SqL.of ell),rfl,all_flat,?_⟩
 rw [if_neg Bool.false_ne_true,inV_ints]
 walk_at "r"
 have hs1:=S1 _ _ hs
 have hx1:=S1 _ _ (sh _ _ t.x)
 by_cases hm:w0 ∈ M.R.cs.map (·.1)
 ·refine iteD hm ?_
  walk_at "r"
  refine ⟨_,_,st,M,w0,rfl,il,sg0.trans S1,by omega,by omega,fun gN' g' H2 il2 c2 ki=>?_⟩
  have c2':Chg (uH gN gS) g' H H2:=(Chg.same sg0 S1).trans c2
  have sh2:=c2'.keep d.symm sh
  have hx2:=sh2 _ _ t.x
  walk_at "r"
  refine ⟨a,h,x,M,w0,rfl,t,sh2,ok.r,by omega,by omega,hm,fun h' H3 t3 c3=>?_⟩
  obtain ⟨q1,q2,q3,q4⟩:=two1 d sh sg0 c2' c3 ki
  walk_at "r"
  refine ⟨rfl,?_⟩
  rw [decide_eq_true rfl]
  exact k _ _ _ _ _ _ ⟨t3,il2,q1,q2,q3⟩ ((ok.left w0).mono (Nat.le_succ b)) q4
 ·refine iteX hm ?_
  have hc1:=S1 _ _ (sS _ _ ts.c)
  walk_at "r"
  refine ⟨(by show 2 ≤ sizeLine; decide),fun y fy=>?_⟩
  have S2:=Same.upd (o:=.tup [.int w0,.int M.R.lap]) fy
  have ey:upd H1 y (.tup [.int w0,.int M.R.lap]) y = some (.tup [.int w0,.int M.R.lap]):=upd_same
  have S12:=S1.trans S2
  have fyH:=S1.free fy
  have fyg:=sS.free fyH
  have c1:Chg gS (upd gS y (.tup [.int w0,.int M.R.lap])) H (upd H1 y (.tup [.int w0,.int M.R.lap])):=.addS sS S12 fyH ey
  have t2:=(ts.same (Same.upd (o:=.tup [.int w0,.int M.R.lap]) fyg)).appC (x:=y) (q:=(w0,M.R.lap)) upd_same
  have c2:=c1.trans (.mut (o:=.lst (la.tc.map V.ref ++ [.ref y])) c1.sm (un_f fyg ts.c))
  generalize upd (upd gS y _) la.lc _ = g2 at *
  generalize upd H1 y _ = H2 at *
  walk_at "r"
  refine q_append (S2 _ _ hc1) (by rw [List.length_map,ts.tc.1]; omega) ?_
  generalize upd H2 la.lc _ = H3 at *
  have c3:=c2.uR ds sN
  have il2:IsL gN (uH gN g2) st { M with R:=M.R.come w0 }:=⟨g2,dn,nd,_,us,fs,tp,rfl,(c2.dis ds.symm sN).symm,tn,t2,htp⟩
  have sh3:=c3.keep d.symm sh
  have hx3:=sh3 _ _ t.x
  clear hs1 hx1 hc1
  walk_at "r"
  refine ⟨a,h,x,M,w0,rfl,t,sh3,by omega,by omega,by omega,hm,fun h' H4 t4 c4=>?_⟩
  obtain ⟨q1,q2,q3,q4⟩:=two1 d sh sg0 c3 c4 (KI.refl (k:=gN))
  walk_at "r"
  refine ⟨rfl,?_⟩
  rw [decide_eq_true rfl]
  exact k _ _ _ _ _ _ ⟨t4,il2,q1,q2,q3⟩ (ok.come (by omega) (by omega) hm) q4
abbrev s__law_more:Stmt:=top 74
def spMore (c:Cs):Sp:=fun vs H Q _=>∃ (a:TA) (h gN g:Hp) (x st:Addr) (M:MS) (b:Nat) (p et:Addr) (nb:Nat) (lv:Int) (hi rt:Option Int),vs = [.ref p,.ref x,.ref st,.int lv,.ref et]∧Inv c a h gN g x st M H∧MOk b M∧b ≤ 45∧Box H p nb∧nb ≤ 700000∧h p = none∧g p = none∧0 ≤ lv∧lv ≤ 60∧H et = some (.tup [oV hi,oV rt])∧h et = none∧g et = none∧et ≠ p∧EdgeOk M hi rt∧∀ a' h' gN' g' M' H',Inv c a' h' gN' g' x st M' H'→MOk (b + 1) M'→Stp h gN g h' gN' g' p H H'→Q (.bl true) H'
theorem ok_more (F:Fx P w K mg base c):OkD P w K mg base "_law_more" s__law_more ["_law_box_here","_law_tree","_law_state_here","_law_level","_law_edge_here"] 11 (spMore c):=by
 have T:=F.r.T
 have C_Tree:=F.cT
 have E_law_content:=ok_content F
 have E_law_page:=ok_lpage F
 have E_law_made:=ok_lmade F
 have E_Tree_made:=ok_T_made F
 refine F.r.d__law_more.ok (N:=["_law_box_here","_law_tree","_law_state_here","_law_level","_law_edge_here","_law_content_here","_law_page_here"]) fun sc H Q hr h=>?_
 obtain ⟨a,h,gN,g,x,st,M,b,p,et,nb,lv,hi,rt,rfl,⟨t,il,d,sh,sg0⟩,ok,b45,B,hnb,hp,gp,l0,l1,he,h_e,g_e,nep,ed,k⟩:=h
 have big:=big1000
 have few:=ok.few
 have ln:=ok.ln
 refine' ⟨_,(pss_cons (ps_v sc 5 (pe_d E_law_content hr (pa_c (pv 0) (pa_c (pv 3) pa_nil))))
  (pss_cons (ps_v sc 6 (pe_d E_law_page hr (pa_c (pv 3) (pa_c (pv 5) pa_nil))))
  (pss_one (ps_ret (pe_cmpR op_eq (pe_m (pv 1) C_Tree E_Tree_made hr (pa_c (pv 3) (pa_c (pv 6) (pa_c (pe_ix ix_tup (pv 4) pe_int (fun _ _=>rfl)) (pa_c (pe_ix ix_tup (pv 4) pe_int (fun _ _=>rfl)) pa_nil))))) (pe_d E_law_made hr (pa_c (pv 2) (pa_c (pv 3) (pa_c (pv 5) (pa_c (pv 4) pa_nil))))) (nomark _)))))),?_⟩
 walk_at "r"
 refine ⟨p,lv,nb,rfl,B,by omega,fun tt lk lg ks gs H1 f1 f2 f3 np k1 B1 ct=>?_⟩
 have sh1:=k1.same sh hp
 have sg1:=k1.same sg0 gp
 have he1:=k1.get he nep
 simp only [List.mem_cons,List.not_mem_nil,or_false,not_or] at np
 walk_at "r"
 refine ⟨lv,tt,lk,lg,ks,gs,rfl,ct,l0,fun pg dx tk tg H2 y1 y2 y3 S2 e1 e2 e3=>?_⟩
 have sh2:=sh1.trans S2
 have sg2:=sg1.trans S2
 obtain ⟨h2,ch2,pg2,ext⟩:=Pg.add (cp:=c.pg) (lv:=lv) (ks:=ks) (gs:=gs) (Chg.same sh1 S2) y1 y2 y3 e1 e2 e3
 have d2:=ch2.dis d sg1
 have t2:IsT c a h2 x M:=t.same fun b o z=>ext b o z
 have hx2:=ch2.sm _ _ t2.x
 have he2:=S2 _ _ he1
 have out2:∀ {b o},H1 b = some o→h b = none→h2 b = none:=fun e n=>ch2.out n e
 walk_at "r"
 refine ⟨a,h2,x,M,lv,pg,ks,gs,hi,rt,rfl,t2,ch2.sm,ok.r,ln,by omega,l0,l1,pg2,ed,fun j a3 h3 H3 gj t3 c3=>?_⟩
 have sg3:=c3.keep d2 sg2
 have o2:∀ {b o},H1 b = some o→h b = none→H3 b = some o:=fun e n=>c3.get (out2 e n) (S2 _ _ e)
 have hn:∀ {b},H b = none→h b = none:=fun f=>sh.free f
 have gn:∀ {b},H b = none→g b = none:=fun f=>sg0.free f
 have he3:=o2 he1 h_e
 walk_at "r"
 refine ⟨_,g,st,M,lv,tt,lk,lg,et,ks,gs,hi,rt,rfl,il,sg3,ok.r,ln,by omega,⟨o2 ct.t (hn f1),o2 ct.k (hn f2),o2 ct.g (hn f3),ct.ok,ct.og,ct.gb⟩,he3,?_,fun j' gN4 g4 H4 gj' il4 c4 ki=>?_⟩
 ·intro b hb
  simp only [List.mem_cons,List.not_mem_nil,or_false] at hb
  rcases hb with rfl | rfl | rfl | rfl
  ·exact gn f1
  ·exact gn f2
  ·exact gn f3
  ·exact g_e
 have ej:j = j':=by
  rcases gj with ⟨u1,u2⟩ | ⟨u1,u2⟩
  ·rcases gj' with ⟨v1,v2⟩ | ⟨v1,v2⟩
   ·rw [u2,v2]
   ·rw [u1] at v1; cases v1
  ·rcases gj' with ⟨v1,v2⟩ | ⟨v1,v2⟩
   ·rw [v1] at u1; cases u1
   ·have:=u2 _ v1
    have:=v2 _ u1
    omega
 subst ej
 have c13:=ch2.trans c3
 obtain ⟨q1,q2,q3,q4⟩:=two2 d sh1 sg1 c13 c4 ki
 walk_at "r"
 rw [decide_eq_true rfl]
 refine k _ _ _ _ _ _ ⟨t3,il4,q1,q2,q3⟩ (ok.made gj fun v hv=>NOk.cont ok (by omega) ct ed l0 l1 hv (fun _ z=>nomatch z) fun _=>rfl) ((q4 p).kb B.nfz k1)
end
theorem op_notInK {X:Cx} {K:PySem.W.Frag} (e:X.K = K):OpR X (compareOp .NotIn) (rIn K true):=by subst e; exact op_notIn_seq
theorem r_andB {tt tu:TT} {σ:St} {H:Hp} {Q:Bool→Hp→Prop} (b1 b2:Bool) (h1:∀ R:Bool→Hp→Prop,R b1 H→tt σ H R) (h2:∀ R:Bool→Hp→Prop,R b2 H→tu σ H R) (q:Q (b1 && b2) H):tAnd tt tu σ H Q:=h1 _ (by
 cases b1 with
 | true=>exact iteT (h2 _ q)
 | false=>exact iteF q)
theorem oV_non {o:Option Int}:(!decide (oV o = V.non)) = o.isSome:=by
 cases o with
 | none=>rfl
 | some i=>rw [decide_eq_false (fun z=>nomatch z)]; rfl
def hoM (M:MS) (z:Int):Option Int:=(M.ns[z.toNat]?).bind (·.ho)
def heldV (M:MS) (v:V):Bool:=match v with | .int z=>(hoM M z).isSome | _=>false
section
variable {P:Program} {w:World} {K:PySem.W.Frag} {mg:Str→Option Value} {base:Heap} {c:Cs}
abbrev s__law_done:Stmt:=top 72
def spDone (c:Cs):Sp:=fun vs H Q _=>∃ (a:TA) (h gN g:Hp) (x st:Addr) (M:MS) (b:Nat) (p:Addr) (nb:Nat),vs = [.ref p,.ref x,.ref st]∧Inv c a h gN g x st M H∧MOk b M∧b ≤ 45∧Box H p nb∧nb ≤ 100∧h p = none∧g p = none∧∀ a' h' gN' g' M' H',Inv c a' h' gN' g' x st M' H'→MOk (b + 1) M'→Stp h gN g h' gN' g' p H H'→Q (.bl true) H'
theorem ok_done (F:Fx P w K mg base c):OkD P w K mg base "_law_done" s__law_done ["_law_box_here","_law_tree","_law_state_here"] 12 (spDone c):=by
 have T:=F.r.T
 have C_Tree:=F.cT
 have E_law_take:=ok_take F
 have E_law_one:=ok_one F
 have E_law_edge:=ok_edge F
 have E_law_content:=ok_content F
 have E_law_page:=ok_lpage F
 have E_law_written:=ok_written F
 have E_law_freed:=ok_freed F
 have E_law_gone:=ok_lgone F
 have E_law_called:=ok_called F
 have E_law_more:=ok_more F
 have E_Tree_hold:=ok_T_hold F
 have E_Tree_write:=ok_T_write F
 have E_Tree_free:=ok_T_free F
 have E_Tree_go:=ok_T_go F
 have E_Tree_lead:=ok_T_lead F
 refine F.r.d__law_done.ok (N:=["_law_box_here","_law_tree","_law_state_here","_law_way","_law_who","_law_held","_law_loose","_law_place","_law_spot","_law_level","_law_edge_here","_law_content_here","_law_page_here","_law_told","_law_old","_law_new","_law_led"]) fun sc H Q hr h=>?_
 obtain ⟨a,h,gN,g,x,st,M,b,p,nb,rfl,⟨t,il,d,sh,sg0⟩,ok,b45,B,hnb,hp,gp,k⟩:=h
 obtain ⟨gS,dn,nd,la,us,fs,tp,rfl,ds,tn,ts,htp⟩:=id il
 have big:=big1000
 have nf0:=B.nfz
 have sN0:Same gN (uH gN gS):=uH_sl
 have sS0:Same gS (uH gN gS):=uH_sr ds
 have few:=ok.few
 have ln:=ok.ln
 have lu:=ts.pu.length_eq
 have lp:M.R.us.length + M.R.ks.length + M.R.fs.length = M.R.places.length:=by unfold RS.places; simp only [List.length_append,List.length_map]
 have nop:∀ {b o},uH gN gS b = some o→b ≠ p:=fun {b o} e z=>by rw [z,gp] at e; cases e
 refine' ⟨_,(pss_cons (ps_v sc 3 (pe_d E_law_take hr (pa_c (pv 0) (pa_c pe_int pa_nil))))
  (pss_cons (ps_v sc 4 (pe_d E_law_take hr (pa_c (pv 0) (pa_c pe_int pa_nil))))
  (pss_cons (ps_set (i:=5) sc.nd rfl (Or.inr rfl) (pe_comp (blk_mk ["_law_state_here"] [2]) rfl (pi_list (pe_gs hr (pv 2))) (fun _ _ _ _ _=>(PTs.one (pt_cmpR op_notN (pe_ix (ix_seqK (K:=K) rfl) (pe_dget (hu_of hr) (pe_dget (hu_of hr) (pv 1) pe_str (fun _ _=>rfl)) (pv 0) (fun _ _=>rfl)) pe_int (fun _ _=>rfl)) pe_non (nomark _)))) (fun _ _ _ _ _=>(pv 0))))
  (pss_cons (ps_setComp (i:=6) (blk_mk ["_law_held"] [5]) rfl (pi_list (pe_gs hr (pv 2))) (fun _ _ _ _ _=>(PTs.one (pt_cmpR (op_notInK (K:=K) rfl) (pv 0) (pv 1) (by with_unfolding_all rfl)))) (fun _ _ _ _ _=>(pv 0)) sc.nd rfl rfl)
  (pss_cons (ps_v sc 7 (pe_d E_law_one hr (pa_c (pv 0) (pa_c (pv 5) pa_nil))))
  (pss_cons (ps_v sc 8 (pe_d E_law_one hr (pa_c (pv 0) (pa_c (pv 6) pa_nil))))
  (pss_cons (ps_v sc 9 (pe_ix ix_list (pe_lst (pa_c pe_int (pa_c pe_int (pa_c pe_int (pa_c pe_int (pa_c pe_int pa_nil)))))) (pe_d E_law_take hr (pa_c (pv 0) (pa_c pe_int pa_nil))) (fun _ _=>rfl)))
  (pss_cons (ps_v sc 10 (pe_d E_law_edge hr (pa_c (pv 0) (pa_c (pv 2) pa_nil))))
  (pss_cons (ps_if (PW.pt (pw_and (pt_cmpR op_lt (pv 3) pe_int (nomark _)) (pw_and1 (pt_cmpR op_notN (pv 8) pe_non (nomark _)))))
   (pss_cons (ps_asg (pv 4) (pg_sub (pe_dget (hu_of hr) (pe_gs hr (pv 2)) (pv 8) (fun _ _=>rfl)) pe_int set_list))
  (pss_one (ps_ret (pe_cmpR op_isN (pe_m (pv 1) C_Tree E_Tree_hold hr (pa_c (pv 8) (pa_c (pv 4) pa_nil))) pe_non (nomark _)))))
   pss_nil)
  (pss_cons (ps_if (PW.pt (pw_and (pt_cmpR op_lt (pv 3) pe_int (nomark _)) (pw_and1 (pt_cmpR op_notN (pv 7) pe_non (nomark _)))))
   (pss_cons (ps_v sc 11 (pe_d E_law_content hr (pa_c (pv 0) (pa_c (pe_ix ix_list (pe_dget (hu_of hr) (pe_gs hr (pv 2)) (pv 7) (fun _ _=>rfl)) pe_int (fun _ _=>rfl)) pa_nil))))
  (pss_cons (ps_v sc 12 (pe_d E_law_page hr (pa_c (pe_ix ix_list (pe_dget (hu_of hr) (pe_gs hr (pv 2)) (pv 7) (fun _ _=>rfl)) pe_int (fun _ _=>rfl)) (pa_c (pv 11) pa_nil))))
  (pss_cons (ps_v sc 13 (pe_m (pv 1) C_Tree E_Tree_write hr (pa_c (pv 7) (pa_c (pe_ix ix_list (pe_dget (hu_of hr) (pe_gs hr (pv 2)) (pv 7) (fun _ _=>rfl)) pe_int (fun _ _=>rfl)) (pa_c (pv 12) (pa_c (pe_ix ix_tup (pv 10) pe_int (fun _ _=>rfl)) (pa_c (pe_ix ix_tup (pv 10) pe_int (fun _ _=>rfl)) pa_nil)))))))
  (pss_cons (ps_expr (pe_d E_law_written hr (pa_c (pv 2) (pa_c (pv 7) (pa_c (pv 11) (pa_c (pv 10) pa_nil))))))
  (pss_one (ps_ret (pe_cmpR op_isN (pv 13) pe_non (nomark _))))))))
   pss_nil)
  (pss_cons (ps_if (PW.pt (pw_and (pt_cmpR op_eq (pv 3) pe_int (nomark _)) (pw_and1 (pt_cmpR op_notN (pv 7) pe_non (nomark _)))))
   (pss_cons (ps_v sc 13 (pe_m (pv 1) C_Tree E_Tree_free hr (pa_c (pv 7) (pa_c (pe_ix ix_list (pe_dget (hu_of hr) (pe_gs hr (pv 2)) (pv 7) (fun _ _=>rfl)) pe_int (fun _ _=>rfl)) pa_nil))))
  (pss_cons (ps_expr (pe_d E_law_freed hr (pa_c (pv 2) (pa_c (pv 7) pa_nil))))
  (pss_one (ps_ret (pe_cmpR op_isN (pv 13) pe_non (nomark _))))))
   pss_nil)
  (pss_cons (ps_if (PW.pt (pw_and (pt_cmpR op_eq (pv 3) pe_int (nomark _)) (pw_and1 (pt_cmpR op_notIn_seq (pv 7) (pe_tup (pa_c pe_non (pa_c (pe_gs hr (pv 2)) pa_nil))) (by with_unfolding_all rfl)))))
   (pss_cons (ps_v sc 13 (pe_m (pv 1) C_Tree E_Tree_go hr (pa_c (pv 7) (pa_c (pe_ix ix_list (pe_dget (hu_of hr) (pe_gs hr (pv 2)) (pv 7) (fun _ _=>rfl)) pe_int (fun _ _=>rfl)) pa_nil))))
  (pss_cons (ps_expr (pe_d E_law_gone hr (pa_c (pv 2) (pa_c (pv 7) pa_nil))))
  (pss_one (ps_ret (pe_cmpR op_isN (pv 13) pe_non (nomark _))))))
   pss_nil)
  (pss_cons (ps_if (pt_cmpR op_eq (pv 3) pe_int (nomark _))
   (pss_cons (ps_par (i:=14) (j:=15) rfl sc.nd rfl rfl (by decide) rfl rfl (pa_c (pe_d E_law_one hr (pa_c (pv 0) (pa_c (pe_op op_cat (pe_lst (pa_c (pe_gs hr (pv 2)) pa_nil)) (pe_gs hr (pv 2))) pa_nil))) (pa_c (pe_d E_law_one hr (pa_c (pv 0) (pa_c (pe_gs hr (pv 2)) pa_nil))) pa_nil)) rfl)
  (pss_cons (ps_v sc 16 (pe_cmpR op_eq (pv 14) (pe_gs hr (pv 2)) (nomark _)))
  (pss_cons (ps_if (pt_val (pv 16))
   (pss_one (ps_dput (hu_of hr) (pv 2) pe_str (pv 15) rfl))
   pss_nil)
  (pss_one (ps_ret (pe_cmpR op_eq (pe_callB (call_reprD hr.gd hr.units) rfl T.n_repr bt_repr (pa_c (pe_m (pv 1) C_Tree E_Tree_lead hr (pa_c (pv 14) (pa_c (pv 15) pa_nil))) pa_nil)) (pe_callB (call_reprD hr.gd hr.units) rfl T.n_repr bt_repr (pa_c (pv 16) pa_nil)) (nomark _)))))))
   pss_nil)
  (pss_one (ps_ret (pe_ifExp (pt_cmpR op_eq (pv 3) pe_int (nomark _)) (pe_d E_law_called hr (pa_c (pv 0) (pa_c (pv 1) (pa_c (pv 2) (pa_c (pv 4) pa_nil))))) (pe_d E_law_more hr (pa_c (pv 0) (pa_c (pv 1) (pa_c (pv 2) (pa_c (pv 9) (pa_c (pv 10) pa_nil)))))))))))))))))))))),?_⟩
 walk_at "r"
 refine ⟨p,9,nb,rfl,B,by omega,by decide,by decide,fun way H1 w0 w1 B1 k1=>?_⟩
 walk_at "r"
 refine ⟨p,3,nb + 1,rfl,B1,by omega,by decide,by decide,fun who H2 u0 u1 B2 k2=>?_⟩
 have K2:KB p H H2:=fun b o z n=>k2 b o (k1 b o z n) n
 have sg2:=K2.same sg0 gp
 have hs2:=sg2 _ _ (sS0 _ _ ts.s)
 clear k1 k2 B1 B
 walk_at "r"
 have row:RowAt false H2 la.lu (us.map V.int):=sg2 _ _ (sS0 _ _ ts.u)
 refine comp_f (J:=ItB K false la.lu) (H1:=H2) (us.map V.int) (heldV M) (fun y=>y) (fun R' z=>?_) (it_row row) ?_ ?_ (by rw [List.length_map,lu]; omega) ?_
 ·walk_at "r"
  exact z
 ·intro y hy H4 R' S4 z
  obtain ⟨q,hq,rfl⟩:=List.mem_map.mp hy
  obtain ⟨j,n,rfl,hn,on,_⟩:=ok.at (.inl (ts.pu.mem_iff.mp hq))
  obtain ⟨pj,hpj⟩:∃ p,nd[j]? = some p:=⟨_,List.getElem?_eq_getElem (by rw [tn.l]; exact (List.getElem?_eq_some_iff.mp hn).1)⟩
  obtain ⟨k0,g0,n0,n1,n2⟩:=tn.e j pj n hpj hn
  have hs4:=S4 _ _ hs2
  have e0:=S4 _ _ (sg2 _ _ (sN0 _ _ n0))
  have ev:heldV M (.int j) = n.ho.isSome:=by
   show (hoM M (j:Int)).isSome = _
   unfold hoM
   rw [Int.toNat_natCast,hn]
   rfl
  rw [ev] at z
  walk_at "r"
  refine k_dgetK (k:=Sum.inl (j:Int)) (S4 _ _ (sg2 _ _ (sN0 _ _ tn.d))) (pK_val hpj) ?_
  walk_at "r"
  refine .inl (q_ixL e0 rfl ?_)
  walk_at "r"
  refine ⟨rfl,?_⟩
  rw [oV_non]
  walk_at "r"
  exact z H4 (Same.refl _)
 ·intro y hy _ H4 R' S4 z
  walk_at "r"
  exact z H4 (Same.refl _)
 intro lh H3 fh S3 eh
 rw [List.map_id',List.filter_map] at eh
 change H3 lh = some (.lst ((us.filter fun z=>(hoM M z).isSome).map V.int)) at eh
 have K3:KB p H H3:=fun b o z n=>S3 _ _ (K2 b o z n)
 have B3:=B2.same S3
 have nh:lh ≠ p:=B2.ne fh
 have sg3:=K3.same sg0 gp
 have hs3:=sg3 _ _ (sS0 _ _ ts.s)
 clear hs2 row fh
 have hlM:∀ z ∈ us.filter (fun z=>(hoM M z).isSome),z ∈ M.R.us∧(hoM M z).isSome = true:=fun z hz=>⟨ts.pu.mem_iff.mp (List.mem_filter.mp hz).1,(List.mem_filter.mp hz).2⟩
 have llM:∀ z ∈ us.filter (fun z=>decide (z ∉ us.filter fun z=>(hoM M z).isSome)),z ∈ M.R.us∧hoM M z = none:=fun z hz=>by
  obtain ⟨a1,a2⟩:=List.mem_filter.mp hz
  refine ⟨ts.pu.mem_iff.mp a1,?_⟩
  cases e:hoM M z with
  | none=>rfl
  | some v=>exact absurd (List.mem_filter.mpr ⟨a1,by rw [e]; rfl⟩) (of_decide_eq_true a2)
 have lh1:(us.filter fun z=>(hoM M z).isSome).length ≤ 60:=Nat.le_trans (List.length_filter_le _ _) (by omega)
 have ll1:(us.filter (fun z=>decide (z ∉ us.filter fun z=>(hoM M z).isSome))).length ≤ 60:=Nat.le_trans (List.length_filter_le _ _) (by omega)
 have row3:RowAt false H3 la.lu (us.map V.int):=sg3 _ _ (sS0 _ _ ts.u)
 generalize hhl:us.filter (fun z=>(hoM M z).isSome) = hl at *
 walk_at "r"
 refine comp_f (J:=ItB K false la.lu) (H1:=H3) (us.map V.int) (fun v=>match v with | .int z=>decide (z ∉ hl) | _=>false) (fun y=>y) (fun R' z=>?_) (it_row row3) ?_ ?_ (by rw [List.length_map,lu]; omega) ?_
 ·walk_at "r"
  exact z
 ·intro y hy H4 R' S4 z
  obtain ⟨q,hq,rfl⟩:=List.mem_map.mp hy
  walk_at "r"
  refine ⟨lh,_,rfl,.inl (SqL.of (S4 _ _ eh)),rfl,all_flat,?_⟩
  rw [if_pos rfl,inV_ints]
  walk_at "r"
  have e:=z H4 (Same.refl _)
  rw [show (!decide (q ∈ hl)) = decide (q ∉ hl) by simp]
  exact e
 ·intro y hy _ H4 R' S4 z
  walk_at "r"
  exact z H4 (Same.refl _)
 intro ll H4 fll S4 ell
 rw [List.map_id',List.filter_map] at ell
 change H4 ll = some (.lst ((us.filter fun z=>decide (z ∉ hl)).map V.int)) at ell
 generalize hll:us.filter (fun z=>decide (z ∉ hl)) = lo at *
 have eh4:=S4 _ _ eh
 have nl:ll ≠ p:=B3.ne fll
 have K4:KB p H H4:=fun b o z n=>S4 _ _ (K3 b o z n)
 have B4:=B3.same S4
 clear K2 K3 B2 B3 S3 S4 fll eh sg2 sg3 hs3 row3 hhl hll
 walk_at "r"
 refine ⟨p,lh,nb + 2,hl,rfl,B4,by omega,eh4,nh,by omega,fun pl H5 pn ps k5 B5=>?_⟩
 have K5:KB p H H5:=fun b o z n=>k5 b o (K4 b o z n) n
 have ell5:=k5 _ _ ell nl
 walk_at "r"
 refine ⟨p,ll,nb + 3,lo,rfl,B5,by omega,ell5,nl,by omega,fun spt H6 qn qs k6 B6=>?_⟩
 have K6:KB p H H6:=fun b o z n=>k6 b o (K5 b o z n) n
 clear K4 K5 k5 k6 B4 B5 ell eh4 ell5
 walk_at "r"
 refine ⟨(by show 5 ≤ sizeLine; decide),fun l7 f7=>?_⟩
 have S7:=Same.upd (o:=.lst [.int 0,.int 0,.int 1,.int 2,.int 60]) f7
 have e7:upd H6 l7 (.lst [.int 0,.int 0,.int 1,.int 2,.int 60]) l7 = some (.lst (([0,0,1,2,60]:List Int).map V.int)):=upd_same
 have n7:=B6.ne f7
 generalize upd H6 l7 _ = H7 at *
 walk_at "r"
 refine ⟨p,5,nb + 4,rfl,B6.same S7,by omega,by decide,by decide,fun r8 H8 d0 d1 B8 k8=>?_⟩
 obtain ⟨lv,hlv,elv⟩:=atI_ints (ns:=[0,0,1,2,60]) d0 d1
 refine q_ixL (k8 _ _ e7 n7) elv ?_
 have K8:KB p H H8:=fun b o z n=>k8 b o (S7 _ _ (K6 b o z n)) n
 have lvb:0 ≤ lv∧lv ≤ 60:=by
  simp only [List.mem_cons,List.not_mem_nil,or_false] at hlv
  omega
 have sg8:=K8.same sg0 gp
 have une:us ≠ []:=by
  obtain ⟨q,_,hq⟩:=ok.tp
  intro z
  have:=ts.pu.mem_iff.mpr hq
  rw [z] at this
  cases this
 clear e7 S7 k8 B6 K6 hlv elv f7
 walk_at "r"
 refine ⟨p,st,la.lu,nb + 5,us,_,_,_,_,_,_,_,rfl,B8,by omega,sg8 _ _ (sS0 _ _ ts.s),sg8 _ _ (sS0 _ _ ts.u),nop (sS0 _ _ ts.u),une,by omega,fun et hi rt H9 f9 k9 B9 e9 ed9=>?_⟩
 have K9:KB p H H9:=fun b o z n=>k9 b o (K8 b o z n) n
 have net:et ≠ p:=B8.ne f9
 have fet:H et = none:=kb_back K8 f9 net
 have het:h et = none:=sh.free fet
 have get:uH gN gS et = none:=sg0.free fet
 have ed:EdgeOk M hi rt:=by
  rcases ed9 with z | ⟨k',r',z1,z2,z3,z4⟩
  ·exact .inl z
  ·exact .inr ⟨k',r',z1,z2,z3,ts.pu.mem_iff.mp z4⟩
 have sh9:=K9.same sh hp
 have sg9:=K9.same sg0 gp
 have fin:∀ a' h' gN' g' M' H',Inv c a' h' gN' g' x st M' H'→MOk (b + 1) M'→Stp h gN (uH gN gS) h' gN' g' p H9 H'→Q (.bl true) H':=fun a' h' gN' g' M' H' i o s=>k a' h' gN' g' M' H' i o (s.kb nf0 K9)
 have plM:∀ z,pl = some z→z ∈ M.R.us∧(hoM M z).isSome = true:=fun z e=>by
  by_cases c0:hl = []
  ·rw [pn c0] at e; cases e
  ·obtain ⟨z',e',m'⟩:=ps c0
   rw [e] at e'
   cases Option.some.inj e'
   exact hlM _ m'
 have spM:∀ z,spt = some z→z ∈ M.R.us∧hoM M z = none:=fun z e=>by
  by_cases c0:lo = []
  ·rw [qn c0] at e; cases e
  ·obtain ⟨z',e',m'⟩:=qs c0
   rw [e] at e'
   cases Option.some.inj e'
   exact llM _ m'
 have hx9:=sh9 _ _ t.x
 have hs9:=sg9 _ _ (sS0 _ _ ts.s)
 have nodeOf:∀ z ∈ M.R.us,∃ (j:Nat) (n:ND) (pj k0 g0:Addr),z = (j:Int)∧M.ns[j]? = some n∧NOk b n∧nd[j]? = some pj∧gN pj = some (.lst (lN n k0 g0))∧gN k0 = some (.lst (n.ks.map V.int))∧gN g0 = some (.lst (n.gs.map V.int))∧hoM M z = n.ho:=fun z hz=>by
  obtain ⟨j,n,rfl,hn,on,_⟩:=ok.at (.inl hz)
  obtain ⟨pj,hpj⟩:∃ p,nd[j]? = some p:=⟨_,List.getElem?_eq_getElem (by rw [tn.l]; exact (List.getElem?_eq_some_iff.mp hn).1)⟩
  obtain ⟨k0,g0,n0,n1,n2⟩:=tn.e j pj n hpj hn
  refine ⟨j,n,pj,k0,g0,rfl,hn,on,hpj,n0,n1,n2,?_⟩
  unfold hoM
  rw [Int.toNat_natCast,hn]
  rfl
 have sN9:Same gN H9:=sN0.trans sg9
 have sS9:Same gS H9:=sS0.trans sg9
 clear K8 K9 B8 k9 sg8 k f9 fet ed9 pn ps qn qs hlM llM lh1 ll1
 change tSeq _ _ _ [some (.ref p),some (.ref x),some (.ref st),some (.int way),some (.int who),some (.ref lh),some (.ref ll),some (oV pl),some (oV spt),some (.int lv),some (.ref et),none,none,none,none,none,none] _
 refine s_seq (s_if (r_andB (decide (way < 2)) spt.isSome (fun R z=>?_) (fun R z=>?_) ?_))
 ·walk_at "r"
  exact z
 ·walk_at "r"
  refine ⟨rfl,?_⟩
  rw [oV_non]
  walk_at "r"
  exact z
 by_cases c1:(decide (way < 2) && spt.isSome) = true
 ·rw [if_pos c1]
  rw [Bool.and_eq_true] at c1
  obtain ⟨z,rfl⟩:=Option.isSome_iff_exists.mp c1.2
  obtain ⟨hz,hz0⟩:=spM z rfl
  obtain ⟨j,n,pj,k0,g0,rfl,hn,on,hpj,n0,n1,n2,ho⟩:=nodeOf z hz
  rw [hz0] at ho
  have ewr:n.wr = false:=on.wr ho.symm
  walk_at "r"
  refine k_dgetK (k:=Sum.inl (j:Int)) (sN9 _ _ tn.d) (pK_val hpj) ?_
  walk_at "r"
  refine q_setL (j:=6) (sN9 _ _ n0) rfl ?_
  have el:(lN n k0 g0).set 6 (.int who) = lN { n with ho:=some who,wr:=false } k0 g0:=by
   show [V.int n.lv,.ref k0,.ref g0,oV n.hi,oV n.rt,.int n.ver,.int who,.bl n.gone,.bl n.wr] = _
   rw [ewr]
   rfl
  rw [el]
  have cN:=Chg.mut (o:=.lst (lN { n with ho:=some who,wr:=false } k0 g0)) sN9 n0
  have tn1:=tn.set (n':={ n with ho:=some who,wr:=false }) hpj hn n1 n2
  have cU:=cN.uL ds sS9
  have il1:IsL _ _ st { M with ns:=M.ns.set j { n with ho:=some who,wr:=false } }:=⟨gS,dn,nd,la,us,fs,tp,rfl,cN.dis ds sS9,tn1,ts,htp⟩
  generalize upd H9 pj _ = HA at *
  have shA:=cU.keep d.symm sh9
  have hxA:=shA _ _ t.x
  clear hx9
  walk_at "r"
  refine ⟨a,h,x,M,j,n,who,rfl,t,shA,ok.r,hn,hz,by omega,by omega,by omega,ho.symm,fun a' h' HB t' c'=>?_⟩
  obtain ⟨q1,q2,q3,q4⟩:=two1 d sh9 sg9 cU c' (KI.mut (o:=.lst (lN { n with ho:=some who,wr:=false } k0 g0)) n0)
  walk_at "r"
  refine ⟨rfl,?_⟩
  rw [decide_eq_true rfl]
  exact fin _ _ _ _ _ _ ⟨t',il1,q1,q2,q3⟩ (ok.setN hn ⟨on.lv,on.ks,on.gl,on.gs,on.hi,on.rt,⟨on.ver.1,by have:=on.ver.2; show n.ver ≤ ((b + 1:Nat):Int); omega⟩,fun z e=>by cases Option.some.inj e; omega,fun _=>rfl⟩ (Nat.le_succ b) rfl) (q4 p)
 rw [if_neg c1]
 refine s_next ?_
 refine s_seq (s_if (r_andB (decide (way < 4)) pl.isSome (fun R z=>?_) (fun R z=>?_) ?_))
 ·walk_at "r"
  exact z
 ·walk_at "r"
  refine ⟨rfl,?_⟩
  rw [oV_non]
  walk_at "r"
  exact z
 by_cases c2:(decide (way < 4) && pl.isSome) = true
 ·rw [if_pos c2]
  rw [Bool.and_eq_true] at c2
  obtain ⟨z,rfl⟩:=Option.isSome_iff_exists.mp c2.2
  obtain ⟨hz,hz0⟩:=plM z rfl
  obtain ⟨j,n,pj,k0,g0,rfl,hn,on,hpj,n0,n1,n2,ho⟩:=nodeOf z hz
  rw [ho] at hz0
  obtain ⟨w',hw⟩:=Option.isSome_iff_exists.mp hz0
  have e0:=sN9 _ _ n0
  have wb:=on.ho w' hw
  walk_at "r"
  refine k_dgetK (k:=Sum.inl (j:Int)) (sN9 _ _ tn.d) (pK_val hpj) ?_
  walk_at "r"
  refine ⟨p,n.lv,_,rfl,B9,by omega,fun tt lk lg ks gs HA f1 f2 f3 np k1 B1 ct=>?_⟩
  have shA:=k1.same sh9 hp
  have sgA:=k1.same sg9 gp
  have heA:=k1.get e9 net
  have hsA:=sgA _ _ (sS0 _ _ ts.s)
  have e0A:=sgA _ _ (sN0 _ _ n0)
  clear hx9 hs9 e0
  walk_at "r"
  refine k_dgetK (k:=Sum.inl (j:Int)) (sgA _ _ (sN0 _ _ tn.d)) (pK_val hpj) ?_
  walk_at "r"
  refine ⟨n.lv,tt,lk,lg,ks,gs,rfl,ct,on.lv.1,fun pg dx tk tg HB y1 y2 y3 S2 e1 e2 e3=>?_⟩
  have sgB:=sgA.trans S2
  obtain ⟨h2,ch2,pg2,ext⟩:=Pg.add (cp:=c.pg) (lv:=n.lv) (ks:=ks) (gs:=gs) (Chg.same shA S2) y1 y2 y3 e1 e2 e3
  have d2:=ch2.dis d sgA
  have t2:IsT c a h2 x M:=t.same fun b o z=>ext b o z
  have hxB:=ch2.sm _ _ t2.x
  have heB:=S2 _ _ heA
  have hsB:=S2 _ _ hsA
  have e0B:=S2 _ _ e0A
  have out2:∀ {b o},HA b = some o→h b = none→h2 b = none:=fun e n=>ch2.out n e
  clear hsA e0A
  walk_at "r"
  refine k_dgetK (k:=Sum.inl (j:Int)) (sgB _ _ (sN0 _ _ tn.d)) (pK_val hpj) ?_
  walk_at "r"
  refine ⟨a,h2,x,M,j,n,w',pg,ks,gs,hi,rt,(by rw [show (V.int w') = oV n.ho by rw [hw]; rfl]; rfl),t2,ch2.sm,ok.r,hn,hz,by omega,by omega,by omega,hw,pg2,ed,fun a3 h3 HC t3 c3=>?_⟩
  have sgC:=c3.keep d2 sgB
  have o2:∀ {b o},HA b = some o→h b = none→HC b = some o:=fun e n=>c3.get (out2 e n) (S2 _ _ e)
  have hn':∀ {b},H9 b = none→h b = none:=fun f=>sh9.free f
  have gn':∀ {b},H9 b = none→uH gN gS b = none:=fun f=>sg9.free f
  have heC:=o2 heA het
  walk_at "r"
  refine ⟨_,_,st,M,j,n,tt,lk,lg,et,ks,gs,hi,rt,rfl,il,sgC,hn,⟨o2 ct.t (hn' f1),o2 ct.k (hn' f2),o2 ct.g (hn' f3),ct.ok,ct.og,ct.gb⟩,heC,gn' f2,gn' f3,fun gN4 g4 HD il4 c4 ki=>?_⟩
  have c13:=ch2.trans c3
  obtain ⟨q1,q2,q3,q4⟩:=two2 d shA sgA c13 c4 ki
  walk_at "r"
  refine ⟨rfl,?_⟩
  rw [decide_eq_true rfl]
  exact fin _ _ _ _ _ _ ⟨t3,il4,q1,q2,q3⟩ (ok.setN hn ((NOk.cont ok (by omega) ct ed on.lv.1 on.lv.2 on.ver (fun z e=>on.ho z e) fun e=>by rw [hw] at e; cases e).mono (Nat.le_succ b)) (Nat.le_succ b) rfl) ((q4 p).kb B9.nfz k1)
 rw [if_neg c2]
 refine s_next ?_
 refine s_seq (s_if (r_andB (decide (V.int way = V.int 4)) pl.isSome (fun R z=>?_) (fun R z=>?_) ?_))
 ·walk_at "r"
  exact z
 ·walk_at "r"
  refine ⟨rfl,?_⟩
  rw [oV_non]
  walk_at "r"
  exact z
 by_cases c3:(decide (V.int way = V.int 4) && pl.isSome) = true
 ·rw [if_pos c3]
  rw [Bool.and_eq_true] at c3
  obtain ⟨z,rfl⟩:=Option.isSome_iff_exists.mp c3.2
  obtain ⟨hz,hz0⟩:=plM z rfl
  obtain ⟨j,n,pj,k0,g0,rfl,hn,on,hpj,n0,n1,n2,ho⟩:=nodeOf z hz
  rw [ho] at hz0
  obtain ⟨w',hw⟩:=Option.isSome_iff_exists.mp hz0
  have e0:=sN9 _ _ n0
  have wb:=on.ho w' hw
  walk_at "r"
  refine k_dgetK (k:=Sum.inl (j:Int)) (sN9 _ _ tn.d) (pK_val hpj) ?_
  walk_at "r"
  refine ⟨a,h,x,M,j,n,w',(by rw [show (V.int w') = oV n.ho by rw [hw]; rfl]; rfl),t,sh9,ok.r,hn,hz,by omega,by omega,by omega,hw,fun a3 h3 HC t3 c3'=>?_⟩
  have sgC:=c3'.keep d sg9
  walk_at "r"
  refine ⟨_,_,st,M,j,n,rfl,il,sgC,hn,fun gN4 g4 HD il4 c4 ki=>?_⟩
  obtain ⟨q1,q2,q3,q4⟩:=two2 d sh9 sg9 c3' c4 ki
  walk_at "r"
  refine ⟨rfl,?_⟩
  rw [decide_eq_true rfl]
  refine fin _ _ _ _ _ _ ⟨t3,il4,q1,q2,q3⟩ (ok.setN hn ⟨on.lv,on.ks,on.gl,on.gs,on.hi,on.rt,?_,fun z e=>(by cases e),fun _=>rfl⟩ (Nat.le_succ b) rfl) (q4 p)
  have v1:=on.ver.1
  have v2:=on.ver.2
  show 0 ≤ n.ver + (if n.wr then 1 else 0)∧n.ver + (if n.wr then 1 else 0) ≤ ((b + 1:Nat):Int)
  split <;> omega
 rw [if_neg c3]
 refine s_next ?_
 refine s_join (fun σ1 H1=>σ1 = [some (.ref p),some (.ref x),some (.ref st),some (.int way),some (.int who),some (.ref lh),some (.ref ll),some (oV pl),some (oV spt),some (.int lv),some (.ref et),none,none,none,none,none,none]∧Same H9 H1) (fun N z=>?_) ?_
 ·refine s_if (r_and ?_)
  walk_at "r"
  refine ite2 (fun c4=>?_) (fun _=>?_)
  ·walk_at "r"
   refine ⟨(by show 2 ≤ sizeLine; decide),fun lt ft=>?_⟩
   have St:=Same.upd (o:=.tup [.non,.int tp]) ft
   have et':upd H9 lt (.tup [.non,.int tp]) lt = some (.tup [.non,.int tp]):=upd_same
   generalize upd H9 lt _ = HT at *
   walk_at "r"
   refine ⟨lt,_,rfl,.inr (SqT.of et'),(by cases pl <;> rfl),rfl,?_⟩
   rw [if_pos rfl]
   walk_at "r"
   have shT:=sh9.trans St
   have sgT:=sg9.trans St
   cases pl with
   | none=>
    refine iteE (c:=false) rfl (iteF ?_)
    walk_at "r"
    exact z _ _ ⟨rfl,St⟩
   | some zz=>
    have ein:inV (.int zz) [.non,.int tp] = decide (tp = zz):=by
     show (false || ((tp == zz) || false)) = _
     by_cases q:tp = zz
     ·subst q; simp
     ·simp [q]
    by_cases c5:tp = zz
    ·refine iteE (c:=false) (by show (!inV (.int zz) [.non,.int tp]) = false; rw [ein,decide_eq_true c5]; rfl) (iteF ?_)
     walk_at "r"
     exact z _ _ ⟨rfl,St⟩
    ·refine iteE (c:=true) (by show (!inV (.int zz) [.non,.int tp]) = true; rw [ein,decide_eq_false c5]; rfl) (iteT ?_)
     obtain ⟨hz,hz0⟩:=plM zz rfl
     obtain ⟨j,n,pj,k0,g0,rfl,hn,on,hpj,n0,n1,n2,ho⟩:=nodeOf zz hz
     rw [ho] at hz0
     obtain ⟨w',hw⟩:=Option.isSome_iff_exists.mp hz0
     have e0:=sgT _ _ (sN0 _ _ n0)
     have hxT:=shT _ _ t.x
     have hsT:=St _ _ hs9
     have wb:=on.ho w' hw
     have lc:=ok.cs
     clear hx9 hs9
     walk_at "r"
     refine k_dgetK (k:=Sum.inl (j:Int)) (sgT _ _ (sN0 _ _ tn.d)) (pK_val hpj) ?_
     walk_at "r"
     refine ⟨a,h,x,M,j,n,w',(by rw [show (V.int w') = oV n.ho by rw [hw]; rfl]; rfl),t,shT,ok.r,hn,hz,by omega,by omega,by omega,hw,by omega,by omega,⟨tp,htp,Ne.symm c5⟩,fun a3 h3 HC t3 c3'=>?_⟩
     have sgC:=c3'.keep d sgT
     walk_at "r"
     refine ⟨_,_,st,M,j,n,rfl,il,sgC,hn,ok.r,hz,by omega,by omega,fun gN4 g4 HD il4 c4' ki=>?_⟩
     obtain ⟨q1,q2,q3,q4⟩:=two2 d shT sgT c3' c4' ki
     walk_at "r"
     refine ⟨rfl,?_⟩
     rw [decide_eq_true rfl]
     exact fin _ _ _ _ _ _ ⟨t3,il4,q1,q2,q3⟩ (ok.gone hn hz ⟨on.lv,on.ks,on.gl,on.gs,on.hi,on.rt,⟨by have:=on.ver.1; show 0 ≤ n.ver + 1; omega,by have:=on.ver.2; show n.ver + 1 ≤ ((b + 1:Nat):Int); omega⟩,fun z e=>(by cases e),fun _=>rfl⟩ rfl ⟨tp,htp,Ne.symm c5⟩) ((q4 p).same St)
  ·walk_at "r"
   exact z _ _ ⟨rfl,Same.refl _⟩
 rintro σ1 H1 ⟨rfl,S1⟩
 have sh1:=sh9.trans S1
 have sg1:=sg9.trans S1
 have B1:=B9.same S1
 have nf1:=B1.nfz
 have e1:=S1 _ _ e9
 have hx1:=S1 _ _ hx9
 have hs1:=S1 _ _ hs9
 have fin1:∀ a' h' gN' g' M' H',Inv c a' h' gN' g' x st M' H'→MOk (b + 1) M'→Stp h gN (uH gN gS) h' gN' g' p H1 H'→Q (.bl true) H':=fun a' h' gN' g' M' H' i o s=>fin a' h' gN' g' M' H' i o (s.same S1)
 have tpu:tp ∈ M.R.us:=by
  obtain ⟨q,e,hq⟩:=ok.tp
  rw [htp] at e
  cases Option.some.inj e
  exact hq
 have okb:∀ v:Bool,Okd 100000 (.bool v):=fun v=>⟨rfl,rfl,by simp [PyData.depth],by simp [PyData.weight]⟩
 clear fin sh9 sg9 B9 e9 hx9 hs9 S1 sN9 sS9 nodeOf plM spM c1 c2 c3
 refine s_seq (s_if ?_)
 walk_at "r"
 refine ite2 (fun c6=>?_) (fun c6=>?_)
 ·walk_at "r"
  refine ⟨(by show 1 ≤ sizeLine; decide),fun l2 f2=>?_⟩
  have S2:=Same.upd (o:=.lst [.int tp]) f2
  have e2:upd H1 l2 (.lst [.int tp]) l2 = some (.lst [.int tp]):=upd_same
  generalize upd H1 l2 _ = H2 at *
  have hs2:=S2 _ _ hs1
  walk_at "r"
  refine q_cat e2 (S2 _ _ (sg1 _ _ (sS0 _ _ ts.u))) (by rw [List.length_map]; show 1 + _ ≤ _; omega) fun l3 f3=>?_
  rw [show [V.int tp] ++ us.map V.int = (tp :: us).map V.int from rfl]
  have S3:=Same.upd (o:=.lst ((tp :: us).map V.int)) f3
  have e3:upd H2 l3 (.lst ((tp :: us).map V.int)) l3 = some (.lst ((tp :: us).map V.int)):=upd_same
  generalize upd H2 l3 _ = H3 at *
  have S13:=S2.trans S3
  have B3:=B1.same S13
  have n3:l3 ≠ p:=(B1.same S2).ne f3
  walk_at "r"
  refine ⟨p,l3,_,tp :: us,rfl,B3,by omega,e3,n3,by rw [List.length_cons]; omega,fun old H4 _ os k4 B4=>?_⟩
  obtain ⟨o0,rfl,ho⟩:=os (fun z=>nomatch z)
  have K4:KB p H1 H4:=fun b o z n=>k4 b o (S13 _ _ z) n
  have sg4:=K4.same sg1 gp
  have hs4:=sg4 _ _ (sS0 _ _ ts.s)
  clear hs1 hs2 e2 e3 B1 B3
  walk_at "r"
  refine ⟨p,la.lu,_,us,rfl,B4,by omega,sg4 _ _ (sS0 _ _ ts.u),nop (sS0 _ _ ts.u),by omega,fun new H5 _ nws k5 B5=>?_⟩
  obtain ⟨p0,rfl,hp0⟩:=nws une
  have K5:KB p H1 H5:=fun b o z n=>k5 b o (K4 b o z n) n
  have sh5:=K5.same sh1 hp
  have sg5:=K5.same sg1 gp
  have hs5:=sg5 _ _ (sS0 _ _ ts.s)
  have hx5:=sh5 _ _ t.x
  have ho':o0 ∈ M.R.us:=by
   rcases List.mem_cons.mp ho with rfl | z
   ·exact tpu
   ·exact ts.pu.mem_iff.mp z
  have hp0':=ts.pu.mem_iff.mp hp0
  clear hs4 hx1 K4 B4
  walk_at "r"
  by_cases c7:o0 = tp
  ·have edc:decide (oV (some o0) = V.int tp) = true:=decide_eq_true (congrArg V.int c7)
   rw [edc]
   refine iteT ?_
   walk_at "r"
   refine k_dputS (kvs':=stK M.most p0 dn la.lu la.lk la.lf la.lc M.R.lap) hs5 st_lt sp_top ?_
   have sN5:Same gN H5:=sN0.trans sg5
   have sS5:Same gS H5:=sS0.trans sg5
   have cS:=Chg.mut (o:=.dK (stK M.most p0 dn la.lu la.lk la.lf la.lc M.R.lap)) sS5 ts.s
   have ts1:=ts.setTop p0
   have cU:=cS.uR ds sN5
   have il1:IsL _ _ st { M with top:=some p0 }:=⟨_,dn,nd,la,us,fs,p0,rfl,(cS.dis ds.symm sN5).symm,tn,ts1,rfl⟩
   generalize upd H5 st _ = H6 at *
   have sh6:=cU.keep d.symm sh5
   have hx6:=sh6 _ _ t.x
   clear hx5 hs5
   walk_at "r"
   refine ⟨a,h,x,M,o0,p0,tp,rfl,t,sh6,ok.r,ho',hp0',htp,fun n=>absurd c7 n,fun _ h' H7 t7 c7'=>?_⟩
   obtain ⟨q1,q2,q3,q4⟩:=two1 d sh5 sg5 cU c7' (KI.refl (k:=gN))
   walk_at "r"
   obtain ⟨shw,esh⟩:∃ s,(PyData.bool true).shown = s:=⟨_,rfl⟩
   refine ⟨_,(fun _=>False),_,rfl,.bl true,okb true,?_⟩
   rw [esh]
   walk_at "r"
   refine ⟨_,(fun _=>False),_,rfl,.bl true,okb true,?_⟩
   rw [esh]
   clear esh
   walk_at "r"
   rw [decide_eq_true rfl]
   exact fin1 _ _ _ _ _ _ ⟨t7,il1,q1,q2,q3⟩ ((ok.lead hp0').mono (Nat.le_succ b)) ((q4 p).kb nf1 K5)
  ·have edc:decide (oV (some o0) = V.int tp) = false:=decide_eq_false (fun z=>c7 (V.int.inj z))
   rw [edc]
   refine iteF ?_
   walk_at "r"
   refine ⟨a,h,x,M,o0,p0,tp,rfl,t,sh5,ok.r,ho',hp0',htp,fun _=>?_,fun e=>absurd e c7⟩
   walk_at "r"
   obtain ⟨shw,esh⟩:∃ s,(PyData.bool false).shown = s:=⟨_,rfl⟩
   refine ⟨_,(fun _=>False),_,rfl,.bl false,okb false,?_⟩
   rw [esh]
   walk_at "r"
   refine ⟨_,(fun _=>False),_,rfl,.bl false,okb false,?_⟩
   rw [esh]
   clear esh
   walk_at "r"
   rw [decide_eq_true rfl]
   exact fin1 _ _ _ _ _ _ ⟨t,il,d,sh5,sg5⟩ (ok.mono (Nat.le_succ b)) ⟨fun b' o' z n1 n2 n3=>⟨K5 b' o' z n3,n1,n2⟩,fun b' o' e f=>K5 b' o' e fun y=>(by rw [y] at e; rw [nf1 _ e] at f; cases f),.refl⟩
 refine s_next ?_
 walk_at "r"
 refine ite2 (fun c7=>?_) (fun c7=>?_)
 ·walk_at "r"
  exact ⟨a,h,_,_,x,st,M,b,_,who,rfl,⟨t,il,d,sh1,sg1⟩,ok,b45,u0,by omega,fun a' h' gN' g' M' H' i o s=>fin1 a' h' gN' g' M' H' i o (s p)⟩
 ·walk_at "r"
  exact ⟨a,h,_,_,x,st,M,b,p,et,_,lv,hi,rt,rfl,⟨t,il,d,sh1,sg1⟩,ok,b45,B1,by omega,hp,gp,lvb.1,lvb.2,e1,het,get,net,ed,fin1⟩
end
def frz (h:Hp):Hp:=fun b=>match h b with | some o=>if FZ o = true then some o else none | none=>none
theorem frz_of {h:Hp} {b:Addr} {o:HO} (e:frz h b = some o):h b = some o∧FZ o = true:=by
 unfold frz at e
 cases q:h b with
 | none=>rw [q] at e; cases e
 | some x=>
  rw [q] at e
  dsimp only at e
  by_cases c:FZ x = true
  ·rw [if_pos c] at e; cases e; exact ⟨rfl,c⟩
  ·rw [if_neg c] at e; cases e
theorem frz_at {h:Hp} {b:Addr} {o:HO} (e:h b = some o) (f:FZ o = true):frz h b = some o:=by
 unfold frz
 rw [e]
 exact if_pos f
theorem uH_in {g k H:Hp} {b:Addr} {o:HO} (sg:Same g H) (sk:Same k H) (e:k b = some o):uH g k b = some o:=by
 cases q:g b with
 | none=>rw [uH_r q]; exact e
 | some x=>rw [uH_l q,← sg _ _ q]; exact sk _ _ e
theorem IsN.frz {c:Cs} {h:Hp} {p:Addr} {n:ND} (i:IsN c h p n):IsN c (frz h) p n:=by
 obtain ⟨dp,pg,e,dx,tk,tg,e1,e2,e3⟩:=i
 exact ⟨dp,pg,frz_at e rfl,dx,tk,tg,frz_at e1 rfl,frz_at e2 rfl,frz_at e3 rfl⟩
section
variable {P:Program} {w:World} {K:PySem.W.Frag} {mg:Str→Option Value} {base:Heap} {c:Cs}
def spTT (c:Cs):Sp:=fun vs H Q _=>∃ (a:TA) (h:Hp) (x:Addr) (M:MS) (tp:Int),vs = [.ref x]∧IsT c a h x M∧Same h H∧2 ≤ M.most∧M.most ≤ 5∧M.top = some tp ∧
 ∀ x' a' h' H',Same H H'→IsT c a' h' x' M→Same h' H'→(∀ b o,h' b = some o→H b = none∨h b = some o∧FZ o = true)→Q (.ref x') H'
theorem ok_T_twin (F:Fx P w K mg base c):MtOk P w K mg base CX0 c.T "twin" ["self"] 13 (spTT c):=by
 obtain ⟨f,fd,XTree⟩:=F.TX
 have C_Rounds:=F.cR
 have T:=F.r.T
 have GTree:=ok_T_init F XTree
 have E_Rounds_twin:=ok_rtwin F
 have C_Tree:=XTree.cl
 refine F.r.T_twin.ok (N:=["self","other"]) XTree.m fun sc H Q hr h=>?_
 obtain ⟨a,h,x,M,tp,rfl,t,s,b0,b1,htp,k⟩:=h
 have cl:=XTree.cl
 have n1:=XTree.n1
 have n2:=XTree.n2
 have n3:=XTree.n3
 have n4:=XTree.n4
 have n5:=XTree.n5
 have hx:=s _ _ t.x
 rw [htp] at hx
 refine' ⟨_,(pss_cons (ps_v sc 1 (pe_make XTree.mak GTree (hr.mono (by decide)) rfl XTree.m XTree.bi .nil pass0 (pa_c (pe_fld (pv 0) rfl) pa_nil)))
  (pss_cons (ps_fld (pv 1) (pe_m0 (pe_fld (pv 0) rfl) C_Rounds E_Rounds_twin hr) rfl)
  (pss_cons (ps_fld (pv 1) (pe_callTy call_dictD rfl T.n_dict bt_dict (pa_c (pe_fld (pv 0) rfl) pa_nil)) rfl)
  (pss_cons (ps_fld (pv 1) (pe_callTy call_dictD rfl T.n_dict bt_dict (pa_c (pe_fld (pv 0) rfl) pa_nil)) rfl)
  (pss_cons (ps_fld (pv 1) (pe_fld (pv 0) rfl) rfl)
  (pss_one (ps_ret (pv 1)))))))),?_⟩
 walk_at "r"
 intro z dz fz fdz nzd
 refine ⟨z,dz,M.most,rfl,upd_same,b0,b1,fun a0 h0 H2 t0 s0 nw0 bt0=>⟨rfl,?_⟩⟩
 have k0:Keep [z] H H2:=fun b o e n=>bt0 b o (new_ins fz fdz e) (by simpa using n)
 have nz:∀ {b:Addr} {o:HO},H b = some o→b ≠ z:=fun e=>ne_of_none e fz
 have old:∀ {H2:Hp} {b:Addr} {o:HO},Keep [z] H H2→H b = some o→H2 b = some o:=fun k e=>k _ _ e (by simp [nz e])
 have ez:H2 z = some (.ins c.T a0.dx (tF M.most a0.r a0.dn a0.dv (some 0))):=s0 _ _ t0.x
 clear nw0 bt0 t0 s0
 have hx2:=old k0 hx
 have hR2:=t.r.same fun b o e=>old k0 (s _ _ e)
 have hr2:=hR2.x
 walk_at "r"
 refine ⟨a.r,a.dr,a.du,a.dk,a.df,a.dc,M.R,rfl,hR2,fun y dy du dk df dc H3 fy fb S3 r3=>?_⟩
 have ez3:=S3 _ _ ez
 have ny:y ≠ z:=(ne_of_none ez fy).symm
 have nb:∀ b ∈ [y,du,dk,df,dc],b ∉ [z]:=fun b hb q=>by
  cases List.mem_singleton.mp q
  rcases List.mem_cons.mp hb with e | hb
  ·exact ny e.symm
  ·rw [fb _ hb] at ez; cases ez
 have fr:∀ b ∈ [y,du,dk,df,dc],H b = none:=fun b hb=>by
  refine k0.free ?_ (nb b hb)
  rcases List.mem_cons.mp hb with e | hb
  ·rw [e]; exact fy
  ·exact fb _ hb
 walk_at "r"
 have k4:Keep [z] H (upd H3 z (.ins c.T a0.dx (tF M.most y a0.dn a0.dv (some 0)))):=fun b o e n=>by
  rw [upd_ne (by simpa using n)]; exact S3 _ _ (k0 b o e n)
 have r4:=r3.keep (l:=[z]) (H':=upd H3 z (.ins c.T a0.dx (tF M.most y a0.dn a0.dv (some 0)))) (fun b o e n=>by rw [upd_ne (by simpa using n)]; exact e) nb
 have ez4:upd H3 z (.ins c.T a0.dx (tF M.most y a0.dn a0.dv (some 0))) z = some (.ins c.T a0.dx (tF M.most y a0.dn a0.dv (some 0))):=upd_same
 have fA:putF "own_rounds" (.ref y) (tF M.most a0.r a0.dn a0.dv (some 0)) = tF M.most y a0.dn a0.dv (some 0):=rfl
 rw [fA]
 generalize upd H3 z _ = H4 at *
 have hx4:=old k4 hx
 clear hx2 hr2 ez3
 walk_at "r"
 refine ⟨a.dn,_,rfl,.inl (old k4 (s _ _ t.n)),fun l1 f1=>?_⟩
 walk_at "r"
 obtain ⟨g1,m1,k5,ez5,e1,o5⟩:=cp_fld (o:=.dK (pK a.nd V.ref)) (fs':=putF "nodes" (.ref l1) (tF M.most y a0.dn a0.dv (some 0))) k4 fz ez4 f1
 have v1:l1 ∉ [du,dk,df,dc]:=fun q=>by
  simp only [List.mem_cons,List.not_mem_nil,or_false] at q
  rcases q with rfl | rfl | rfl | rfl
  ·rw [r4.u] at f1; cases f1
  ·rw [r4.k] at f1; cases f1
  ·rw [r4.f] at f1; cases f1
  ·rw [r4.c] at f1; cases f1
 have r5:=r4.keep (l:=[z]) (fun b o e n=>o5 b o e (by simpa using n)) nb
 generalize upd (upd H4 l1 _) z _ = H5 at *
 replace ez5:H5 z = some (.ins c.T a0.dx (tF M.most y l1 a0.dv (some 0))):=ez5
 have hx5:=old k5 hx
 clear hx4 ez4
 walk_at "r"
 refine ⟨a.dv,_,rfl,.inl (old k5 (s _ _ t.v)),fun l2 f2=>?_⟩
 walk_at "r"
 obtain ⟨g2,m2,k6,ez6,e2,o6⟩:=cp_fld (o:=.dK (pK M.ns fun n=>V.int n.ver)) (fs':=putF "versions" (.ref l2) (tF M.most y l1 a0.dv (some 0))) k5 fz ez5 f2
 have v2:l2 ∉ [du,dk,df,dc]:=fun q=>by
  simp only [List.mem_cons,List.not_mem_nil,or_false] at q
  rcases q with rfl | rfl | rfl | rfl
  ·rw [r5.u] at f2; cases f2
  ·rw [r5.k] at f2; cases f2
  ·rw [r5.f] at f2; cases f2
  ·rw [r5.c] at f2; cases f2
 have d12:l1 ≠ l2:=ne_of_none e1 f2
 replace e1:=o6 _ _ e1 m1
 have r6:=r5.keep (l:=[z]) (fun b o e n=>o6 b o e (by simpa using n)) nb
 generalize upd (upd H5 l2 _) z _ = H6 at *
 replace ez6:H6 z = some (.ins c.T a0.dx (tF M.most y l1 l2 (some 0))):=ez6
 have hx6:=old k6 hx
 clear hx5 ez5
 walk_at "r"
 have k7:=k6.upd (q:=z) (o:=.ins c.T a0.dx (tF M.most y l1 l2 (some tp))) (by simp)
 have r7:=r6.keep (l:=[z]) (H':=upd H6 z (.ins c.T a0.dx (tF M.most y l1 l2 (some tp)))) (fun b o e n=>by rw [upd_ne (by simpa using n)]; exact e) nb
 have ez7:upd H6 z (.ins c.T a0.dx (tF M.most y l1 l2 (some tp))) z = some (.ins c.T a0.dx (tF M.most y l1 l2 (some tp))):=upd_same
 have e17:upd H6 z (.ins c.T a0.dx (tF M.most y l1 l2 (some tp))) l1 = _:=(upd_ne m1).trans e1
 have e27:upd H6 z (.ins c.T a0.dx (tF M.most y l1 l2 (some tp))) l2 = _:=(upd_ne m2).trans e2
 have fB:putF "top_place" (.int tp) (tF M.most y l1 l2 (some 0)) = tF M.most y l1 l2 (some tp):=rfl
 rw [fB]
 generalize upd H6 z _ = H7 at *
 have S7:Same H H7:=fun b o e=>old k7 e
 have sf:Same (frz h) H7:=fun b o e=>S7 _ _ (s _ _ (frz_of e).1)
 have sL:Same (rsL [z,y,du,dk,df,dc,l1,l2] H7) H7:=rsL_same
 have inL:∀ {b:Addr} {o:HO},b ∈ [z,y,du,dk,df,dc,l1,l2]→H7 b = some o→uH (rsL [z,y,du,dk,df,dc,l1,l2] H7) (frz h) b = some o:=fun m e=>uH_l (by rw [rsL_at m]; exact e)
 have sh:Same (frz h) (uH (rsL [z,y,du,dk,df,dc,l1,l2] H7) (frz h)):=fun b o e=>uH_in sL sf e
 refine k z ⟨a0.dx,y,dy,du,dk,df,dc,l1,l2,a.nd⟩ _ H7 S7 ⟨?_,⟨inL (by simp) r7.x,inL (by simp) r7.u,inL (by simp) r7.k,inL (by simp) r7.f,inL (by simp) r7.c,r7.nd⟩,inL (by simp) e17,inL (by simp) e27,t.l,fun j p n q1 q2=>(t.e j p n q1 q2).frz.same sh,⟨v1,v2,d12⟩,Ne.symm ny⟩ (uH_same sL sf) fun b o e=>?_
 ·rw [htp]; exact inL (by simp) ez7
 ·cases q:rsL [z,y,du,dk,df,dc,l1,l2] H7 b with
  | none=>rw [uH_r q] at e; exact .inr (frz_of e)
  | some u=>
   have m:=rsL_in (l:=[z,y,du,dk,df,dc,l1,l2]) (H:=H7) (b:=b) (by rw [q]; exact fun z=>nomatch z)
   rcases List.mem_cons.mp m with rfl | m
   ·exact .inl fz
   ·rw [show [y,du,dk,df,dc,l1,l2] = [y,du,dk,df,dc] ++ [l1,l2] from rfl] at m
    rcases List.mem_append.mp m with m | m
    ·exact .inl (fr _ m)
    ·simp only [List.mem_cons,List.not_mem_nil,or_false] at m
     rcases m with rfl | rfl
     ·exact .inl g1
     ·exact .inl g2
end
theorem comp_copy {K:PySem.W.Frag} {js:List Nat} {te to:TE} {σ:St} {H:Hp} {Q:VK} {d:Addr} {nd:List Addr} {Ls:List (List V)} (hto:∀ R:VK,R (.ref d) H→to σ H R) (hd:H d = some (.dK (pK nd V.ref))) (hz:nd.length ≤ 1000) (hL:Ls.length = nd.length)
  (hn:∀ (j:Nat) p L,nd[j]? = some p→Ls[j]? = some L→H p = some (.lst L))
  (he:∀ (j:Nat) p L H2 (Z:VK),H2 p = some (.lst L)→(∀ l t,H2 l = none→upd H2 l (.lst L) t = none→Z (.ref t) (upd (upd H2 l (.lst L)) t (.tup [.int j,.ref l])))→te (blkSt2 js σ (some (.int j)) (some (.ref p))) H2 Z)
  (q:∀ D H' (ts ls:List Addr),H D = none→Same H H'→H' D = some (.lst (ts.map V.ref))→ts.length = nd.length→ls.length = nd.length→ls.Nodup →
   (∀ (j:Nat) t l L,ts[j]? = some t→ls[j]? = some l→Ls[j]? = some L→H' t = some (.tup [.int j,.ref l])∧H' l = some (.lst L)∧H l = none)→Q (.ref D) H') :
  tThaw (tComp2 K js (iItems to) (fun _ H Q=>Q true H) te) σ H Q:=by
 refine ⟨d,_,hd,(fun _ _ z=>nomatch z),hto _ ⟨d,pK nd V.ref,rfl,hd,fun ob D hD=>?_⟩⟩
 have dD:D ≠ d:=fun e=>by rw [e,upd_same] at hD; cases hD
 have fD:H D = none:=by rw [upd_ne dD] at hD; exact hD
 refine ⟨fun i m H2=>i + m = nd.length∧(∀ b o,H b = some o→b ≠ d→H2 b = some o)∧H2 d = some (.frz ob (.dK (pK nd V.ref)))∧∃ ts ls:List Addr,H2 D = some (.lst (ts.map V.ref))∧ts.length = i∧ls.length = i∧ls.Nodup∧(∀ (j:Nat) t l L,ts[j]? = some t→ls[j]? = some l→Ls[j]? = some L→H2 t = some (.tup [.int j,.ref l])∧H2 l = some (.lst L)∧H l = none∧l ≠ D),
  ⟨nd.length,by omega,fun b o e n=>?_,?_,[],[],upd_same,rfl,rfl,.nil,fun j t l L e=>by cases e⟩,?_⟩
 ·rw [upd_ne (ne_of_none e fD),upd_ne n]; exact e
 ·rw [upd_ne (Ne.symm dD),upd_same]
 rintro i m H2 ⟨hm,k2,ed,ts,ls,eD,lt,ll,nl,al⟩
 by_cases hi:i < nd.length
 ·refine .inr ⟨⟨ed,by rw [pK_len]; exact hi⟩,?_⟩
  rintro v H3 ⟨t0,k0,x0,rfl,f0,e0,rfl⟩
  rw [pK_at,List.getElem?_eq_getElem hi] at e0
  cases e0
  have hp:=List.getElem?_eq_getElem hi
  have hLi:i < Ls.length:=by omega
  have eL:=List.getElem?_eq_getElem hLi
  generalize nd[i] = p at *
  generalize Ls[i] = L at *
  have S0:Same H2 (upd H2 t0 (.tup [kV (Sum.inl (i:Int)),.ref p])):=Same.upd f0
  have up:upd H2 t0 (.tup [kV (Sum.inl (i:Int)),.ref p]) t0 = some (.tup [.int i,.ref p]):=upd_same
  generalize upd H2 t0 _ = H3 at *
  have hpd:p ≠ d:=fun e=>by rw [e] at hp; have:=hn i d L hp eL; rw [hd] at this; cases this
  refine ⟨t0,_,_,rfl,SqT.of up,iteT (he i p L H3 _ (S0 _ _ (k2 _ _ (hn i p L hp eL) hpd)) fun l t fl ft=>?_)⟩
  have S1:Same H3 (upd H3 l (.lst L)):=Same.upd fl
  have el:upd H3 l (.lst L) l = some (.lst L):=upd_same
  generalize upd H3 l _ = H4 at *
  have S2:Same H4 (upd H4 t (.tup [.int i,.ref l])):=Same.upd ft
  have et:upd H4 t (.tup [.int i,.ref l]) t = some (.tup [.int i,.ref l]):=upd_same
  generalize upd H4 t _ = H5 at *
  have S3:=(S0.trans S1).trans S2
  have back:∀ {b},H2 b = none→H b = none:=fun {b} f=>by
   cases c:H b with
   | none=>rfl
   | some o=>
    by_cases e:b = d
    ·rw [e,ed] at f; cases f
    ·rw [k2 b o c e] at f; cases f
  have fl2:=S0.free fl
  have lD:l ≠ D:=fun e=>by rw [e,eD] at fl2; cases fl2
  have tD:t ≠ D:=fun e=>by rw [e] at ft; have:=S1.free ft; rw [S0 _ _ eD] at this; cases this
  have tl:t ≠ l:=fun e=>by rw [e,el] at ft; cases ft
  refine ⟨_,S3 _ _ eD,by rw [List.length_map]; have:=big1000; omega,m - 1,by omega,by omega,fun b o e n=>?_,?_,ts ++ [t],ls ++ [l],by rw [upd_same,List.map_append]; rfl,by simp [lt],by simp [ll],?_,?_⟩
  ·rw [upd_ne (ne_of_none e fD)]; exact S3 _ _ (k2 b o e n)
  ·rw [upd_ne (Ne.symm dD)]; exact S3 _ _ ed
  ·rw [List.nodup_append]
   refine ⟨nl,by simp,fun a ha b hb e=>?_⟩
   rw [List.mem_singleton.mp hb] at e
   subst e
   obtain ⟨j,hj,ej⟩:=List.getElem_of_mem ha
   have h1:ls[j]? = some a:=by rw [List.getElem?_eq_getElem hj,ej]
   have hj1:j < ts.length:=by omega
   have hj2:j < Ls.length:=by omega
   have:=(al j _ a _ (List.getElem?_eq_getElem hj1) h1 (List.getElem?_eq_getElem hj2)).2.1
   rw [fl2] at this; cases this
  ·intro j t' l' L' e1 e2 e3
   by_cases c:j < i
   ·rw [List.getElem?_append_left (by omega)] at e1 e2
    obtain ⟨q1,q2,q3,q4⟩:=al j t' l' L' e1 e2 e3
    refine ⟨?_,by rw [upd_ne q4]; exact S3 _ _ q2,q3,q4⟩
    rw [upd_ne (ne_of q1 eD (fun z=>nomatch z))]
    exact S3 _ _ q1
   ·have ej:j = i:=by
     have:=(List.getElem?_eq_some_iff.mp e1).1
     rw [List.length_append] at this
     simp at this
     omega
    subst ej
    rw [List.getElem?_append_right (by omega),lt,Nat.sub_self] at e1
    rw [List.getElem?_append_right (by omega),ll,Nat.sub_self] at e2
    cases e1
    cases e2
    rw [eL] at e3
    cases e3
    exact ⟨by rw [upd_ne tD]; exact et,by rw [upd_ne lD]; exact S2 _ _ el,back fl2,lD⟩
 ·have ei:i = nd.length:=by omega
  refine .inl ⟨⟨ed,by rw [pK_len]; omega⟩,ob,_,ed,?_⟩
  have keep:∀ {b:Addr} {o:HO},H2 b = some o→(∀ o' z,o ≠ .frz o' z)→upd H2 d (.dK (pK nd V.ref)) b = some o:=fun {b o} e n=>by
   rw [upd_ne (fun z=>by rw [z,ed] at e; cases e; exact n _ _ rfl)]; exact e
  refine q D _ ts ls fD (fun b o e=>?_) (keep eD (fun _ _ z=>nomatch z)) (by omega) (by omega) nl fun j t l L e1 e2 e3=>?_
  ·by_cases c:b = d
   ·rw [c,hd] at e; cases e; rw [c,upd_same]
   ·rw [upd_ne c]; exact k2 b o e c
  ·obtain ⟨q1,q2,q3,_⟩:=al j t l L e1 e2 e3
   exact ⟨keep q1 (fun _ _ z=>nomatch z),keep q2 (fun _ _ z=>nomatch z),q3⟩
theorem call_listK {X:Cx} {K:PySem.W.Frag} (e:X.K = K):CallR X (.type "list") (fun xs H Q=>∃ p ys,xs = [.ref p]∧(SqL K H p ys∨SqT K H p ys)∧∀ l,H l = none→Q (.ref l) (upd H l (.lst ys))):=by subst e; exact call_list_of
def nm4:Nat→Str
 | 0=>"used"
 | 1=>"kept"
 | 2=>"free"
 | _=>"going"
def st4 (most top:Int) (dn:Addr) (a:Nat→Addr) (lap:Int):List (Key×V):=stK most top dn (a 0) (a 1) (a 2) (a 3) lap
section
variable {most top lap:Int} {dn:Addr} {a:Nat→Addr}
theorem sp_nodes {lu lk lf lc z:Addr}:putK (stK most top dn lu lk lf lc lap) (Sum.inr "nodes") (.ref z) = stK most top z lu lk lf lc lap:=putK_set (j:=2) st_nd rfl
theorem st_nm {j:Nat} (h:j < 4):valV (st4 most top dn a lap) (Sum.inr (nm4 j)) = some (.ref (a j)):=by
 match j,h with
 | 0,_=>exact st_used
 | 1,_=>exact st_kept
 | 2,_=>exact st_free
 | 3,_=>exact st_going
theorem sp_nm {j:Nat} {l:Addr} (h:j < 4):putK (st4 most top dn a lap) (Sum.inr (nm4 j)) (.ref l) = st4 most top dn (fun i=>if i = j then l else a i) lap:=by
 match j,h with
 | 0,_=>exact sp_used
 | 1,_=>exact sp_kept
 | 2,_=>exact sp_free
 | 3,_=>exact sp_going
end
def old4 (a:LA):Nat→Addr
 | 0=>a.lu
 | 1=>a.lk
 | 2=>a.lf
 | _=>a.lc
def cn4 (a:LA) (us fs:List Int):Nat→List V
 | 0=>us.map V.int
 | 1=>a.tk.map V.ref
 | 2=>fs.map V.int
 | _=>a.tc.map V.ref
theorem IsLS.at4 {a:LA} {g:Hp} {st dn:Addr} {most top:Int} {R:RS} {us fs:List Int} (t:IsLS a g st dn most top R us fs) {j:Nat} (h:j < 4):g (old4 a j) = some (.lst (cn4 a us fs j)):=by
 match j,h with
 | 0,_=>exact t.u
 | 1,_=>exact t.k
 | 2,_=>exact t.f
 | 3,_=>exact t.c
theorem nm_at {i:Nat} {x:V} (h:([.str "used",.str "kept",.str "free",.str "going"]:List V)[i]? = some x):i < 4∧x = .str (nm4 i):=by
 have hi:i < 4:=(List.getElem?_eq_some_iff.mp h).1
 match i,hi,h with
 | 0,_,h=>cases h; exact ⟨by decide,rfl⟩
 | 1,_,h=>cases h; exact ⟨by decide,rfl⟩
 | 2,_,h=>cases h; exact ⟨by decide,rfl⟩
 | 3,_,h=>cases h; exact ⟨by decide,rfl⟩
def frL (h:Hp):Hp:=fun b=>match h b with | some o=>if FL o = true then some o else none | none=>none
theorem frL_of {h:Hp} {b:Addr} {o:HO} (e:frL h b = some o):h b = some o∧FL o = true:=by
 unfold frL at e
 cases q:h b with
 | none=>rw [q] at e; cases e
 | some x=>
  rw [q] at e
  dsimp only at e
  by_cases c:FL x = true
  ·rw [if_pos c] at e; cases e; exact ⟨rfl,c⟩
  ·rw [if_neg c] at e; cases e
theorem frL_at {h:Hp} {b:Addr} {zs:List Int} (e:h b = some (.lst (zs.map V.int))):frL h b = some (.lst (zs.map V.int)):=by
 unfold frL
 rw [e]
 exact if_pos (by show (zs.map V.int).all _ = true; rw [List.all_map,List.all_eq_true]; exact fun _ _=>rfl)
theorem uH_rs {l:List Addr} {H k:Hp} {b:Addr} {o:HO} (e:uH (rsL l H) k b = some o):b ∈ l∨k b = some o:=by
 cases q:rsL l H b with
 | none=>rw [uH_r q] at e; exact .inr e
 | some u=>exact .inl (rsL_in (by rw [q]; exact fun z=>nomatch z))
def lstOf (g:Hp) (p:Addr):List V:=match g p with | some (.lst L)=>L | _=>[]
section
variable {P:Program} {w:World} {K:PySem.W.Frag} {mg:Str→Option Value} {base:Heap} {c:Cs}
abbrev s__law_copied:Stmt:=top 75
def spCopied:Sp:=fun vs H Q _=>∃ (gN g:Hp) (st:Addr) (M:MS),vs = [.ref st]∧IsL gN g st M∧Same g H∧M.ns.length ≤ 500 ∧
 ∀ st' gN' g' H',Same H H'→IsL gN' g' st' M→Same g' H'→(∀ b o,g' b = some o→H b = none∨g b = some o∧FZ o = true∨gN b = some o∧FL o = true∧gN' b = some o)→Q (.ref st') H'
theorem ok_copied (F:Fx P w K mg base c):OkD P w K mg base "_law_copied" s__law_copied ["_law_state_here"] 1 spCopied:=by
 have T:=F.r.T
 refine F.r.d__law_copied.ok (N:=["_law_state_here","_law_found","_law_name"]) fun sc H Q hr h=>?_
 obtain ⟨gN,g,st,M,rfl,⟨gS,dn,nd,a,us,fs,tp,rfl,ds,tn,ts,htp⟩,s,few,k⟩:=h
 have big:=big1000
 have sN:Same gN H:=uH_sl.trans s
 have sS:Same gS H:=(uH_sr ds).trans s
 have hs:=sS _ _ ts.s
 refine' ⟨_,(pss_cons (ps_v sc 1 (pe_callTy call_dictD rfl T.n_dict bt_dict (pa_c (pv 0) pa_nil)))
  (pss_cons (ps_dput (hu_of hr) (pv 1) pe_str (pe_callTy (call_dictL hr.hd) rfl T.n_dict bt_dict (pa_c (pe_thaw (pe_comp2 (blk_mk2 [] []) rfl (pi_items (pe_gs hr (pv 0))) (fun _ _ _ _ _=>PTs.nil) (fun _ _ _ _ _=>(pe_tup (pa_c (pv 0) (pa_c (pe_callTy (call_listK (K:=K) rfl) rfl T.n_list bt_list (pa_c (pv 1) pa_nil)) pa_nil)))))) pa_nil)) rfl)
  (pss_cons (ps_for PassesOwn.never rfl (pi_list (pe_lst (pa_c pe_str (pa_c pe_str (pa_c pe_str (pa_c pe_str pa_nil)))))) (pg_v sc 2)
   (pss_one (ps_dput (hu_of hr) (pv 1) (pv 2) (pe_callTy call_list_of rfl T.n_list bt_list (pa_c (pe_dget (hu_of hr) (pv 0) (pv 2) (fun _ _=>rfl)) pa_nil)) rfl)))
  (pss_one (ps_ret (pv 1)))))),?_⟩
 walk_at "r"
 refine ⟨st,_,rfl,.inl hs,fun z fz=>?_⟩
 have S1:=Same.upd (o:=.dK (stK M.most tp dn a.lu a.lk a.lf a.lc M.R.lap)) fz
 have ez:upd H z (.dK (stK M.most tp dn a.lu a.lk a.lf a.lc M.R.lap)) z = some (.dK (stK M.most tp dn a.lu a.lk a.lf a.lc M.R.lap)):=upd_same
 generalize upd H z _ = H1 at *
 have hs1:=S1 _ _ hs
 walk_at "r"
 have hL:∀ (j:Nat) p n,nd[j]? = some p→M.ns[j]? = some n→∃ k0 g0,lstOf gN p = lN n k0 g0∧gN p = some (.lst (lN n k0 g0))∧gN k0 = some (.lst (n.ks.map V.int))∧gN g0 = some (.lst (n.gs.map V.int)):=fun j p n e1 e2=>by
  obtain ⟨k0,g0,q1,q2,q3⟩:=tn.e j p n e1 e2
  exact ⟨k0,g0,by unfold lstOf; rw [q1],q1,q2,q3⟩
 have nAt:∀ {j:Nat} {p:Addr},nd[j]? = some p→∃ n,M.ns[j]? = some n:=fun {j p} e=>⟨_,List.getElem?_eq_getElem (by rw [← tn.l]; exact (List.getElem?_eq_some_iff.mp e).1)⟩
 refine comp_copy (nd:=nd) (Ls:=nd.map (lstOf gN)) (fun R z=>?_) (S1 _ _ (sN _ _ tn.d)) (by rw [tn.l]; omega) (by rw [List.length_map]) (fun j p L e1 e2=>?_) (fun j p L H2 Z e q=>?_) fun D H2 tt ls fD S2 eD ltt lls ndl al=>?_
 ·walk_at "r"
  exact z
 ·rw [List.getElem?_map,e1] at e2
  cases e2
  obtain ⟨n,en⟩:=nAt e1
  obtain ⟨k0,g0,q0,q1,_⟩:=hL j p n e1 en
  rw [q0]
  exact S1 _ _ (sN _ _ q1)
 ·walk_at "r"
  refine ⟨p,L,rfl,.inl (SqL.of e),fun l fl=>?_⟩
  walk_at "r"
  exact ⟨(by show 2 ≤ sizeLine; decide),fun t ft=>q l t fl ft⟩
 have ez2:=S2 _ _ ez
 have hs2:=S2 _ _ hs1
 walk_at "r"
 refine ⟨D,tt,pK ls V.ref,rfl,eD,by rw [pK_len,ltt,lls],pK_nd,fun i t k0 v e1 e2=>?_,fun d2 f2=>?_⟩
 ·rw [pK_at] at e2
  obtain ⟨l,el,e3⟩:=Option.map_eq_some_iff.mp e2
  cases e3
  have hi:i < nd.length:=by rw [← lls]; exact (List.getElem?_eq_some_iff.mp el).1
  exact (al i t l _ e1 el (by rw [List.getElem?_map,List.getElem?_eq_getElem hi]; rfl)).1
 have S3:=Same.upd (o:=.dK (pK ls V.ref)) f2
 have ed:upd H2 d2 (.dK (pK ls V.ref)) d2 = some (.dK (pK ls V.ref)):=upd_same
 have al2:∀ (j:Nat) l p,ls[j]? = some l→nd[j]? = some p→upd H2 d2 (.dK (pK ls V.ref)) l = some (.lst (lstOf gN p))∧H1 l = none:=fun j l p e1 e2=>by
  have hj:j < tt.length:=by rw [ltt,← lls]; exact (List.getElem?_eq_some_iff.mp e1).1
  obtain ⟨_,q1,q2⟩:=al j _ l (lstOf gN p) (List.getElem?_eq_getElem hj) e1 (by rw [List.getElem?_map,e2]; rfl)
  exact ⟨S3 _ _ q1,q2⟩
 clear al
 generalize upd H2 d2 _ = H3 at *
 have ez3:=S3 _ _ ez2
 have hs3:=S3 _ _ hs2
 clear hs1 hs2
 walk_at "r"
 refine k_dputS ez3 st_lt sp_nodes ?_
 have S03:Same H H3:=(S1.trans S2).trans S3
 have fd2:H1 d2 = none:=S2.free f2
 have nzd:d2 ≠ z:=fun e=>by rw [e,ez] at fd2; cases fd2
 have nz:∀ {b:Addr} {o:HO},H b = some o→b ≠ z:=fun e=>ne_of_none e fz
 have S04:Same H (upd H3 z (.dK (stK M.most tp d2 a.lu a.lk a.lf a.lc M.R.lap))):=fun b o e=>by rw [upd_ne (nz e)]; exact S03 _ _ e
 have ez4:upd H3 z (.dK (stK M.most tp d2 a.lu a.lk a.lf a.lc M.R.lap)) z = some (.dK (stK M.most tp d2 a.lu a.lk a.lf a.lc M.R.lap)):=upd_same
 have ed4:upd H3 z (.dK (stK M.most tp d2 a.lu a.lk a.lf a.lc M.R.lap)) d2 = some (.dK (pK ls V.ref)):=by rw [upd_ne nzd]; exact ed
 have al4:∀ (j:Nat) l p,ls[j]? = some l→nd[j]? = some p→upd H3 z (.dK (stK M.most tp d2 a.lu a.lk a.lf a.lc M.R.lap)) l = some (.lst (lstOf gN p))∧H1 l = none:=fun j l p e1 e2=>by
  obtain ⟨q1,q2⟩:=al2 j l p e1 e2
  exact ⟨by rw [upd_ne (fun e=>by rw [e,ez] at q2; cases q2)]; exact q1,q2⟩
 generalize upd H3 z _ = H4 at *
 clear ez3 hs3 ed al2
 walk_at "r"
 refine ⟨(by show 4 ≤ sizeLine; decide),fun ln fn=>?_⟩
 have S5:=Same.upd (o:=.lst [.str "used",.str "kept",.str "free",.str "going"]) fn
 have en:upd H4 ln (.lst [.str "used",.str "kept",.str "free",.str "going"]) ln = some (.lst [.str "used",.str "kept",.str "free",.str "going"]):=upd_same
 generalize upd H4 ln _ = H5 at *
 refine k_il en ?_
 have nln:ln ≠ z:=fun e=>by rw [e,ez4] at fn; cases fn
 refine q_forL (xs:=[.str "used",.str "kept",.str "free",.str "going"]) (fun i σ H'=>∃ (o2:Option V) (v:Nat→Addr),σ = [some (.ref st),some (.ref z),o2]∧KB z H5 H'∧H' z = some (.dK (st4 M.most tp d2 v M.R.lap))∧(∀ j,i ≤ j→v j = old4 a j)∧(∀ j,j < i→H5 (v j) = none∧H' (v j) = some (.lst (cn4 a us fs j)))∧∀ j j',j < i→j' < i→j ≠ j'→v j ≠ v j')
  ⟨none,old4 a,rfl,fun b o e _=>e,S5 _ _ ez4,fun _ _=>rfl,fun j h=>absurd h (Nat.not_lt_zero _),fun j _ h=>absurd h (Nat.not_lt_zero _)⟩ ?_ ?_ ?_
 ·rintro i σ H' _ ⟨o2,v,rfl,kb,_⟩
  exact kb _ _ en nln
 ·rintro i x σ H' hx ⟨o2,v,rfl,kb,ezv,ov,nv,dv⟩
  obtain ⟨hi,rfl⟩:=nm_at hx
  have hsv:H' st = some (.dK (st4 M.most tp dn (old4 a) M.R.lap)):=kb _ _ (S5 _ _ (S04 _ _ hs)) (nz hs)
  walk_at "r"
  refine k_dgetS hsv (st_nm hi) ?_
  have eo:=sS _ _ (ts.at4 hi)
  walk_at "r"
  refine ⟨old4 a i,cn4 a us fs i,rfl,.inl (SqL.of (kb _ _ (S5 _ _ (S04 _ _ eo)) (nz eo))),fun l fl=>?_⟩
  walk_at "r"
  refine k_dputS (un_f fl ezv) (by show 8 < sizeLine; decide) (sp_nm hi) ?_
  have nlz:l ≠ z:=(ne_of_none ezv fl).symm
  have fl5:H5 l = none:=by
   cases c:H5 l with
   | none=>rfl
   | some o=>rw [kb _ _ c nlz] at fl; cases fl
  refine ⟨_,fun j=>if j = i then l else v j,rfl,fun b o e n=>?_,upd_same,fun j hj=>?_,fun j hj=>?_,fun j j' hj hj' ne=>?_⟩
  ·rw [upd_ne n]; exact un_f fl (kb b o e n)
  ·dsimp only
   rw [if_neg (by omega)]; exact ov j (by omega)
  ·dsimp only
   by_cases c:j = i
   ·subst c
    rw [if_pos rfl]
    exact ⟨fl5,by rw [upd_ne nlz,upd_same]⟩
   ·rw [if_neg c]
    obtain ⟨q1,q2⟩:=nv j (by omega)
    exact ⟨q1,by rw [upd_ne (ne_of q2 ezv (fun z=>nomatch z))]; exact un_f fl q2⟩
  ·dsimp only
   by_cases c:j = i
   ·by_cases c':j' = i
    ·exact absurd (c.trans c'.symm) ne
    ·rw [if_pos c,if_neg c']; exact (ne_of_none (nv j' (by omega)).2 fl).symm
   ·by_cases c':j' = i
    ·rw [if_neg c,if_pos c']; exact ne_of_none (nv j (by omega)).2 fl
    ·rw [if_neg c,if_neg c']; exact dv j j' (by omega) (by omega) ne
 ·rintro σ H' ⟨o2,v,rfl,kb,ezv,_,nv,dv⟩
  walk_at "r"
  have S6:Same H H':=fun b o e=>kb _ _ (S5 _ _ (S04 _ _ e)) (nz e)
  have ed6:H' d2 = some (.dK (pK ls V.ref)):=kb _ _ (S5 _ _ ed4) nzd
  have ndAt:∀ {j:Nat} {l:Addr},ls[j]? = some l→∃ p,nd[j]? = some p:=fun {j l} e=>⟨_,List.getElem?_eq_getElem (by rw [← lls]; exact (List.getElem?_eq_some_iff.mp e).1)⟩
  have al6:∀ {j:Nat} {l p:Addr},ls[j]? = some l→nd[j]? = some p→H' l = some (.lst (lstOf gN p)):=fun {j l p} e1 e2=>by
   obtain ⟨q1,q2⟩:=al4 j l p e1 e2
   exact kb _ _ (S5 _ _ q1) fun e=>by rw [e,ez] at q2; cases q2
  have newA:∀ b ∈ d2 :: ls,H1 b = none∧H5 b ≠ none∧b ≠ z:=fun b hb=>by
   rcases List.mem_cons.mp hb with rfl | hb
   ·exact ⟨fd2,(by rw [S5 _ _ ed4]; exact fun z=>nomatch z),nzd⟩
   ·obtain ⟨j,hj⟩:=List.getElem?_of_mem hb
    obtain ⟨p,hp⟩:=ndAt hj
    obtain ⟨q1,q2⟩:=al4 j b p hj hp
    exact ⟨q2,(by rw [S5 _ _ q1]; exact fun z=>nomatch z),fun e=>by rw [e,ez] at q2; cases q2⟩
  have f5:∀ {b},H5 b = none→H b = none:=fun f=>S04.free (S5.free f)
  have newB:∀ b ∈ [z,v 0,v 1,v 2,v 3],H b = none∧(b = z∨H5 b = none):=fun b hb=>by
   simp only [List.mem_cons,List.not_mem_nil,or_false] at hb
   rcases hb with rfl | rfl | rfl | rfl | rfl
   ·exact ⟨fz,.inl rfl⟩
   ·exact ⟨f5 (nv 0 (by decide)).1,.inr (nv 0 (by decide)).1⟩
   ·exact ⟨f5 (nv 1 (by decide)).1,.inr (nv 1 (by decide)).1⟩
   ·exact ⟨f5 (nv 2 (by decide)).1,.inr (nv 2 (by decide)).1⟩
   ·exact ⟨f5 (nv 3 (by decide)).1,.inr (nv 3 (by decide)).1⟩
  have sA:Same (rsL (d2 :: ls) H') H':=rsL_same
  have sB:Same (rsL [z,v 0,v 1,v 2,v 3] H') H':=rsL_same
  have sL:Same (frL gN) H':=fun b o e=>S6 _ _ (sN _ _ (frL_of e).1)
  have sZ:Same (frz gS) H':=fun b o e=>S6 _ _ (sS _ _ (frz_of e).1)
  have inB:∀ {b:Addr} {o:HO},b ∈ [z,v 0,v 1,v 2,v 3]→H' b = some o→uH (rsL [z,v 0,v 1,v 2,v 3] H') (frz gS) b = some o:=fun m e=>uH_l (by rw [rsL_at m]; exact e)
  have cN:∀ b o,uH (rsL (d2 :: ls) H') (frL gN) b = some o→H1 b = none∧H5 b ≠ none∧b ≠ z∨gN b = some o∧FL o = true:=fun b o e=>by
   rcases uH_rs e with m | e'
   ·exact .inl (newA b m)
   ·exact .inr (frL_of e')
  have cS:∀ b o,uH (rsL [z,v 0,v 1,v 2,v 3] H') (frz gS) b = some o→H b = none∧(b = z∨H5 b = none)∨gS b = some o∧FZ o = true:=fun b o e=>by
   rcases uH_rs e with m | e'
   ·exact .inl (newB b m)
   ·exact .inr (frz_of e')
  have dis:Dis (uH (rsL (d2 :: ls) H') (frL gN)) (uH (rsL [z,v 0,v 1,v 2,v 3] H') (frz gS)):=fun b=>by
   cases e1:uH (rsL (d2 :: ls) H') (frL gN) b with
   | none=>exact .inl rfl
   | some o=>
    cases e2:uH (rsL [z,v 0,v 1,v 2,v 3] H') (frz gS) b with
    | none=>exact .inr rfl
    | some o'=>
     exfalso
     rcases cN b o e1 with ⟨a1,a2,a3⟩ | ⟨a1,a2⟩
     ·rcases cS b o' e2 with ⟨b1,b2⟩ | ⟨b1,b2⟩
      ·rcases b2 with b2 | b2
       ·exact a3 b2
       ·exact a2 b2
      ·rw [S1 _ _ (sS _ _ b1)] at a1; cases a1
     ·rcases cS b o' e2 with ⟨b1,b2⟩ | ⟨b1,b2⟩
      ·rw [sN _ _ a1] at b1; cases b1
      ·rcases ds b with d | d
       ·rw [d] at a1; cases a1
       ·rw [d] at b1; cases b1
  have tkk:∀ {ts:List Addr} {ps:List (Int×Int)},Tups gS ts ps→Tups (uH (rsL [z,v 0,v 1,v 2,v 3] H') (frz gS)) ts ps:=fun t=>t.keep fun b xs e=>uH_in sB sZ (frz_at e rfl)
  refine k z _ _ H' S6 ⟨uH (rsL [z,v 0,v 1,v 2,v 3] H') (frz gS),d2,ls,⟨v 0,v 1,v 2,v 3,a.tk,a.tc⟩,us,fs,tp,rfl,dis,⟨uH_l (by rw [rsL_at (by simp)]; exact ed6),by rw [lls,tn.l],fun j l n e1 e2=>?_,ndl⟩,
   ⟨inB (by simp) ezv,inB (by simp) (nv 0 (by decide)).2,inB (by simp) (nv 1 (by decide)).2,inB (by simp) (nv 2 (by decide)).2,inB (by simp) (nv 3 (by decide)).2,tkk ts.tk,tkk ts.tc,?_,ts.pu,ts.su,ts.pf,ts.sf⟩,htp⟩ (uH_same (uH_same sA sL) (uH_same sB sZ)) fun b o e=>?_
  ·obtain ⟨p,hp⟩:=ndAt e1
   obtain ⟨k0,g0,q0,q1,q2,q3⟩:=hL j p n hp e2
   have m:l ∈ d2 :: ls:=List.mem_cons_of_mem _ (List.mem_of_getElem? e1)
   exact ⟨k0,g0,uH_l (by rw [rsL_at m,al6 e1 hp,q0]),uH_in sA sL (frL_at q2),uH_in sA sL (frL_at q3)⟩
  ·have n:=fun j j' h h' e=>dv j j' (show j < 4 from h) (show j' < 4 from h') e
   simp [n 0 1 (by decide) (by decide) (by decide),n 0 2 (by decide) (by decide) (by decide),n 0 3 (by decide) (by decide) (by decide),n 1 2 (by decide) (by decide) (by decide),n 1 3 (by decide) (by decide) (by decide),n 2 3 (by decide) (by decide) (by decide)]
  ·cases e1:uH (rsL (d2 :: ls) H') (frL gN) b with
   | some o'=>
    rw [uH_l e1] at e
    cases e
    rcases cN b _ e1 with ⟨a1,_⟩ | ⟨a1,a2⟩
    ·exact .inl (S1.free a1)
    ·exact .inr (.inr ⟨a1,a2,rfl⟩)
   | none=>
    rw [uH_r e1] at e
    rcases cS b _ e with ⟨b1,_⟩ | ⟨b1,b2⟩
    ·exact .inl b1
    ·exact .inr (.inl ⟨uH_sr ds _ _ b1,b2⟩)
end
structure Tr where
 a:TA
 h:Hp
 k:Hp
 g:Hp
 x:Addr
 st:Addr
 M:MS
def Tr.no (t:Tr) (b:Addr):Prop:=t.h b = none∧t.g b = none
def Tr.fr (t:Tr) (b:Addr):Prop:=∃ o,t.h b = some o∧FZ o = true∨t.g b = some o∧FZ o = true∨t.k b = some o∧FL o = true
def Sep (t u:Tr):Prop:=∀ b,t.no b∨u.no b∨t.fr b
structure Fam (c:Cs) (b:Nat) (H:Hp) (ts:List Tr):Prop where
 i:∀ (j:Nat) t,ts[j]? = some t→Inv c t.a t.h t.k t.g t.x t.st t.M H∧MOk b t.M
 s:∀ (j j':Nat) t u,ts[j]? = some t→ts[j']? = some u→j ≠ j'→Sep t u
def Out (ts:List Tr) (b:Addr):Prop:=∀ (j:Nat) t,ts[j]? = some t→t.no b
section
variable {c:Cs} {b:Nat} {H H':Hp} {ts:List Tr}
theorem IsL.kg {k g:Hp} {st:Addr} {M:MS} (l:IsL k g st M):Same k g:=by
 obtain ⟨gS,_,_,_,_,_,_,rfl,_⟩:=l
 exact uH_sl
theorem Inv.kH {a:TA} {h k g:Hp} {x st:Addr} {M:MS} (i:Inv c a h k g x st M H):Same k H:=i.l.kg.trans i.sg
theorem Inv.same {a:TA} {h k g:Hp} {x st:Addr} {M:MS} (i:Inv c a h k g x st M H) (sh:Same h H') (sg:Same g H'):Inv c a h k g x st M H':=⟨i.t,i.l,i.d,sh,sg⟩
theorem Fam.same (F:Fam c b H ts) (S:Same H H'):Fam c b H' ts:=⟨fun j t e=>⟨(F.i j t e).1.same ((F.i j t e).1.sh.trans S) ((F.i j t e).1.sg.trans S),(F.i j t e).2⟩,F.s⟩
theorem Fam.upd (F:Fam c b H ts) {p:Addr} {o:HO} (n:Out ts p):Fam c b (upd H p o) ts:=⟨fun j t e=>by
 obtain ⟨i,m⟩:=F.i j t e
 refine ⟨i.same (fun x y z=>?_) (fun x y z=>?_),m⟩
 ·rw [upd_ne (fun w=>by rw [w,(n j t e).1] at z; cases z)]; exact i.sh _ _ z
 ·rw [upd_ne (fun w=>by rw [w,(n j t e).2] at z; cases z)]; exact i.sg _ _ z,F.s⟩
theorem Fam.free (F:Fam c b H ts) {p:Addr} (f:H p = none):Out ts p:=fun j t e=>⟨(F.i j t e).1.sh.free f,(F.i j t e).1.sg.free f⟩
theorem keepU {t u:Tr} {a':TA} {h' k' g':Hp} {M':MS} {p:Addr} {x st:Addr} (it:Inv c t.a t.h t.k t.g t.x t.st t.M H) (st':Stp t.h t.k t.g h' k' g' p H H') (i':Inv c a' h' k' g' x st M' H') (sp:Sep t u) (np:u.no p) {y:Addr} {o:HO} (hy:H y = some o) (m:¬ u.no y):H' y = some o:=by
 rcases sp y with q | q | ⟨o',q⟩
 ·exact (st'.st y o hy q.1 q.2 fun e=>m (e ▸ np)).1
 ·exact absurd q m
 ·rcases q with ⟨q1,q2⟩ | ⟨q1,q2⟩ | ⟨q1,q2⟩
  ·have:=it.sh _ _ q1; rw [hy] at this; cases this; exact st'.fz y o hy q2
  ·have:=it.sg _ _ q1; rw [hy] at this; cases this; exact st'.fz y o hy q2
  ·have:=it.kH _ _ q1; rw [hy] at this; cases this; exact i'.kH _ _ (st'.ki y o q1 q2)
theorem some_no {t:Tr} {y:Addr} {o:HO} (e:t.h y = some o∨t.g y = some o):¬ t.no y:=fun n=>by
 rcases e with e | e
 ·rw [n.1] at e; cases e
 ·rw [n.2] at e; cases e
theorem Fam.step (F:Fam c b H ts) {i:Nat} {t:Tr} (ht:ts[i]? = some t) {b':Nat} (hb:b ≤ b') {a':TA} {h' k' g':Hp} {M':MS} {p:Addr} (st':Stp t.h t.k t.g h' k' g' p H H') (i':Inv c a' h' k' g' t.x t.st M' H') (m':MOk b' M') (np:Out ts p) :
  Fam c b' H' (ts.set i ⟨a',h',k',g',t.x,t.st,M'⟩):=by
 have il:i < ts.length:=(List.getElem?_eq_some_iff.mp ht).1
 have it:=(F.i i t ht).1
 have val:∀ {u:Tr} {y:Addr},Inv c u.a u.h u.k u.g u.x u.st u.M H→¬ u.no y→∃ o,H y = some o:=fun {u y} iu m=>by
  cases e1:u.h y with
  | some o=>exact ⟨o,iu.sh _ _ e1⟩
  | none=>
   cases e2:u.g y with
   | some o=>exact ⟨o,iu.sg _ _ e2⟩
   | none=>exact absurd ⟨e1,e2⟩ m
 constructor
 ·intro j u e
  rw [List.getElem?_set] at e
  by_cases cj:i = j
  ·subst cj
   rw [if_pos rfl,if_pos il] at e
   cases e
   exact ⟨i',m'⟩
  ·rw [if_neg cj] at e
   obtain ⟨iu,mu⟩:=F.i j u e
   have sp:=F.s i j t u ht e cj
   exact ⟨iu.same (fun y o z=>keepU it st' i' sp (np j u e) (iu.sh _ _ z) (some_no (.inl z))) (fun y o z=>keepU it st' i' sp (np j u e) (iu.sg _ _ z) (some_no (.inr z))),mu.mono hb⟩
 ·intro j j' v u e1 e2 ne
  rw [List.getElem?_set] at e1 e2
  by_cases c1:i = j
  ·subst c1
   rw [if_pos rfl,if_pos il] at e1
   rw [if_neg ne] at e2
   cases e1
   obtain ⟨iu,_⟩:=F.i j' u e2
   have sp:=F.s i j' t u ht e2 ne
   intro y
   by_cases m:u.no y
   ·exact .inr (.inl m)
   obtain ⟨o,hy⟩:=val iu m
   have hy':=keepU it st' i' sp (np j' u e2) hy m
   rcases sp y with q | q | ⟨o',q⟩
   ·exact .inl (st'.st y o hy q.1 q.2 fun e=>m (e ▸ np j' u e2)).2
   ·exact absurd q m
   ·cases f1:h' y with
    | some o1=>
     have w1:=i'.sh _ _ f1
     rw [hy'] at w1
     cases w1
     rcases q with ⟨q1,q2⟩ | ⟨q1,q2⟩ | ⟨q1,q2⟩
     ·have:=it.sh _ _ q1; rw [hy] at this; cases this; exact .inr (.inr ⟨o,.inl ⟨f1,q2⟩⟩)
     ·have:=it.sg _ _ q1; rw [hy] at this; cases this; exact .inr (.inr ⟨o,.inl ⟨f1,q2⟩⟩)
     ·exact .inr (.inr ⟨o',.inr (.inr ⟨st'.ki y o' q1 q2,q2⟩)⟩)
    | none=>
     cases f2:g' y with
     | none=>exact .inl ⟨f1,f2⟩
     | some o1=>
      have w1:=i'.sg _ _ f2
      rw [hy'] at w1
      cases w1
      rcases q with ⟨q1,q2⟩ | ⟨q1,q2⟩ | ⟨q1,q2⟩
      ·have:=it.sh _ _ q1; rw [hy] at this; cases this; exact .inr (.inr ⟨o,.inr (.inl ⟨f2,q2⟩)⟩)
      ·have:=it.sg _ _ q1; rw [hy] at this; cases this; exact .inr (.inr ⟨o,.inr (.inl ⟨f2,q2⟩)⟩)
      ·exact .inr (.inr ⟨o',.inr (.inr ⟨st'.ki y o' q1 q2,q2⟩)⟩)
  ·rw [if_neg c1] at e1
   by_cases c2:i = j'
   ·subst c2
    rw [if_pos rfl,if_pos il] at e2
    cases e2
    obtain ⟨iv,_⟩:=F.i j v e1
    intro y
    by_cases m:v.no y
    ·exact .inl m
    obtain ⟨o,hy⟩:=val iv m
    rcases F.s j i v t e1 ht ne y with q | q | q
    ·exact .inl q
    ·exact .inr (.inl (st'.st y o hy q.1 q.2 fun e=>m (e ▸ np j v e1)).2)
    ·exact .inr (.inr q)
   ·rw [if_neg c2] at e2
    exact F.s j j' v u e1 e2 ne
theorem Out.step {i:Nat} {t:Tr} {a':TA} {h' k' g':Hp} {M':MS} {y:Addr} (n:Out ts y) (m:h' y = none∧g' y = none):Out (ts.set i ⟨a',h',k',g',t.x,t.st,M'⟩) y:=fun j u e=>by
 rw [List.getElem?_set] at e
 by_cases c:i = j
 ·rw [if_pos c] at e
  split at e
  ·cases e; exact m
  ·cases e
 ·rw [if_neg c] at e; exact n j u e
theorem Fam.add (F:Fam c b H ts) {HA HB:Hp} {i:Nat} {t:Tr} (ht:ts[i]? = some t) (sA:∀ (j:Nat) u,ts[j]? = some u→Same u.h HA∧Same u.g HA) (sB:∀ (j:Nat) u,ts[j]? = some u→Same u.h HB∧Same u.g HB) {a':TA} {h' k' g':Hp} {x' st':Addr} (t':IsT c a' h' x' t.M) (sh:Same h' H) (shB:Same h' HB) (l':IsL k' g' st' t.M) (sg:Same g' H)
  (nh:∀ y o,h' y = some o→HA y = none∨t.h y = some o∧FZ o = true) (ng:∀ y o,g' y = some o→HB y = none∨t.g y = some o∧FZ o = true∨t.k y = some o∧FL o = true∧k' y = some o):Fam c b H (ts ++ [⟨a',h',k',g',x',st',t.M⟩]):=by
 obtain ⟨it,mt⟩:=F.i i t ht
 have kg:=it.l.kg
 have dis:Dis h' g':=fun y=>by
  cases e1:h' y with
  | none=>exact .inl rfl
  | some o=>
   cases e2:g' y with
   | none=>exact .inr rfl
   | some o'=>
    exfalso
    have hB:=shB _ _ e1
    obtain ⟨o2,tg⟩:∃ o2,t.g y = some o2:=by
     rcases ng y o' e2 with q | ⟨q,_⟩ | ⟨q,_⟩
     ·rw [hB] at q; cases q
     ·exact ⟨_,q⟩
     ·exact ⟨_,kg _ _ q⟩
    rcases nh y o e1 with q | ⟨q,_⟩
    ·rw [(sA i t ht).2 _ _ tg] at q; cases q
    ·rcases it.d y with z | z
     ·rw [z] at q; cases q
     ·rw [z] at tg; cases tg
 have inN:Inv c a' h' k' g' x' st' t.M H:=⟨t',l',dis,sh,sg⟩
 -- a place that an old one has too
 have both:∀ {j:Nat} {u:Tr} {y:Addr},ts[j]? = some u→¬ u.no y→¬ (Tr.mk a' h' k' g' x' st' t.M).no y→u.fr y∧(Tr.mk a' h' k' g' x' st' t.M).fr y:=fun {j u y} eu mu mn=>by
  have some:(∃ o,HA y = some o)∧∃ o,HB y = some o:=by
   cases e1:u.h y with
   | some o=>exact ⟨⟨o,(sA j u eu).1 _ _ e1⟩,o,(sB j u eu).1 _ _ e1⟩
   | none=>
    cases e2:u.g y with
    | some o=>exact ⟨⟨o,(sA j u eu).2 _ _ e2⟩,o,(sB j u eu).2 _ _ e2⟩
    | none=>exact absurd ⟨e1,e2⟩ mu
  obtain ⟨⟨oA,eA⟩,oB,eB⟩:=some
  have old:t.fr y∧¬ t.no y∧(Tr.mk a' h' k' g' x' st' t.M).fr y:=by
   cases e1:h' y with
   | some o=>
    rcases nh y o e1 with q | ⟨q,f⟩
    ·rw [eA] at q; cases q
    ·exact ⟨⟨o,.inl ⟨q,f⟩⟩,some_no (.inl q),o,.inl ⟨e1,f⟩⟩
   | none=>
    cases e2:g' y with
    | none=>exact absurd ⟨e1,e2⟩ mn
    | some o=>
     rcases ng y o e2 with q | ⟨q,f⟩ | ⟨q,f,q'⟩
     ·rw [eB] at q; cases q
     ·exact ⟨⟨o,.inr (.inl ⟨q,f⟩)⟩,some_no (.inr q),o,.inr (.inl ⟨e2,f⟩)⟩
     ·exact ⟨⟨o,.inr (.inr ⟨q,f⟩)⟩,some_no (.inr (kg _ _ q)),o,.inr (.inr ⟨q',f⟩)⟩
  refine ⟨?_,old.2.2⟩
  by_cases cj:j = i
  ·subst cj
   rw [ht] at eu
   cases eu
   exact old.1
  ·rcases F.s j i u t eu ht cj y with q | q | q
   ·exact absurd q mu
   ·exact absurd q old.2.1
   ·exact q
 have at':∀ {j:Nat} {v:Tr},(ts ++ [⟨a',h',k',g',x',st',t.M⟩])[j]? = some v→ts[j]? = some v∨j = ts.length∧v = ⟨a',h',k',g',x',st',t.M⟩:=fun {j v} e=>by
  by_cases cj:j < ts.length
  ·rw [List.getElem?_append_left cj] at e; exact .inl e
  ·rw [List.getElem?_append_right (by omega)] at e
   cases q:j - ts.length with
   | zero=>rw [q] at e; cases e; exact .inr ⟨by omega,rfl⟩
   | succ n=>rw [q] at e; cases e
 constructor
 ·intro j v e
  rcases at' e with e | ⟨_,rfl⟩
  ·exact F.i j v e
  ·exact ⟨inN,mt⟩
 ·intro j j' v u e1 e2 ne
  rcases at' e1 with e1 | ⟨c1,rfl⟩
  ·rcases at' e2 with e2 | ⟨_,rfl⟩
   ·exact F.s j j' v u e1 e2 ne
   ·intro y
    by_cases m1:v.no y
    ·exact .inl m1
    ·by_cases m2:(Tr.mk a' h' k' g' x' st' t.M).no y
     ·exact .inr (.inl m2)
     ·exact .inr (.inr (both e1 m1 m2).1)
  ·rcases at' e2 with e2 | ⟨c2,rfl⟩
   ·intro y
    by_cases m1:u.no y
    ·exact .inr (.inl m1)
    ·by_cases m2:(Tr.mk a' h' k' g' x' st' t.M).no y
     ·exact .inl m2
     ·exact .inr (.inr (both e2 m1 m2).2)
   ·exact absurd (c1.trans c2.symm) ne
end
def spLaw (K:PySem.W.Frag):Sp:=fun vs H Q _=>∃ (a:Addr) (ns:List Int),vs = [.ref a]∧SqL K H a (ns.map V.int)∧ns.length ≤ 63∧∀ H',Q (.bl true) H'
theorem sqS {K:PySem.W.Frag} {H H':Hp} {a:Addr} {xs:List V} (S:Same H H') (h:SqL K H a xs):SqL K H' a xs:=by
 rcases h with h | h
 ·rcases h with h | ⟨o,h⟩
  ·exact .inl (.inl (S _ _ h))
  ·exact .inl (.inr ⟨o,S _ _ h⟩)
 ·exact .inr h
theorem bt_zip:bootBuiltins "zip" = some (.type "zip"):=by decide +kernel
theorem r_zip {K:PySem.W.Frag} {ta:L2.TA} {σ:St} {H:Hp} {R:It→Hp→Prop} (h:ta σ H fun vs H1=>∃ a b,vs = [.ref a,.ref b]∧(∃ xs,SqL K H1 a xs)∧(∃ ys,SqL K H1 b ys)∧R (ItZ K a b) H1):iZipL K ta σ H R:=h
theorem q_forZ {K:PySem.W.Frag} {a b:Addr} {xs ys:List V} {g:TG} {tb:TS} {n bk ct:St→Hp→Prop} {rt:VK} {σ:St} {H:Hp} (hlen:ys.length = xs.length) (Pv:Nat→St→Hp→Prop) (h0:Pv 0 σ H) (hl:∀ i σ H,i ≤ xs.length→Pv i σ H→SqL K H a xs∧SqL K H b ys)
  (hs:∀ i x y t σ H,xs[i]? = some x→ys[i]? = some y→Pv i σ H→H t = none→g (.ref t) σ (upd H t (.tup [x,y])) fun σ2 H2=>tb ⟨Pv (i + 1),rt,n,Pv (i + 1)⟩ σ2 H2) (hd:∀ σ H,Pv xs.length σ H→n σ H):ForQ (ItZ K a b) g tb ⟨n,rt,bk,ct⟩ σ H:=for_zipL (D:=⟨n,rt,bk,ct⟩) hlen Pv h0 hl hs hd
theorem Fam.kb {c:Cs} {b:Nat} {H H':Hp} {ts:List Tr} {p:Addr} (F:Fam c b H ts) (k:KB p H H') (n:Out ts p):Fam c b H' ts:=⟨fun j t e=>⟨(F.i j t e).1.same (k.same (F.i j t e).1.sh (n j t e).1) (k.same (F.i j t e).1.sg (n j t e).2),(F.i j t e).2⟩,F.s⟩
structure Lsd (c:Cs) (b:Nat) (lt ls:Addr) (H0 H:Hp) (ts:List Tr):Prop where
 F:Fam c b H ts
 t:H lt = some (.lst (ts.map fun t=>V.ref t.x))
 s:H ls = some (.lst (ts.map fun t=>V.ref t.st))
 ot:Out ts lt
 os:Out ts ls
 S:Same H0 H
 o:∀ y o,H0 y = some o→Out ts y
 n:lt ≠ ls
 zt:H0 lt = none
 zs:H0 ls = none
theorem Lsd.same {c:Cs} {b:Nat} {lt ls:Addr} {H0 H H':Hp} {ts:List Tr} (L:Lsd c b lt ls H0 H ts) (S:Same H H'):Lsd c b lt ls H0 H' ts:=⟨L.F.same S,S _ _ L.t,S _ _ L.s,L.ot,L.os,L.S.trans S,L.o,L.n,L.zt,L.zs⟩
theorem Lsd.kb {c:Cs} {b:Nat} {lt ls p:Addr} {H0 H H1 H':Hp} {ts:List Tr} (L:Lsd c b lt ls H0 H ts) (f:H p = none) (S:Same H H1) (k:KB p H1 H'):Lsd c b lt ls H0 H' ts:=⟨(L.F.same S).kb k (L.F.free f),k _ _ (S _ _ L.t) (ne_of_none L.t f),k _ _ (S _ _ L.s) (ne_of_none L.s f),L.ot,L.os,fun y o e=>k _ _ (S _ _ (L.S _ _ e)) (ne_of_none (L.S _ _ e) f),L.o,L.n,L.zt,L.zs⟩
theorem atI_map {α:Type} {xs:List α} {f:α→V} {r:Int} (h0:0 ≤ r) (h1:r < xs.length):∃ (j:Nat) (x:α),r = (j:Int)∧xs[j]? = some x:=by
 have hj:r.toNat < xs.length:=by omega
 exact ⟨r.toNat,xs[r.toNat],by omega,List.getElem?_eq_getElem hj⟩
theorem at_map {α:Type} {xs:List α} {f:α→V} {j:Nat} {x:α} (h:xs[j]? = some x):atI (xs.map f) (j:Int) = some (f x):=atI_nat (by rw [List.getElem?_map,h]; rfl)
theorem r_orB {tt tu:TT} {σ:St} {H:Hp} {Q:Bool→Hp→Prop} (b1 b2:Bool) (h1:∀ R:Bool→Hp→Prop,R b1 H→tt σ H R) (h2:∀ R:Bool→Hp→Prop,R b2 H→tu σ H R) (q:Q (b1 || b2) H):tOr tt tu σ H Q:=h1 _ (by
 cases b1 with
 | true=>exact iteT q
 | false=>exact iteF (h2 _ q))
theorem Out.add {ts:List Tr} {n:Tr} {y:Addr} (o:Out ts y) (m:n.no y):Out (ts ++ [n]) y:=fun j u e=>by
 by_cases cj:j < ts.length
 ·rw [List.getElem?_append_left cj] at e; exact o j u e
 ·rw [List.getElem?_append_right (by omega)] at e
  cases q:j - ts.length with
  | zero=>rw [q] at e; cases e; exact m
  | succ n=>rw [q] at e; cases e
theorem Lsd.add {c:Cs} {b:Nat} {lt ls:Addr} {H0 H:Hp} {ts:List Tr} (L:Lsd c b lt ls H0 H ts) {i:Nat} {t:Tr} (ht:ts[i]? = some t) {a':TA} {h' k' g':Hp} {x' st':Addr} {HA HC:Hp} (SA:Same H HA) (tA:IsT c a' h' x' t.M) (shA:Same h' HA) (nA:∀ y o,h' y = some o→H y = none∨t.h y = some o∧FZ o = true)
  (SC:Same (upd HA lt (.lst (ts.map (fun t=>V.ref t.x) ++ [.ref x']))) HC) (lC:IsL k' g' st' t.M) (sgC:Same g' HC) (nC:∀ y o,g' y = some o→upd HA lt (.lst (ts.map (fun t=>V.ref t.x) ++ [.ref x'])) y = none∨t.g y = some o∧FZ o = true∨t.k y = some o∧FL o = true∧k' y = some o) :
  Lsd c b lt ls H0 (upd HC ls (.lst (ts.map (fun t=>V.ref t.st) ++ [.ref st']))) (ts ++ [⟨a',h',k',g',x',st',t.M⟩])∧∀ y o,H y = some o→Out ts y→Out (ts ++ [⟨a',h',k',g',x',st',t.M⟩]) y:=by
 obtain ⟨it,mt⟩:=L.F.i i t ht
 have kg:=it.l.kg
 have vB:∀ {y o},H y = some o→upd HA lt (.lst (ts.map (fun t=>V.ref t.x) ++ [.ref x'])) y ≠ none:=fun {y o} e=>by
  by_cases c:y = lt
  ·rw [c,upd_same]; exact fun z=>nomatch z
  ·rw [upd_ne c,SA _ _ e]; exact fun z=>nomatch z
 have no:∀ y o,H y = some o→t.no y→(Tr.mk a' h' k' g' x' st' t.M).no y:=fun y o e n=>by
  constructor
  ·show h' y = none
   cases q:h' y with
   | none=>rfl
   | some u=>
    rcases nA y u q with z | ⟨z,_⟩
    ·rw [e] at z; cases z
    ·rw [n.1] at z; cases z
  ·show g' y = none
   cases q:g' y with
   | none=>rfl
   | some u=>
    rcases nC y u q with z | ⟨z,_⟩ | ⟨z,_⟩
    ·exact absurd z (vB e)
    ·rw [n.2] at z; cases z
    ·have:=kg _ _ z; rw [n.2] at this; cases this
 have nolt:h' lt = none∧g' lt = none:=no lt _ L.t (L.ot i t ht)
 have nols:h' ls = none∧g' ls = none:=no ls _ L.s (L.os i t ht)
 have shB:Same h' (upd HA lt (.lst (ts.map (fun t=>V.ref t.x) ++ [.ref x']))):=fun y o e=>by
  rw [upd_ne (fun z=>by rw [z,nolt.1] at e; cases e)]; exact shA _ _ e
 have FB:=(L.F.same SA).upd (o:=.lst (ts.map (fun t=>V.ref t.x) ++ [.ref x'])) L.ot
 have FD:=(FB.same SC).upd (o:=.lst (ts.map (fun t=>V.ref t.st) ++ [.ref st'])) L.os
 have up:∀ {y o},HC y = some o→y ≠ ls→upd HC ls (.lst (ts.map (fun t=>V.ref t.st) ++ [.ref st'])) y = some o:=fun e n=>by rw [upd_ne n]; exact e
 have all:∀ y o,H y = some o→Out ts y→Out (ts ++ [⟨a',h',k',g',x',st',t.M⟩]) y:=fun y o e q=>q.add (no y o e (q i t ht))
 refine ⟨⟨FD.add ht (fun j u e=>⟨(L.F.i j u e).1.sh,(L.F.i j u e).1.sg⟩) (fun j u e=>⟨(FB.i j u e).1.sh,(FB.i j u e).1.sg⟩) tA (fun y o e=>up (SC _ _ (shB _ _ e)) fun z=>by rw [z,nols.1] at e; cases e) shB lC (fun y o e=>up (sgC _ _ e) fun z=>by rw [z,nols.2] at e; cases e) nA nC,?_,?_,all _ _ L.t L.ot,all _ _ L.s L.os,fun y o e=>?_,fun y o e=>all y o (L.S _ _ e) (L.o y o e),L.n,L.zt,L.zs⟩,all⟩
 ·rw [upd_ne L.n,List.map_append]; exact SC _ _ upd_same
 ·rw [upd_same,List.map_append]; rfl
 ·exact up (SC _ _ (by rw [upd_ne (ne_of_none e L.zt)]; exact SA _ _ (L.S _ _ e))) (ne_of_none e L.zs)
theorem map_set {α β:Type} {xs:List α} {f:α→β} {i:Nat} {x y:α} (h:xs[i]? = some x) (e:f y = f x):(xs.set i y).map f = xs.map f:=by
 refine List.ext_getElem? fun j=>?_
 rw [List.getElem?_map,List.getElem?_map,List.getElem?_set]
 by_cases c:i = j
 ·subst c
  rw [if_pos rfl,if_pos (List.getElem?_eq_some_iff.mp h).1,h]
  exact congrArg some e
 ·rw [if_neg c]
theorem Lsd.step {c:Cs} {b b':Nat} {lt ls:Addr} {H0 H H':Hp} {ts:List Tr} (L:Lsd c b lt ls H0 H ts) {i:Nat} {t:Tr} (ht:ts[i]? = some t) (hb:b ≤ b') {a':TA} {h' k' g':Hp} {M':MS} {p:Addr} (st':Stp t.h t.k t.g h' k' g' p H H') (i':Inv c a' h' k' g' t.x t.st M' H') (m':MOk b' M') (np:Out ts p)
  (n1:lt ≠ p) (n2:ls ≠ p) (n3:∀ y o,H0 y = some o→y ≠ p):Lsd c b' lt ls H0 H' (ts.set i ⟨a',h',k',g',t.x,t.st,M'⟩):=by
 have go:∀ {y o},H y = some o→Out ts y→y ≠ p→H' y = some o∧h' y = none∧g' y = none:=fun e q n=>st'.st _ _ e (q i t ht).1 (q i t ht).2 n
 exact ⟨L.F.step ht hb st' i' m' np,by rw [map_set (f:=fun t:Tr=>V.ref t.x) (y:=⟨a',h',k',g',t.x,t.st,M'⟩) ht rfl]; exact (go L.t L.ot n1).1,by rw [map_set (f:=fun t:Tr=>V.ref t.st) (y:=⟨a',h',k',g',t.x,t.st,M'⟩) ht rfl]; exact (go L.s L.os n2).1,L.ot.step (t:=t) (go L.t L.ot n1).2,L.os.step (t:=t) (go L.s L.os n2).2,
  fun y o e=>(go (L.S _ _ e) (L.o y o e) (n3 y o e)).1,fun y o e=>(L.o y o e).step (t:=t) (go (L.S _ _ e) (L.o y o e) (n3 y o e)).2,L.n,L.zt,L.zs⟩
theorem twin_same {h h2 h3 H Hx Hy:Hp} (S:Same H Hx) (s2:Same h2 Hx) (n:∀ y o,h2 y = some o→H y = none∨h y = some o∧FZ o = true) (cg:Chg h2 h3 Hx Hy):Same H Hy:=fun y o e=>by
 cases q:h2 y with
 | none=>exact cg.fr y o (S _ _ e) q
 | some o'=>
  have w:=s2 _ _ q
  rw [S _ _ e] at w
  cases w
  rcases n y _ q with z | ⟨_,f⟩
  ·rw [e] at z; cases z
  ·exact cg.fz y o (S _ _ e) f
section
variable {P:Program} {w:World} {K:PySem.W.Frag} {mg:Str→Option Value} {base:Heap} {c:Cs}
abbrev s_law:Stmt:=top 76
theorem ok_law (F:Fx P w K mg base c):OkD P w K mg base "law" s_law ["_law_script"] 14 (spLaw K):=by
 obtain ⟨fL,fdL,XLeaf⟩:=F.LX
 obtain ⟨fT,fdT,XTree⟩:=F.TX
 have GTree:=ok_T_init F XTree
 have GLeaf:=ok_leaf F XLeaf
 have C_Rounds:=F.cR
 have T:=F.r.T
 have n_zip:=F.r.nz
 have E_law_cell:=ok_cell F
 have E_law_box:=ok_box F
 have E_law_take:=ok_take F
 have E_law_state:=ok_state F
 have E_law_stands:=ok_stands F
 have E_law_done:=ok_done F
 have E_law_copied:=ok_copied F
 have E_Tree_twin:=ok_T_twin F
 have E_Tree_rounds:=ok_T_rounds F
 have E_Rounds_given:=ok_given F
 have E_Tree_made:=ok_T_made F
 have C_Tree:=XTree.cl
 refine F.r.d_law.ok (N:=["_law_script","_law_box_here","_law_most","_law_parted","_law_trees","_law_states","_law_k","_law_at","_law_tree","_law_state_here","_law_due"]) fun sc H Q hr h=>?_
 obtain ⟨s,ns,rfl,hS,hz,k⟩:=h
 have big:=big1000
 refine' ⟨_,(pss_cons (ps_v sc 1 (pe_d E_law_box hr (pa_c (pe_d E_law_cell hr (pa_c (pv 0) (pa_c pe_int pa_nil))) pa_nil)))
  (pss_cons (ps_v sc 2 (pe_op op_add pe_int (pe_d E_law_take hr (pa_c (pv 1) (pa_c pe_int pa_nil)))))
  (pss_cons (ps_v sc 3 (pe_op op_add pe_int (pe_d E_law_take hr (pa_c (pv 1) (pa_c pe_int pa_nil)))))
  (pss_cons (ps_v sc 4 (pe_lst (pa_c (pe_make XTree.mak GTree (hr.mono (by decide)) rfl XTree.m XTree.bi .nil pass0 (pa_c (pv 2) pa_nil)) pa_nil)))
  (pss_cons (ps_v sc 5 (pe_lst (pa_c (pe_d E_law_state hr (pa_c (pv 2) pa_nil)) pa_nil)))
  (pss_cons (ps_for PassesOwn.never rfl (pi_range2 rfl T.n_range (pa_c pe_int (pa_c (pe_callB (call_max2 rfl) rfl T.n_max bt_max (pa_c pe_int (pa_c (pe_callB (call_min2 rfl) rfl T.n_min bt_min (pa_c (pe_callB call_len_seq rfl T.n_len bt_len (pa_c (pv 0) pa_nil)) (pa_c pe_int pa_nil))) pa_nil))) pa_nil))) (pg_v sc 6)
   (pss_cons (ps_v sc 1 (pe_d E_law_box hr (pa_c (pe_d E_law_cell hr (pa_c (pv 0) (pa_c (pv 6) pa_nil))) pa_nil)))
  (pss_cons (ps_v sc 7 (pe_d E_law_take hr (pa_c (pv 1) (pa_c (pe_callB call_len_seq rfl T.n_len bt_len (pa_c (pv 4) pa_nil)) pa_nil))))
  (pss_cons (ps_if (PW.pt (pw_or (pt_cmpR op_eq (pv 6) (pv 3) (nomark _)) (pw_or1 (pt_cmpR op_eq (pv 6) (pe_op op_add (pv 3) pe_int) (nomark _)))))
   (pss_cons (ps_expr (pe_bm PySem.F.plainAttrs_list PySem.F.slot_list_append PySem.F.type_list_append mt_append (pv 4) (pa_c (pe_m0 (pe_ix ix_list (pv 4) (pv 7) (fun _ _=>rfl)) C_Tree E_Tree_twin hr) pa_nil)))
  (pss_one (ps_expr (pe_bm PySem.F.plainAttrs_list PySem.F.slot_list_append PySem.F.type_list_append mt_append (pv 5) (pa_c (pe_d E_law_copied hr (pa_c (pe_ix ix_list (pv 5) (pv 7) (fun _ _=>rfl)) pa_nil)) pa_nil)))))
   pss_nil)
  (pss_cons (ps_if (pt_not (pt_val (pe_d E_law_done hr (pa_c (pv 1) (pa_c (pe_ix ix_list (pv 4) (pv 7) (fun _ _=>rfl)) (pa_c (pe_ix ix_list (pv 5) (pv 7) (fun _ _=>rfl)) pa_nil))))))
   (pss_one (ps_ret pe_bl))
   pss_nil)
  (pss_cons (ps_for PassesOwn.never rfl (pi_zipL rfl n_zip bt_zip (pa_c (pv 4) (pa_c (pv 5) pa_nil))) (pg_tup rfl (pgs_cons (pg_v sc 8) (pgs_cons (pg_v sc 9) pgs_nil)))
   (pss_one (ps_if (pt_not (pt_val (pe_d E_law_stands hr (pa_c (pv 8) (pa_c (pv 9) pa_nil)))))
   (pss_one (ps_ret pe_bl))
   pss_nil)))
  (pss_cons (ps_v sc 10 (pe_callBK (call_minDf hr.hd) rfl T.n_min bt_min (pa_c (pe_gs hr (pe_ix ix_list (pv 5) (pv 7) (fun _ _=>rfl))) pa_nil) (pk_cons (pe_callB call_lenD rfl T.n_len bt_len (pa_c (pe_gs hr (pe_ix ix_list (pv 5) (pv 7) (fun _ _=>rfl))) pa_nil)) pk_nil)))
  (pss_cons (ps_if (pt_cmpR op_ne (pe_m0 (pe_m0 (pe_ix ix_list (pv 4) (pv 7) (fun _ _=>rfl)) C_Tree E_Tree_rounds hr) C_Rounds E_Rounds_given hr) (pv 10) (nomark _))
   (pss_one (ps_ret pe_bl))
   pss_nil)
  (pss_cons (ps_expr (pe_m (pe_m0 (pe_ix ix_list (pv 4) (pv 7) (fun _ _=>rfl)) C_Tree E_Tree_twin hr) C_Tree E_Tree_made hr (pa_c pe_int (pa_c (pe_make XLeaf.mak GLeaf (hr.mono (by decide)) rfl XLeaf.m XLeaf.bi .nil pass0 (pa_c (pe_lst pa_nil) (pa_c (pe_lst pa_nil) pa_nil))) (pa_c pe_non (pa_c pe_non pa_nil))))))
  (pss_one (ps_if (pt_not (pt_val (pe_d E_law_stands hr (pa_c (pe_ix ix_list (pv 4) (pv 7) (fun _ _=>rfl)) (pa_c (pe_ix ix_list (pv 5) (pv 7) (fun _ _=>rfl)) pa_nil)))))
   (pss_one (ps_ret pe_bl))
   pss_nil)))))))))))
  (pss_one (ps_ret pe_bl)))))))),?_⟩
 walk_at "r"
 refine ⟨s,0,ns,rfl,hS,fun i0=>?_⟩
 walk_at "r"
 refine ⟨i0,rfl,fun p H1 fp B1 S1=>?_⟩
 walk_at "r"
 refine ⟨p,4,0,rfl,B1,by omega,by decide,by decide,fun r H2 r0 r1 B2 k2=>?_⟩
 have S2:Same H H2:=fun b o z=>k2 b o (S1 _ _ z) fun e=>by rw [e,fp] at z; cases z
 walk_at "r"
 refine ⟨p,8,1,rfl,B2,by omega,by decide,by decide,fun r' H2' r0' r1' B2' k2'=>?_⟩
 replace S2:Same H H2':=fun b o z=>k2' b o (S2 _ _ z) fun e=>by rw [e,fp] at z; cases z
 clear B1 k2 S1 B2 k2' B2'
 walk_at "r"
 intro x dx fx fdx nxd
 have S3:Same H2' (upd (upd H2' dx (.own x)) x (.ins c.T dx [])):=fun b o z=>by rw [upd_ne (ne_of_none z fx),upd_ne (ne_of_none z fdx)]; exact z
 have e3:=upd_same (H:=upd H2' dx (.own x)) (a:=x) (o:=.ins c.T dx [])
 generalize upd (upd H2' dx (.own x)) x (.ins c.T dx []) = H3 at *
 refine ⟨x,dx,2 + r,rfl,e3,by omega,by omega,fun a h H4 t4 sh4 nw4 bt4=>⟨rfl,?_⟩⟩
 have S4:Same H H4:=fun b o z=>bt4 b o (S3 _ _ (S2 _ _ z)) fun e=>by rw [e] at z; have:=S2 _ _ z; rw [fx] at this; cases this
 have out4:∀ b o,H b = some o→h b = none:=fun b o z=>by
  rcases nw4 b with e | e | e
  ·exact e
  ·rw [e] at z; have:=S2 _ _ z; rw [fx] at this; cases this
  ·have:=S3 _ _ (S2 _ _ z); rw [e] at this; cases this
 clear nw4 bt4 S3 S2 e3
 walk_at "r"
 refine ⟨(by show 1 ≤ sizeLine; decide),fun lt ft=>?_⟩
 have St:=Same.upd (o:=.lst [.ref x]) ft
 have et:upd H4 lt (.lst [.ref x]) lt = some (.lst [.ref x]):=upd_same
 generalize upd H4 lt _ = H4' at *
 walk_at "r"
 refine ⟨2 + r,rfl,fun gN gS st dn nd la H5 S5 tn ts ds sN sS nwN nwS=>?_⟩
 have fr:∀ b o,H4' b = some o→uH gN gS b = none:=fun b o z=>by
  rw [uH_none]
  constructor
  ·rcases nwN b with e | e
   ·exact e
   ·rw [e] at z; cases z
  ·rcases nwS b with e | e
   ·exact e
   ·rw [e] at z; cases z
 have inv5:Inv c a h gN (uH gN gS) x st (MS.init (2 + r)) H5:=⟨t4,⟨gS,dn,nd,la,[0],[],0,rfl,ds,tn,ts,rfl⟩,fun b=>by
  cases e:h b with
  | none=>exact .inl rfl
  | some o=>exact .inr (fr b o (St _ _ (sh4 _ _ e))),(sh4.trans St).trans S5,uH_same sN sS⟩
 have ok0:=MOk.init (2 + r) ⟨by omega,by omega⟩
 walk_at "r"
 refine ⟨(by show 1 ≤ sizeLine; decide),fun ls fs=>?_⟩
 have Ss:=Same.upd (o:=.lst [.ref st]) fs
 have es:upd H5 ls (.lst [.ref st]) ls = some (.lst [.ref st]):=upd_same
 generalize upd H5 ls _ = H6 at *
 have nls:lt ≠ ls:=ne_of_none (S5 _ _ et) fs
 have L6:Lsd c 0 lt ls H H6 [⟨a,h,gN,uH gN gS,x,st,MS.init (2 + r)⟩]:=by
  have one:∀ {j:Nat} {t:Tr},[(⟨a,h,gN,uH gN gS,x,st,MS.init (2 + r)⟩:Tr)][j]? = some t→j = 0∧t = ⟨a,h,gN,uH gN gS,x,st,MS.init (2 + r)⟩:=fun {j t} e=>by
   cases j with
   | zero=>cases e; exact ⟨rfl,rfl⟩
   | succ j=>cases e
  refine ⟨⟨fun j t e=>?_,fun j j' t u e e' n=>?_⟩,Ss _ _ (S5 _ _ et),es,fun j t e=>?_,fun j t e=>?_,((S4.trans St).trans S5).trans Ss,fun y o z j t e=>?_,nls,S4.free ft,((S4.trans St).trans S5).free fs⟩
  ·obtain ⟨_,rfl⟩:=one e
   exact ⟨inv5.same (inv5.sh.trans Ss) (inv5.sg.trans Ss),ok0⟩
  ·exact absurd ((one e).1.trans (one e').1.symm) n
  ·obtain ⟨_,rfl⟩:=one e
   exact ⟨sh4.free ft,fr _ _ et⟩
  ·obtain ⟨_,rfl⟩:=one e
   exact ⟨inv5.sh.free fs,inv5.sg.free fs⟩
  ·obtain ⟨_,rfl⟩:=one e
   exact ⟨out4 y o z,fr _ _ (St _ _ (S4 _ _ z))⟩
 clear inv5 ok0 fr out4 nwN nwS sN sS ds tn ts S5 Ss es St et S4 t4 sh4
 walk_at "r"
 refine ⟨s,_,rfl,.inl (sqS L6.S hS),?_⟩
 walk_at "r"
 refine ⟨_,_,rfl,?_⟩
 walk_at "r"
 refine ⟨_,_,rfl,?_⟩
 rw [List.length_map]
 have b1:(if (if (21:Int) < (ns.length:Int) then (21:Int) else (ns.length:Int)) > 6 then (if (21:Int) < (ns.length:Int) then (21:Int) else (ns.length:Int)) else 6) ≤ 21∧6 ≤ (if (if (21:Int) < (ns.length:Int) then (21:Int) else (ns.length:Int)) > 6 then (if (21:Int) < (ns.length:Int) then (21:Int) else (ns.length:Int)) else 6):=by
  constructor <;> (repeat' split) <;> omega
 generalize (if (if (21:Int) < (ns.length:Int) then (21:Int) else (ns.length:Int)) > 6 then (if (21:Int) < (ns.length:Int) then (21:Int) else (ns.length:Int)) else 6) = top at *
 walk_at "r"
 refine k_rng2 (by omega) (by omega) (by omega) (by omega) ?_
 refine q_forR (fun i σ H7=>∃ (o1 o6 o7 o8 o9 o10:Option V) (ts:List Tr),σ = [some (.ref s),o1,some (.int (2 + r)),some (.int (2 + r')),some (.ref lt),some (.ref ls),o6,o7,o8,o9,o10]∧Lsd c i lt ls H H7 ts∧0 < ts.length∧ts.length ≤ i + 1) ⟨_,_,_,_,_,_,_,rfl,L6,Nat.one_pos,Nat.le_refl 1⟩ ?_ ?_
 ·rintro i σ H7 hi ⟨o1,o6,o7,o8,o9,o10,ts,rfl,L,l0,l1⟩
  have hi':i < 20:=by omega
  walk_at "r"
  refine ⟨s,i + 1,ns,(by rw [show (1:Int) + (i:Int) = ((i + 1:Nat):Int) by omega]; rfl),sqS L.S hS,fun i1=>?_⟩
  walk_at "r"
  refine ⟨i1,rfl,fun p' H8 fp' B8 S8=>?_⟩
  walk_at "r"
  refine ⟨lt,_,rfl,.inl (SqL.of (S8 _ _ L.t)),?_⟩
  rw [List.length_map]
  walk_at "r"
  refine ⟨p',_,0,rfl,B8,by omega,by omega,by omega,fun at' H9 a0 a1 B9 k9=>?_⟩
  have L9:=L.kb fp' S8 k9
  obtain ⟨j,t,rfl,htj⟩:=atI_map (f:=fun t:Tr=>V.ref t.x) a0 a1
  have l9:ts.length ≤ 100:=by omega
  have nf9:H9 p' ≠ none:=by obtain ⟨xs,e⟩:=B9.lst; rw [e]; exact fun z=>nomatch z
  have op9:Out ts p':=L.F.free fp'
  have np1:lt ≠ p':=ne_of_none L.t fp'
  have np2:ls ≠ p':=ne_of_none L.s fp'
  have np3:∀ y o,H y = some o→y ≠ p':=fun y o e=>ne_of_none (L.S _ _ e) fp'
  change tSeq _ _ _ [some (.ref s),some (.ref p'),some (.int (2 + r)),some (.int (2 + r')),some (.ref lt),some (.ref ls),some (.int (1 + i)),some (.int j),o8,o9,o10] _
  refine s_join (fun σ1 H1=>∃ (ts1:List Tr) (t1:Tr),σ1 = [some (.ref s),some (.ref p'),some (.int (2 + r)),some (.int (2 + r')),some (.ref lt),some (.ref ls),some (.int (1 + i)),some (.int j),o8,o9,o10]∧Lsd c i lt ls H H1 ts1∧0 < ts1.length∧ts1.length ≤ i + 2∧ts1[j]? = some t1∧Box H1 p' 1∧Out ts1 p') (fun N z=>?_) ?_
  ·refine s_if (r_orB (decide (V.int (1 + (i:Int)) = V.int (2 + r'))) (decide (V.int (1 + (i:Int)) = V.int (2 + r' + 3))) (fun R z=>?_) (fun R z=>?_) ?_)
   ·walk_at "r"
    exact z
   ·walk_at "r"
    exact z
   by_cases c1:(decide (V.int (1 + (i:Int)) = V.int (2 + r')) || decide (V.int (1 + (i:Int)) = V.int (2 + r' + 3))) = true
   ·rw [if_pos c1]
    obtain ⟨it,mt⟩:=L9.F.i j t htj
    obtain ⟨tp,htp,_⟩:=mt.tp
    have few:=mt.few
    have ht9:=L9.t
    have hx9:=it.sh _ _ it.t.x
    walk_at "r"
    refine q_ixL ht9 (at_map htj) ?_
    walk_at "r"
    refine ⟨t.a,t.h,t.x,t.M,tp,rfl,it.t,it.sh,mt.mo.1,mt.mo.2,htp,fun x' a' h' HA SA tA shA nA=>?_⟩
    have FB:=(L9.F.same SA).upd (o:=.lst (ts.map (fun t=>V.ref t.x) ++ [.ref x'])) L9.ot
    have hsB:upd HA lt (.lst (ts.map (fun t=>V.ref t.x) ++ [.ref x'])) ls = some (.lst (ts.map fun t=>V.ref t.st)):=by rw [upd_ne (Ne.symm L9.n)]; exact SA _ _ L9.s
    have npt:p' ≠ lt:=(ne_of_none L.t fp').symm
    have nps:p' ≠ ls:=(ne_of_none L.s fp').symm
    have BB:Box (upd HA lt (.lst (ts.map (fun t=>V.ref t.x) ++ [.ref x']))) p' 1:=(B9.same SA).to fun o e=>by rw [upd_ne npt]; exact e
    walk_at "r"
    refine q_append (SA _ _ ht9) (by rw [List.length_map]; omega) ?_
    generalize hHB:upd HA lt (.lst (ts.map (fun t=>V.ref t.x) ++ [.ref x'])) = HB at *
    walk_at "r"
    refine q_ixL hsB (at_map htj) ?_
    walk_at "r"
    refine ⟨t.k,t.g,t.st,t.M,rfl,it.l,(FB.i j t htj).1.sg,by omega,fun st' k' g' HC SC lC sgC nC=>?_⟩
    walk_at "r"
    refine q_append (SC _ _ hsB) (by rw [List.length_map]; omega) ?_
    have BC:=BB.same SC
    rw [← hHB] at SC nC
    obtain ⟨LD,all⟩:=L9.add htj SA tA shA nA SC lC sgC nC
    obtain ⟨xs,e9⟩:=B9.lst
    walk_at "r"
    exact z _ _ ⟨_,t,rfl,LD,by rw [List.length_append]; omega,by rw [List.length_append]; show _ + 1 ≤ _; omega,by rw [List.getElem?_append_left (List.getElem?_eq_some_iff.mp htj).1]; exact htj,BC.to fun o e=>by rw [upd_ne nps]; exact e,all _ _ e9 op9⟩
   ·rw [if_neg c1]
    walk_at "r"
    exact z _ _ ⟨ts,t,rfl,L9,l0,by omega,htj,B9,op9⟩
  rintro σ1 H1 ⟨ts1,t1,rfl,L1,l01,l11,ht1,B1,op1⟩
  clear L9 htj B9 op9 k9 B8 S8 nf9 l9 L
  obtain ⟨it1,mt1⟩:=L1.F.i j t1 ht1
  have htH:=L1.t
  have hsH:=L1.s
  walk_at "r"
  refine q_ixL htH (at_map ht1) ?_
  walk_at "r"
  refine q_ixL hsH (at_map ht1) ?_
  walk_at "r"
  refine ⟨t1.a,t1.h,t1.k,t1.g,t1.x,t1.st,t1.M,i,p',1,rfl,it1,mt1,by omega,B1,by omega,(op1 j t1 ht1).1,(op1 j t1 ht1).2,fun a2 h2 k2 g2 M2 H2 inv2 ok2 st2=>?_⟩
  have L2:=L1.step ht1 (Nat.le_succ i) st2 inv2 ok2 op1 np1 np2 np3
  have ht2:(ts1.set j ⟨a2,h2,k2,g2,t1.x,t1.st,M2⟩)[j]? = some ⟨a2,h2,k2,g2,t1.x,t1.st,M2⟩:=by rw [List.getElem?_set,if_pos rfl,if_pos (List.getElem?_eq_some_iff.mp ht1).1]
  have l2:(ts1.set j ⟨a2,h2,k2,g2,t1.x,t1.st,M2⟩).length = ts1.length:=List.length_set
  generalize ts1.set j _ = ts2 at *
  clear L1 it1 mt1 htH hsH ht1 st2 B1 op1
  have few:=ok2.few
  have ln:=ok2.ln
  walk_at "r"
  refine r_zip ?_
  walk_at "r"
  refine ⟨lt,ls,rfl,⟨_,SqL.of L2.t⟩,⟨_,SqL.of L2.s⟩,?_⟩
  refine q_forZ (K:=K) (xs:=ts2.map fun t=>V.ref t.x) (ys:=ts2.map fun t=>V.ref t.st) (by rw [List.length_map,List.length_map]) (fun m σ H3=>∃ o8 o9:Option V,σ = [some (.ref s),some (.ref p'),some (.int (2 + r)),some (.int (2 + r')),some (.ref lt),some (.ref ls),some (.int (1 + i)),some (.int j),o8,o9,o10]∧Same H2 H3) ⟨o8,o9,rfl,Same.refl _⟩ ?_ ?_ ?_
  ·rintro m σ H3 _ ⟨_,_,_,S3⟩
   exact ⟨SqL.of (S3 _ _ L2.t),SqL.of (S3 _ _ L2.s)⟩
  ·rintro m x y tt σ H3 hx hy ⟨o8,o9,rfl,S3⟩ ftt
   rw [List.getElem?_map] at hx hy
   obtain ⟨u,hu,rfl⟩:=Option.map_eq_some_iff.mp hx
   rw [hu] at hy
   cases hy
   obtain ⟨iu,mu⟩:=L2.F.i m u hu
   have S4:=Same.upd (o:=.tup [.ref u.x,.ref u.st]) ftt
   have e4:upd H3 tt (.tup [.ref u.x,.ref u.st]) tt = some (.tup [.ref u.x,.ref u.st]):=upd_same
   generalize upd H3 tt _ = H4 at *
   have S24:=S3.trans S4
   walk_at "r"
   refine ⟨u.a,u.h,u.x,u.k,u.g,u.st,u.M,i + 1,rfl,iu.t,iu.sh.trans S24,iu.l,iu.sg.trans S24,mu,by omega,fun H5 S5=>?_⟩
   walk_at "r"
   exact ⟨_,_,rfl,S24.trans S5⟩
  rintro σ H3 ⟨o8',o9',rfl,S3⟩
  have L3:=L2.same S3
  obtain ⟨gS,dn,nd,la,us,fs,tp,rfl,ds,tn,ts',htp⟩:=id inv2.l
  have sg3:=inv2.sg.trans S3
  have sN3:Same k2 H3:=uH_sl.trans sg3
  have sS3:Same gS H3:=(uH_sr ds).trans sg3
  have hs3:=sS3 _ _ ts'.s
  have hls:=L3.s
  have hlt:=L3.t
  refine s_join (fun σ' H'=>∃ d:Int,σ' = [some (.ref s),some (.ref p'),some (.int (2 + r)),some (.int (2 + r')),some (.ref lt),some (.ref ls),some (.int (1 + i)),some (.int j),o8',o9',some (.int d)]∧GivenL fs M2.ns.length d∧H3 = H') (fun N z=>?_) ?_
  ·walk_at "r"
   refine q_ixL hls (at_map ht2) ?_
   walk_at "r"
   refine q_ixL hls (at_map ht2) ?_
   walk_at "r"
   refine ⟨dn,_,rfl,sN3 _ _ tn.d,?_⟩
   walk_at "r"
   refine ⟨la.lf,fs,_,rfl,rfl,SqL.of (sS3 _ _ ts'.f),fun e=>?_,fun m hm mn=>?_⟩
   ·walk_at "r"
    exact z _ _ ⟨_,rfl,.inl ⟨e,by rw [pK_len,tn.l]⟩,rfl⟩
   ·walk_at "r"
    exact z _ _ ⟨_,rfl,.inr ⟨hm,mn⟩,rfl⟩
  rintro σ' H' ⟨d,rfl,gd,rfl⟩
  have sh3:=inv2.sh.trans S3
  have hx3:=sh3 _ _ inv2.t.x
  walk_at "r"
  refine q_ixL hlt (at_map ht2) ?_
  walk_at "r"
  refine ⟨a2,h2,t1.x,M2,rfl,inv2.t,sh3,fun y dy du dk df dc H5 fy fb S5 r5=>?_⟩
  have hy5:=r5.x
  walk_at "r"
  refine ⟨y,dy,du,dk,df,dc,M2.R,rfl,r5,ok2.r,by omega,fun q H6 hq _ k6=>?_⟩
  have S6:Same H3 H6:=fun b o e=>k6 b o (S5 _ _ e) fun z=>by
   simp only [List.mem_cons,List.not_mem_nil,or_false] at z
   rcases z with rfl | rfl
   ·rw [fb _ (by simp)] at e; cases e
   ·rw [fb _ (by simp)] at e; cases e
  have eq:V.int q = V.int d:=by
   congr 1
   rcases hq with ⟨u1,u2⟩ | ⟨u1,u2⟩
   ·rcases gd with ⟨v1,v2⟩ | ⟨v1,v2⟩
    ·rw [u2,v2,ln]
    ·have:=ts'.pf.mem_iff.mp v1
     rw [u1] at this; cases this
   ·rcases gd with ⟨v1,v2⟩ | ⟨v1,v2⟩
    ·have:=ts'.pf.mem_iff.mpr u1
     rw [v1] at this; cases this
    ·have q1:=u2 _ (ts'.pf.mem_iff.mp v1)
     have q2:=v2 _ (ts'.pf.mem_iff.mpr u1)
     omega
  walk_at "r"
  refine iteNS eq ?_
  have L6:=L3.same S6
  have hlt6:=L6.t
  have sh6:=sh3.trans S6
  have hx6:=sh6 _ _ inv2.t.x
  clear hlt hls hx3 hy5 eq
  obtain ⟨tq,htq,_⟩:=ok2.tp
  walk_at "r"
  refine q_ixL hlt6 (at_map ht2) ?_
  walk_at "r"
  refine ⟨a2,h2,t1.x,M2,tq,rfl,inv2.t,sh6,ok2.mo.1,ok2.mo.2,htq,fun x' a' h' HA SA tA shA nA=>?_⟩
  have hxA:=shA _ _ tA.x
  walk_at "r"
  refine ⟨(by show 0 ≤ sizeLine; decide),fun l1' f1'=>?_⟩
  have Sa:=Same.upd (o:=.lst []) f1'
  have ea:upd HA l1' (.lst []) l1' = some (.lst (([]:List Int).map V.int)):=upd_same
  generalize upd HA l1' _ = HB at *
  walk_at "r"
  refine ⟨(by show 0 ≤ sizeLine; decide),fun l2' f2'=>?_⟩
  have Sb:=Same.upd (o:=.lst []) f2'
  have eb:upd HB l2' (.lst []) l2' = some (.lst (([]:List Int).map V.int)):=upd_same
  generalize upd HB l2' _ = HC at *
  walk_at "r"
  refine mk_page (Sb _ _ ea) eb ⟨fun _ z=>(nomatch z),.nil,by decide⟩ ⟨rfl,fun _ z=>nomatch z⟩ fun pg dg tk tg HD p1 p2 p3 SD q1 q2 q3=>?_
  have SAC:=Sa.trans Sb
  have SAD:=SAC.trans SD
  obtain ⟨hp,cgp,hpg,up⟩:=Pg.add (cp:=c.pg) (lv:=0) (ks:=[]) (gs:=[]) (Chg.same shA SAD) (SAC.free p1) (SAC.free p2) (SAC.free p3) q1 q2 q3
  have tp':=tA.same up
  have hxD:=SAD _ _ hxA
  clear hxA
  walk_at "r"
  refine ⟨a',hp,x',M2,0,pg,[],[],none,none,rfl,tp',cgp.sm,ok2.r,ln,by omega,by decide,by decide,hpg,.inl ⟨rfl,rfl⟩,fun jj a3 h3 HE gv t3 c3=>?_⟩
  have SE:Same H6 HE:=twin_same (h:=h2) (SA.trans SAD) cgp.sm (fun y o e=>by
   rcases cgp.nw y with q | q | q
   ·rw [q] at e; cases e
   ·cases e':h' y with
    | none=>exact absurd e' q
    | some o'=>
     have w:=up _ _ e'
     rw [e] at w
     cases w
     exact nA _ _ e'
   ·exact .inl (SA.free q)) c3
  have LE:=L6.same SE
  have htE:=LE.t
  have hsE:=LE.s
  have S2E:=(S3.trans S6).trans SE
  clear hlt6 hx6 hxD hs3
  walk_at "r"
  refine q_ixL htE (at_map ht2) ?_
  walk_at "r"
  refine q_ixL hsE (at_map ht2) ?_
  walk_at "r"
  refine ⟨a2,h2,t1.x,k2,_,t1.st,M2,i + 1,rfl,inv2.t,inv2.sh.trans S2E,inv2.l,inv2.sg.trans S2E,ok2,by omega,fun HF SF=>?_⟩
  walk_at "r"
  exact ⟨_,_,_,_,_,_,ts2,rfl,LE.same SF,by omega,by omega⟩
 ·rintro σ H7 ⟨o1,o6,o7,o8,o9,o10,ts,rfl,L,l0,l1⟩
  walk_at "r"
  exact k _
end
section
variable {K:PySem.W.Frag} {mg:Str→Option Value} {nm cn q x:Str} {st:Stmt} {ps:List Str} {h:Heap} {C D f:Addr} {od an:Option Addr} {osl:Array (Option Value)} {kV doc pm cdv ct:Value}
theorem fn_facts {d:FuncData} (l1:K.lookup f = some ⟨.type "function",od,.func d,osl⟩):PySem.W.keepIn K (.ref f) = true∧PySem.W.isFn K (.ref f) = true:=by
 refine ⟨by unfold PySem.W.keepIn; dsimp only; rw [l1],?_⟩
 unfold PySem.W.isFn
 rw [show PySem.W.typeIn K (.ref f) = (K.lookup f).map (·.cls) from rfl,l1]
 rfl
theorem kit_m {dd:Option Addr} {cd:ClassData} {b:Bool} (l:K.lookup D = some ⟨.type "type",dd,.cls cd,osl⟩) (s:PySem.W.mroIn K C (.ref C) = some true) (m:PySem.W.mroIn K C (.ref D) = some b):PySem.W.kitOne K (.ref C) (.ref D) = some b:=by
 unfold PySem.W.kitOne
 by_cases e:C = D
 ·subst e
  rw [if_pos (by simp),← m,s]
 ·rw [if_neg (by intro z; exact e (Value.ref.inj (beq_iff_eq.mp z)))]
  have h':PySem.W.clsIn K D = some cd:=by unfold PySem.W.clsIn; rw [l]
  have ty:PySem.W.typeIn K (.ref D) = some (.type "type"):=by
   show (K.lookup D).map (·.cls) = _
   rw [l]
   rfl
  unfold PySem.W.kitCls
  dsimp only
  rw [if_pos (by rw [h',ty]; rfl)]
  exact m
theorem fun_uniq {fd fd':FuncData} (a:Fun K x q st f fd) (b:Fun K x q st f fd'):fd = fd':=by
 obtain ⟨_,_,_,_,_,_,_,_,_,_,l1,_⟩:=a.ex
 obtain ⟨_,_,_,_,_,_,_,_,_,_,l2,_⟩:=b.ex
 rw [l1] at l2
 cases l2
 rfl
def BB (K:PySem.W.Frag) (mg:Str→Option Value) (nm q:Str) (st:Stmt):Prop:=∃ C D f fd,mg "Leaf" = some (.ref C)∧mg "Inner" = some (.ref D)∧Meth K C nm f∧Meth K D nm f∧Fun K nm q st f fd∧Binds K fd ["self"] []
def KT (K:PySem.W.Frag) (mg:Str→Option Value):Prop:=∃ cL cI,mg "Leaf" = some (.ref cL)∧mg "Inner" = some (.ref cI)∧PySem.W.kitOne K (.ref cL) (.ref cL) = some true∧PySem.W.kitOne K (.ref cL) (.ref cI) = some false∧PySem.W.kitOne K (.ref cI) (.ref cL) = some false∧PySem.W.kitOne K (.ref cI) (.ref cI) = some true
section
variable (X:K.In h) (G:h.Ns mainGlobals mg)
include X G
theorem int_of {i:Int} {t:Tok} (a:PySem.W.nsIn K mainGlobals x = some (some (.int i t))):∃ t,mg x = some (.int i t):=⟨t,PySem.W.mg_of X G a⟩
theorem kin_mk {cL cI:Addr} {d2 d3:Option Addr} {e2 e3:ClassData} {s2 s3:Array (Option Value)} (aL:PySem.W.nsIn K mainGlobals "Leaf" = some (some (.ref cL))) (aI:PySem.W.nsIn K mainGlobals "Inner" = some (some (.ref cI)))
  (lL:K.lookup cL = some ⟨.type "type",d2,.cls e2,s2⟩) (lI:K.lookup cI = some ⟨.type "type",d3,.cls e3,s3⟩) (m1:PySem.W.mroIn K cL (.ref cL) = some true) (m2:PySem.W.mroIn K cI (.ref cI) = some true) (m5:PySem.W.mroIn K cL (.ref cI) = some false) (m6:PySem.W.mroIn K cI (.ref cL) = some false):KT K mg:=
 ⟨cL,cI,PySem.W.mg_of X G aL,PySem.W.mg_of X G aI,kit_m lL m1 m1,kit_m lI m1 m5,kit_m lL m2 m6,kit_m lI m2 m2⟩
section
variable (k1:PySem.W.findIn K (.ref C) nm = some (some (.ref f))) (l1:K.lookup f = some ⟨.type "function",od,.func (PySem.W.fnOf nm q (defArgs st) (defBody st) (defScope st) .none kV doc pm an cdv ct),osl⟩) (c1:PySem.W.codeIn K cdv q = true)
  (hb:∀ (kV doc pm:Value) (an:Option Addr) (cdv ct:Value) (us:List Value),us.length = ps.length→bindArgs (PySem.W.fnOf nm q (defArgs st) (defBody st) (defScope st) .none kV doc pm an cdv ct) ⟨us,[]⟩ = pure (ps.zip us))
include k1 l1 c1 hb
theorem meth_mk (aC:PySem.W.nsIn K mainGlobals cn = some (some (.ref C))):MM K mg cn nm q st ps:=by
 obtain ⟨kf,ff⟩:=fn_facts l1
 exact ⟨C,f,_,PySem.W.mg_of X G aC,⟨k1,ff,kf⟩,fun_mk (st:=st) l1 c1 kf,(fun_mk (st:=st) l1 c1 kf).binds hb⟩
theorem both_mk (e:ps = (["self"]:List Str)) (aC:PySem.W.nsIn K mainGlobals "Leaf" = some (some (.ref C))) (aD:PySem.W.nsIn K mainGlobals "Inner" = some (some (.ref D))) (k2:PySem.W.findIn K (.ref D) nm = some (some (.ref f))):BB K mg nm q st:=by
 obtain ⟨kf,ff⟩:=fn_facts l1
 subst e
 exact ⟨C,D,f,_,PySem.W.mg_of X G aC,PySem.W.mg_of X G aD,⟨k1,ff,kf⟩,⟨k2,ff,kf⟩,fun_mk (st:=st) l1 c1 kf,(fun_mk (st:=st) l1 c1 kf).binds hb⟩
end
section
variable (aC:PySem.W.nsIn K mainGlobals cn = some (some (.ref C))) (l1:K.lookup f = some ⟨.type "function",od,.func (PySem.W.fnOf "__init__" q (defArgs st) (defBody st) (defScope st) .none kV doc pm an cdv ct),osl⟩) (c1:PySem.W.codeIn K cdv q = true)
  (hb:∀ (kV doc pm:Value) (an:Option Addr) (cdv ct:Value) (us:List Value),us.length = ps.length→bindArgs (PySem.W.fnOf "__init__" q (defArgs st) (defBody st) (defScope st) .none kV doc pm an cdv ct) ⟨us,[]⟩ = pure (ps.zip us))
include aC l1 c1 hb
theorem pg_mk (e1:cn = ("Page" : Str)) (e2:q = ("Page.__init__" : Str)) (e3:st = inClass (top 42) 0) (e4:ps = (["self","keys","goods"]:List Str)) (b1:PySem.W.specialIn K (.ref C) "__getattribute__" = some (some (.builtin "type.__getattribute__"))) (b2:PySem.W.readsIn K C (.type "type") = true)
  (b3:PySem.W.findCls K (.ref C) (.type "type") "__init__" = some (.val (.ref f))):∃ cP fP fdP,PgN K mg cP fP fdP:=by
 obtain ⟨kf,ff⟩:=fn_facts l1
 subst e1 e2 e3 e4
 exact ⟨C,f,_,⟨fun_mk l1 c1 kf,(fun_mk (st:=inClass (top 42) 0) l1 c1 kf).binds hb,⟨b1,b2,b3,kf⟩,PySem.W.mg_of X G aC⟩⟩
variable (m1:PySem.W.makesIn K C = true) (i1:PySem.W.findIn K (.ref C) "__init__" = some (some (.ref f))) (i2:PySem.W.keepIn K (.ref C) = true)
  (p1:PySem.W.plainGet K C Str.empty = true) (p2:PySem.W.hasDictIn K C = true) (p3:PySem.W.plainOver K C = true) (p4:PySem.W.findIn K (.ref C) "__setattr__" = some (some (.builtin "object.__setattr__")))
include m1 i1 i2 p1 p2 p3 p4
theorem cl_mk:∃ fd,Mk K C f∧Fun K "__init__" q st f fd∧Binds K fd ps []∧mg cn = some (.ref C)∧Cls K C:=by
 obtain ⟨kf,ff⟩:=fn_facts l1
 exact ⟨_,⟨m1,i1,ff,i2⟩,fun_mk (st:=st) l1 c1 kf,(fun_mk (st:=st) l1 c1 kf).binds hb,PySem.W.mg_of X G aC,⟨p1,p2,p3,p4⟩⟩
theorem kdn_mk (e4:ps = (["self","keys","goods"]:List Str)) (q1:PySem.W.findIn K (.ref C) "__class__" = some (some (.builtin "object.__class__"))) (q2:PySem.W.specialIn K (.builtin "object.__class__") "__get__" = some (some (.builtin "getset_descriptor.__get__"))) (q3:PySem.W.takesIn K (.builtin "object.__class__") = some true) (q4:PySem.W.mroIn K C (.type "object") = some true)
  (n1:PySem.W.findIn K (.ref C) "key_row" = some none) (n2:PySem.W.findIn K (.ref C) "good_row" = some none):∃ C f fd,KdN K mg cn q st C f fd:=by
 obtain ⟨fd,a,b,c,d,e⟩:=cl_mk X G aC l1 c1 hb m1 i1 i2 p1 p2 p3 p4
 subst e4
 exact ⟨C,f,fd,⟨a,b,c,d,⟨e,q1,q2,q3,q4⟩,n1,n2⟩⟩
theorem rdn_mk (e1:cn = ("Rounds" : Str)) (e2:q = ("Rounds.__init__" : Str)) (e3:st = inClass (top 46) 0) (e4:ps = (["self"]:List Str)) (n1:PySem.W.findIn K (.ref C) "in_use" = some none) (n2:PySem.W.findIn K (.ref C) "kept_laps" = some none) (n3:PySem.W.findIn K (.ref C) "free_ones" = some none) (n4:PySem.W.findIn K (.ref C) "call_laps" = some none) (n5:PySem.W.findIn K (.ref C) "lap_now" = some none):∃ C f fd,RdN K mg C f fd:=by
 obtain ⟨fd,a,b,c,d,e⟩:=cl_mk X G aC l1 c1 hb m1 i1 i2 p1 p2 p3 p4
 subst e1 e2 e3 e4
 exact ⟨C,f,fd,⟨a,b,c,d,e,n1,n2,n3,n4,n5⟩⟩
theorem ndn_mk (e1:cn = ("Node" : Str)) (e2:q = ("Node.__init__" : Str)) (e3:st = inClass (top 52) 0) (e4:ps = (["self","level","bears","high","right"]:List Str)) (n1:PySem.W.findIn K (.ref C) "level" = some none) (n2:PySem.W.findIn K (.ref C) "bears" = some none) (n3:PySem.W.findIn K (.ref C) "high" = some none) (n4:PySem.W.findIn K (.ref C) "right" = some none) (n5:PySem.W.findIn K (.ref C) "holder" = some none) (n6:PySem.W.findIn K (.ref C) "written" = some none):∃ C f fd,NdN K mg C f fd:=by
 obtain ⟨fd,a,b,c,d,e⟩:=cl_mk X G aC l1 c1 hb m1 i1 i2 p1 p2 p3 p4
 subst e1 e2 e3 e4
 exact ⟨C,f,fd,⟨a,b,c,d,e,n1,n2,n3,n4,n5,n6⟩⟩
theorem trn_mk (e1:cn = ("Tree" : Str)) (e2:q = ("Tree.__init__" : Str)) (e3:st = inClass (top 53) 0) (e4:ps = (["self","most"]:List Str)) (n1:PySem.W.findIn K (.ref C) "most_keys" = some none) (n2:PySem.W.findIn K (.ref C) "own_rounds" = some none) (n3:PySem.W.findIn K (.ref C) "nodes" = some none) (n4:PySem.W.findIn K (.ref C) "versions" = some none) (n5:PySem.W.findIn K (.ref C) "top_place" = some none):∃ C f fd,TrN K mg C f fd:=by
 obtain ⟨fd,a,b,c,d,e⟩:=cl_mk X G aC l1 c1 hb m1 i1 i2 p1 p2 p3 p4
 subst e1 e2 e3 e4
 exact ⟨C,f,fd,⟨a,b,c,d,e,n1,n2,n3,n4,n5⟩⟩
end
end
end
structure Fc (K:PySem.W.Frag) (mg:Str→Option Value):Prop where
 r:Rst K mg
 PX:∃ cP fP fdP,PgN K mg cP fP fdP
 LX:∃ C f fd,KdN K mg "Leaf" "Leaf.__init__" (inClass (top 43) 0) C f fd
 IX:∃ C f fd,KdN K mg "Inner" "Inner.__init__" (inClass (top 44) 0) C f fd
 KX:KT K mg
 BK:BB K mg "all_keys" "Page.all_keys" (inClass (top 42) 1)
 BG:BB K mg "goods" "Page.goods" (inClass (top 42) 2)
 RX:∃ C f fd,RdN K mg C f fd
 NX:∃ C f fd,NdN K mg C f fd
 TX:∃ C f fd,TrN K mg C f fd
theorem mkF {K:PySem.W.Frag} {mg:Str→Option Value} (Z:Fc K mg):∃ c,∀ P w base,Fx P w K mg base c:=by
 obtain ⟨cL,fL,fdL,XL⟩:=Z.LX
 obtain ⟨cI,fI,fdI,XI⟩:=Z.IX
 obtain ⟨_,_,e1,e2,LL,LI,IL,II⟩:=Z.KX
 cases mg_eq XL.m e1
 cases mg_eq XI.m e2
 obtain ⟨_,_,fK,fdK,e1,e2,kL,kI,nK,bK⟩:=Z.BK
 cases mg_eq XL.m e1
 cases mg_eq XI.m e2
 obtain ⟨_,_,fG,fdG,e1,e2,gL,gI,nG,bG⟩:=Z.BG
 cases mg_eq XL.m e1
 cases mg_eq XI.m e2
 obtain ⟨cR,fR,fdR,XR⟩:=Z.RX
 obtain ⟨cN,fN,fdN,XN⟩:=Z.NX
 obtain ⟨cT,fT,fdT,XT⟩:=Z.TX
 refine ⟨⟨⟨cL,cI⟩,cR,cN,cT⟩,fun P w base=>⟨Z.r,Z.PX,⟨_,_,XL⟩,⟨_,_,XI⟩,⟨XL.ins,XI.ins,XL.m,XI.m,LL,LI,IL,II⟩,⟨fK,fdK,fun C z=>?_,nK,bK⟩,⟨fG,fdG,fun C z=>?_,nG,bG⟩,⟨_,_,XR⟩,⟨_,_,XN⟩,_,_,XT⟩⟩
 all_goals rcases z with rfl | rfl <;> first | exact ⟨XL.ins.cl,by assumption⟩ | exact ⟨XI.ins.cl,by assumption⟩
theorem last {P:Program} {w:World} {K:PySem.W.Frag} {mg:Str→Option Value} {fa:Addr} (Z:Fc K mg) (hmg:mg "law" = some (.ref fa)) :
  ∃ fd:FuncData,(∀ (s:Shared) (u:Value),BindsTo s fd ⟨[u],[]⟩ [("_law_script",u)])∧∀ base:Heap,FnOk P w K mg base CX0 14 fa fd ["_law_script"] (spLaw K):=by
 obtain ⟨c,F⟩:=mkF Z
 obtain ⟨f,fd,Dl⟩:=Z.r.d_law
 cases mg_eq hmg Dl.m
 refine ⟨fd,?_,fun base=>?_⟩
 ·obtain ⟨oc,od,kV,doc,pm,an,cdv,ct,osl,e,lk,hcd⟩:=Dl.fn.ex
  subst e
  exact fun s u=>.of_eq rfl
 ·obtain ⟨f',fd',D',G'⟩:=ok_law (F P w base)
  cases mg_eq hmg D'.m
  cases fun_uniq Dl.fn D'.fn
  exact G'
end K31
open PySem PySem.W PyProof.Rows
set_option maxRecDepth 100000 in
set_option maxHeartbeats 0 in
theorem PySem.Challenge.cw_nolocktree_k35_twins_of_trees_holds : PySem.Challenge.rw_nolocktree_k35_twins_of_trees.Holds := by
 refine PySem.Challenge.K35hd ?_
 k_fill
 refine L2.walk_ofK (l:=PySem.Challenge.rw_nolocktree_k35_twins_of_trees) (n:=63) (k:=14) (x:="_law_script") (CX:=L2.CX0) (sp:=K31.spLaw) rfl (by decide) rfl ⟨rfl,by decide,by decide,rfl⟩ (fun w h Y=>PySem.W.kIn_of Y) ?F ?S ?C
 case S=>exact fun K H a ns hl hO hS=>⟨a,ns,rfl,hS,hl,fun _=>rfl⟩
 case C=>exact fun _ _ _ _ z=>z
 case F=>
  intro w mg fa h KX G hmg
  have F:K31.Fc (L2.KOf KX) mg:=by
   dsimp only [L2.KOf]
   constructor
   case PX=>
    refine' K31.pg_mk KX G ?aC ?l1 ?c1 (fun _ _ _ _ _ _ us hl=>match us,hl with | [_,_,_],_=>rfl) rfl rfl rfl rfl ?b1 ?b2 ?b3
    (case aC=>k_is); (case b1=>k_is); (case b2=>k_is); (case b3=>k_is); (case l1=>k_is); (case c1=>k_is)
   case LX=>
    refine' K31.kdn_mk KX G ?aC ?l1 ?c1 (fun _ _ _ _ _ _ us hl=>match us,hl with | [_,_,_],_=>rfl) ?m1 ?i1 ?i2 ?p1 ?p2 ?p3 ?p4 rfl ?q1 ?q2 ?q3 ?q4 ?n1 ?n2
    (case aC=>k_is); (case m1=>k_is); (case i1=>k_is); (case i2=>k_is); (case l1=>k_is); (case c1=>k_is); (case p1=>k_is); (case p2=>k_is); (case p3=>k_is); (case p4=>k_is); (case q1=>k_is); (case q2=>k_is); (case q3=>k_is); (case q4=>k_is); (case n1=>k_is); (case n2=>k_is)
   case IX=>
    refine' K31.kdn_mk KX G ?aC ?l1 ?c1 (fun _ _ _ _ _ _ us hl=>match us,hl with | [_,_,_],_=>rfl) ?m1 ?i1 ?i2 ?p1 ?p2 ?p3 ?p4 rfl ?q1 ?q2 ?q3 ?q4 ?n1 ?n2
    (case aC=>k_is); (case m1=>k_is); (case i1=>k_is); (case i2=>k_is); (case l1=>k_is); (case c1=>k_is); (case p1=>k_is); (case p2=>k_is); (case p3=>k_is); (case p4=>k_is); (case q1=>k_is); (case q2=>k_is); (case q3=>k_is); (case q4=>k_is); (case n1=>k_is); (case n2=>k_is)
   case KX=>
    refine' K31.kin_mk KX G ?aL ?aI ?lL ?lI ?m1 ?m2 ?m5 ?m6
    (case aL=>k_is); (case aI=>k_is); (case lL=>k_is); (case lI=>k_is); (case m1=>k_is); (case m2=>k_is); (case m5=>k_is); (case m6=>k_is)
   case BK=>
    refine' K31.both_mk KX G ?k1 ?l1 ?c1 (fun _ _ _ _ _ _ us hl=>match us,hl with | [_],_=>rfl) rfl ?aC ?aD ?k2
    (case aC=>k_is); (case aD=>k_is); (case k1=>k_is); (case k2=>k_is); (case l1=>k_is); (case c1=>k_is)
   case BG=>
    refine' K31.both_mk KX G ?k1 ?l1 ?c1 (fun _ _ _ _ _ _ us hl=>match us,hl with | [_],_=>rfl) rfl ?aC ?aD ?k2
    (case aC=>k_is); (case aD=>k_is); (case k1=>k_is); (case k2=>k_is); (case l1=>k_is); (case c1=>k_is)
   case RX=>
    refine' K31.rdn_mk KX G ?aC ?l1 ?c1 (fun _ _ _ _ _ _ us hl=>match us,hl with | [_],_=>rfl) ?m1 ?i1 ?i2 ?p1 ?p2 ?p3 ?p4 rfl rfl rfl rfl ?n1 ?n2 ?n3 ?n4 ?n5
    (case aC=>k_is); (case m1=>k_is); (case i1=>k_is); (case i2=>k_is); (case l1=>k_is); (case c1=>k_is); (case p1=>k_is); (case p2=>k_is); (case p3=>k_is); (case p4=>k_is); (case n1=>k_is); (case n2=>k_is); (case n3=>k_is); (case n4=>k_is); (case n5=>k_is)
   case NX=>
    refine' K31.ndn_mk KX G ?aC ?l1 ?c1 (fun _ _ _ _ _ _ us hl=>match us,hl with | [_,_,_,_,_],_=>rfl) ?m1 ?i1 ?i2 ?p1 ?p2 ?p3 ?p4 rfl rfl rfl rfl ?n1 ?n2 ?n3 ?n4 ?n5 ?n6
    (case aC=>k_is); (case m1=>k_is); (case i1=>k_is); (case i2=>k_is); (case l1=>k_is); (case c1=>k_is); (case p1=>k_is); (case p2=>k_is); (case p3=>k_is); (case p4=>k_is); (case n1=>k_is); (case n2=>k_is); (case n3=>k_is); (case n4=>k_is); (case n5=>k_is); (case n6=>k_is)
   case TX=>
    refine' K31.trn_mk KX G ?aC ?l1 ?c1 (fun _ _ _ _ _ _ us hl=>match us,hl with | [_,_],_=>rfl) ?m1 ?i1 ?i2 ?p1 ?p2 ?p3 ?p4 rfl rfl rfl rfl ?n1 ?n2 ?n3 ?n4 ?n5
    (case aC=>k_is); (case m1=>k_is); (case i1=>k_is); (case i2=>k_is); (case l1=>k_is); (case c1=>k_is); (case p1=>k_is); (case p2=>k_is); (case p3=>k_is); (case p4=>k_is); (case n1=>k_is); (case n2=>k_is); (case n3=>k_is); (case n4=>k_is); (case n5=>k_is)
   case r=>
    constructor
    case nz=>
     refine' PySem.W.mg_none_of KX G ?n
     (case n=>k_is)
    case T=>constructor <;> first | (refine' PySem.W.mg_none_of KX G ?n; (case n=>k_is)) | (refine' K31.int_of KX G ?c; (case c=>k_is))
    all_goals first
     | (refine' L2.dn_mk (ps:=[_]) KX G ?a ?l ?c ?k (fun _ _ _ _ _ _ us hl=>match us,hl with | [_],_=>rfl); (case a=>k_is); (case l=>k_is); (case c=>k_is); (case k=>k_is))
     | (refine' L2.dn_mk (ps:=[_,_]) KX G ?a ?l ?c ?k (fun _ _ _ _ _ _ us hl=>match us,hl with | [_,_],_=>rfl); (case a=>k_is); (case l=>k_is); (case c=>k_is); (case k=>k_is))
     | (refine' L2.dn_mk (ps:=[_,_,_]) KX G ?a ?l ?c ?k (fun _ _ _ _ _ _ us hl=>match us,hl with | [_,_,_],_=>rfl); (case a=>k_is); (case l=>k_is); (case c=>k_is); (case k=>k_is))
     | (refine' L2.dn_mk (ps:=[_,_,_,_]) KX G ?a ?l ?c ?k (fun _ _ _ _ _ _ us hl=>match us,hl with | [_,_,_,_],_=>rfl); (case a=>k_is); (case l=>k_is); (case c=>k_is); (case k=>k_is))
     | (refine' L2.dn_mk (ps:=[_,_,_,_,_]) KX G ?a ?l ?c ?k (fun _ _ _ _ _ _ us hl=>match us,hl with | [_,_,_,_,_],_=>rfl); (case a=>k_is); (case l=>k_is); (case c=>k_is); (case k=>k_is))
     | (refine' K31.meth_mk (ps:=[_]) KX G ?k1 ?l1 ?c1 (fun _ _ _ _ _ _ us hl=>match us,hl with | [_],_=>rfl) ?aC; (case aC=>k_is); (case k1=>k_is); (case l1=>k_is); (case c1=>k_is))
     | (refine' K31.meth_mk (ps:=[_,_]) KX G ?k1 ?l1 ?c1 (fun _ _ _ _ _ _ us hl=>match us,hl with | [_,_],_=>rfl) ?aC; (case aC=>k_is); (case k1=>k_is); (case l1=>k_is); (case c1=>k_is))
     | (refine' K31.meth_mk (ps:=[_,_,_]) KX G ?k1 ?l1 ?c1 (fun _ _ _ _ _ _ us hl=>match us,hl with | [_,_,_],_=>rfl) ?aC; (case aC=>k_is); (case k1=>k_is); (case l1=>k_is); (case c1=>k_is))
     | (refine' K31.meth_mk (ps:=[_,_,_,_,_]) KX G ?k1 ?l1 ?c1 (fun _ _ _ _ _ _ us hl=>match us,hl with | [_,_,_,_,_],_=>rfl) ?aC; (case aC=>k_is); (case k1=>k_is); (case l1=>k_is); (case c1=>k_is))
     | (refine' K31.meth_mk (ps:=[_,_,_,_,_,_]) KX G ?k1 ?l1 ?c1 (fun _ _ _ _ _ _ us hl=>match us,hl with | [_,_,_,_,_,_],_=>rfl) ?aC; (case aC=>k_is); (case k1=>k_is); (case l1=>k_is); (case c1=>k_is))
  obtain ⟨fd,hb,hf⟩:=K31.last (P:=PySem.Challenge.rw_nolocktree_k35_twins_of_trees.prog) (w:=w) F hmg
  exact ⟨fd,hb,fun base _ _=>hf base⟩
